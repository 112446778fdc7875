import PyProof.Rows.All
import Wide.All
import OpenK.AllK
import Wide.FinOn
import Lean
import PyProof.EqAt
import PyProof.EqKinds
import PyProof.TupleCall
import KE.KDictOf
import KE.KMinBuiltin
import PyProof.FString
import PyProof.ZipIter
import KE.KTurns
import PySem.Challenge.RW_lockflight_k16_flights_drawn
-- CHANGE: your row's module here, as the last of these rows
set_option Elab.async false
set_option linter.all false
set_option maxRecDepth 100000
namespace L2
open PySem PySem.Spec PyProof.Rows

abbrev Key := Sum Int Str
def keyIs : Key → Value → Bool
  | .inl k, v => Value.isInt k v
  | .inr x, v => Value.isStrOf x v
def keyH (w : World) : Key → Int
  | .inl k => hashInt k
  | .inr x => hashStr w x
theorem keyIs_shape : ∀ {k : Key} {v : Value}, keyIs k v = true → (∃ i t, k = Sum.inl i ∧ v = Value.int i t) ∨ (∃ x t, k = Sum.inr x ∧ v = Value.str x t)
  | .inl i, v, h => by
    obtain ⟨t, e⟩ := Value.isInt_shape (k := i) (v := v) h
    exact .inl ⟨i, t, rfl, e⟩
  | .inr x, v, h => by
    obtain ⟨t, e⟩ := Value.isStrOf_shape (x := x) (v := v) h
    exact .inr ⟨x, t, rfl, e⟩
theorem keyIs_int (i : Int) (t : Tok) : keyIs (.inl i) (.int i t) = true := by simp [keyIs, Value.isInt]
theorem keyIs_str (x : Str) (t : Tok) : keyIs (.inr x) (.str x t) = true := by simp [keyIs, Value.isStrOf]
theorem key_ll (a b : Int) : decide ((Sum.inl a : Key) = Sum.inl b) = (a == b) := by
  by_cases e : a = b
  · subst e; simp
  · have h : ¬ (Sum.inl a : Key) = Sum.inl b := fun q => e (Sum.inl.inj q)
    rw [decide_eq_false h]
    exact (beq_eq_false_iff_ne.mpr e).symm
theorem key_rr (a b : Str) : decide ((Sum.inr a : Key) = Sum.inr b) = decide (a = b) := by
  by_cases e : a = b
  · subst e; simp
  · have h : ¬ (Sum.inr a : Key) = Sum.inr b := fun q => e (Sum.inr.inj q)
    rw [decide_eq_false h, decide_eq_false e]
theorem key_lr (a : Int) (b : Str) : decide ((Sum.inl a : Key) = Sum.inr b) = false := decide_eq_false (fun q => nomatch q)
theorem key_rl (a : Str) (b : Int) : decide ((Sum.inr a : Key) = Sum.inl b) = false := decide_eq_false (fun q => nomatch q)

def mixKind (prog : Program) (w : World) : PySem.KeyKind prog w Key where
  is := keyIs
  hash := keyH w
  inj := fun v a b ha hb => by
    rcases keyIs_shape ha with ⟨i, t, rfl, rfl⟩ | ⟨x, t, rfl, rfl⟩
    · rcases keyIs_shape hb with ⟨j, u, rfl, e⟩ | ⟨y, u, rfl, e⟩
      · injection e with e1 _; rw [e1]
      · exact nomatch e
    · rcases keyIs_shape hb with ⟨j, u, rfl, e⟩ | ⟨y, u, rfl, e⟩
      · exact nomatch e
      · injection e with e1 _; rw [e1]
  byValue := fun k v h => by
    rcases keyIs_shape h with ⟨i, t, rfl, rfl⟩ | ⟨x, t, rfl, rfl⟩ <;> rfl
  pyHash := fun hv h => by
    rcases keyIs_shape hv with ⟨i, t, rfl, rfl⟩ | ⟨x, t, rfl, rfl⟩
    · exact wpAny_pyHash_int h
    · exact wpAny_pyHash_str h
  eqBool := fun hu hv h => by
    rcases keyIs_shape hu with ⟨i, t, rfl, rfl⟩ | ⟨x, t, rfl, rfl⟩
    · rcases keyIs_shape hv with ⟨j, u, rfl, rfl⟩ | ⟨y, u, rfl, rfl⟩
      · rw [key_ll] at h; exact wpAny_eqBool_int h
      · rw [key_lr] at h; exact SeqAt.EqAt.int_str i t y u _ _ _ _ h
    · rcases keyIs_shape hv with ⟨j, u, rfl, rfl⟩ | ⟨y, u, rfl, rfl⟩
      · rw [key_rl] at h; exact SeqAt.EqAt.str_int x t j u _ _ _ _ h
      · rw [key_rr] at h; exact wpAny_eqBool_str h
  «strs» := fun k x t v h => by
    rcases keyIs_shape h with ⟨i, u, rfl, e⟩ | ⟨y, u, rfl, e⟩
    · exact nomatch e
    · injection e with e1 _
      subst e1
      cases v <;> rfl

theorem mixKind_int (prog : Program) (w : World) (i : Int) (t : Tok) : (mixKind prog w).is (.inl i) (.int i t) = true := keyIs_int i t
theorem mixKind_str (prog : Program) (w : World) (x : Str) (t : Tok) : (mixKind prog w).is (.inr x) (.str x t) = true := keyIs_str x t
end L2

namespace L2
open PySem PySem.Spec PyProof.Rows

inductive V where
  | non | bl (b : Bool) | int (i : Int) | str (x : Str) | byt (b : Array UInt8) | flt (b : UInt64) | ref (a : Addr) | ty (n : String)
  deriving DecidableEq

def RelV : V → Value → Prop
  | .non, u => u = Value.none
  | .bl b, u => u = Value.bool b
  | .int i, u => ∃ t, u = Value.int i t
  | .str x, u => ∃ t, u = Value.str x t
  | .byt b, u => ∃ t, u = Value.bytes b t
  | .flt b, u => ∃ t, u = Value.float b t
  | .ref a, u => u = Value.ref a
  | .ty n, u => u = Value.type n

abbrev Vals : List V → List Value → Prop := Paired RelV
theorem Vals.length {xs : List V} {us : List Value} (r : Vals xs us) : xs.length = us.length := Paired.length r
theorem Vals.get : ∀ {xs : List V} {us : List Value} {i : Nat} {x : V}, Vals xs us → xs[i]? = some x → ∃ u, us[i]? = some u ∧ RelV x u
  | _, _, _, _, .nil, e => by simp at e
  | _, _, 0, _, .cons r _, e => by simp at e; subst e; exact ⟨_, rfl, r⟩
  | _, _, i + 1, x, .cons _ t, e => by
    obtain ⟨u, h1, h2⟩ := Vals.get (i := i) (x := x) t (by simpa using e)
    exact ⟨u, by simpa using h1, h2⟩
theorem Vals.set {x : V} {u : Value} (r : RelV x u) : ∀ {xs : List V} {us : List Value} (i : Nat), Vals xs us → Vals (xs.set i x) (us.set i u)
  | _, _, _, .nil => .nil
  | _, _, 0, .cons _ t => .cons r t
  | _, _, i + 1, .cons q t => .cons q (Vals.set r i t)
theorem Vals.append : ∀ {xs ys : List V} {us ws : List Value}, Vals xs us → Vals ys ws → Vals (xs ++ ys) (us ++ ws)
  | _, _, _, _, .nil, s => s
  | _, _, _, _, .cons r t, s => .cons r (Vals.append t s)
theorem Vals.take : ∀ {xs : List V} {us : List Value} (n : Nat), Vals xs us → Vals (xs.take n) (us.take n)
  | _, _, 0, _ => .nil
  | _, _, _ + 1, .nil => .nil
  | _, _, n + 1, .cons r t => .cons r (Vals.take n t)
theorem Vals.drop : ∀ {xs : List V} {us : List Value} (n : Nat), Vals xs us → Vals (xs.drop n) (us.drop n)
  | _, _, 0, r => r
  | _, _, _ + 1, .nil => .nil
  | _, _, n + 1, .cons _ t => Vals.drop n t
def RelO : Option V → Option Value → Prop
  | some v, some u => RelV v u
  | none, none => True
  | _, _ => False
def KV {κ : Type} : List (κ × V) → List (κ × Value) → Prop := Paired fun (p : κ × V) (q : κ × Value) => p.1 = q.1 ∧ RelV p.2 q.2

def kV : Key → V
  | .inl i => .int i
  | .inr x => .str x

inductive HO where
  /-- a list -/
  | lst (xs : List V)
  /-- a tuple (never changes) -/
  | tup (xs : List V)
  /-- a dict whose keys are ints and texts; one whose keys are tuples of ints and texts (the empty one is both) -/
  | dK (kvs : List (Key × V)) | dT (kvs : List (List Key × V))
  /-- a set of ints: its members, its size -/
  | set (S : Int → Bool) (n : Nat)
  /-- an instance of the class at C, its dict at dx, its attributes -/
  | ins (C dx : Addr) (fs : List (Str × V))
  /-- the dict of the instance at x -/
  | own (x : Addr)
  /-- the dict of an exception -/
  | xd (fs : List (Str × V))
  /-- a bound method, f of x -/
  | met (f x : Addr)
  /-- a range object lo, lo + 1, .. below hi -/
  | rng (lo hi : Int)
  /-- a thing that is known to the object (the script; a dict while a loop walks it): read, never written while it is so -/
  | frz (o : Obj) (u : HO)
  /-- a code object's table -/
  | tbl (ps : Array Value)
  /-- any other thing, by what is true of its one object (a def of one's own: SetO a S n := HO.ext fun h => ..) -/
  | ext (φ : Heap → Prop)

abbrev Hp := Addr → Option HO
def upd (H : Hp) (a : Addr) (o : HO) : Hp := fun b => if b = a then some o else H b
theorem upd_same {H : Hp} {a : Addr} {o : HO} : upd H a o a = some o := by unfold upd; rw [if_pos rfl]
theorem upd_ne {H : Hp} {a b : Addr} {o : HO} (h : b ≠ a) : upd H a o b = H b := by unfold upd; rw [if_neg h]
theorem ne_of {H : Hp} {a b : Addr} {o u : HO} (h : H a = some o) (h' : H b = some u) (d : o ≠ u) : a ≠ b := by
  intro e; subst e; rw [h] at h'; exact d (Option.some.inj h')
theorem ne_of_none {H : Hp} {a b : Addr} {o : HO} (h : H a = some o) (h' : H b = none) : a ≠ b := by
  intro e; subst e; rw [h] at h'; cases h'

section
variable (P : Program) (w : World)
def ObjOk (H : Hp) (h : Heap) (a : Addr) : HO → Prop
  | .lst xs => xs.length ≤ sizeLine ∧ ∃ (its : List Value) (n : Nat), Vals xs its ∧ h.get? a = some { cls := .type "list", data := .seq its.toArray n }
  | .tup xs => xs.length ≤ sizeLine ∧ ∃ its : List Value, Vals xs its ∧ IsTup h a its.toArray
  | .dK kvs => kvs.length ≤ sizeLine ∧ (a == sysModules) = false ∧ ∃ vs, KV kvs vs ∧ h.DictOf (mixKind P w) a vs
  | .dT kvs => kvs.length ≤ sizeLine ∧ (a == sysModules) = false ∧ ∃ xs : List (List Key × Addr × Value),
      Paired (fun (p : List Key × V) (q : List Key × Addr × Value) => p.1 = q.1 ∧ H q.2.1 = some (.tup (p.1.map kV)) ∧ RelV p.2 q.2.2) kvs xs ∧
      ∃ o es ep, h.get? a = some o ∧ o.ExactDict ∧ o.data = .dict es ep ∧ es.toList = xs.map (entryOfKey (tupleKind (mixKind P w))) ∧ (xs.map (·.1)).Nodup
  | .set S n => h.SetOf (intKind P w) a S n
  | .ins C dx fs => H dx = some (.own a) ∧ fs.length ≤ 1000 ∧ dx ≠ a ∧ h.get? a = some (PySem.W.instObj C dx) ∧
      ∃ mA, h.Ns1 dx mA ∧ (∀ f, RelO (fs.lookup f) (mA f)) ∧ PySem.Within mA (fs.map (·.1))
  | .own _ => ∃ o, h.get? a = some o
  | .xd fs => ∃ mA, h.Ns1 a mA ∧ ∀ f, RelO (fs.lookup f) (mA f)
  | .rng lo hi => ∃ t u v, h.get? a = some { cls := .type "range", data := .fields #[.int lo t, .int hi u, .int 1 v] }
  | .frz o u => h.get? a = some o ∧ ObjOk H h a u
  | .tbl ps => h.get? a = some { cls := .none, data := .fields ps }
  | .met f x => h.get? a = some (PySem.W.methodObj (.ref f) (.ref x))
  | .ext φ => φ h ∧ (∃ o, h.get? a = some o) ∧ ∀ h1 h2 : Heap, φ h1 → (∀ o, h1.get? a = some o → h2.get? a = some o) → φ h2
def HOk (H : Hp) (h : Heap) : Prop := ∀ a o, H a = some o → ObjOk P w H h a o
end

section
variable {P : Program} {w : World} {H H' : Hp} {h h' : Heap} {a : Addr} {o : HO}
theorem ObjOk.lt (x : ObjOk P w H h a o) : a < h.objs.size := by
  cases o with
  | lst xs => obtain ⟨_, _, _, _, e⟩ := x; exact Heap.lt_size e
  | tup xs => obtain ⟨_, _, _, p⟩ := x; exact p.lt
  | dK kvs => obtain ⟨_, _, _, _, o, _, _, e, _⟩ := x; exact Heap.lt_size e
  | dT kvs => obtain ⟨_, _, _, _, o, _, _, e, _⟩ := x; exact Heap.lt_size e
  | set S n => obtain ⟨o, _, _, _, e, _⟩ := x; exact Heap.lt_size e
  | ins C dx fs => obtain ⟨_, _, _, e, _⟩ := x; exact Heap.lt_size e
  | own y => obtain ⟨_, e⟩ := x; exact Heap.lt_size e
  | xd fs => obtain ⟨_, ⟨_, _, _, e, _⟩, _⟩ := x; exact Heap.lt_size e
  | rng lo hi => obtain ⟨_, _, _, e⟩ := x; exact Heap.lt_size e
  | frz ob u => obtain ⟨e, _⟩ := x; exact Heap.lt_size e
  | tbl ps => exact Heap.lt_size (show h.get? a = some _ from x)
  | met f y => exact Heap.lt_size (show h.get? a = some _ from x)
  | ext φ => obtain ⟨_, ⟨_, e⟩, _⟩ := x; exact Heap.lt_size e
theorem Paired.mapP {α β : Type} {F G : α → β → Prop} : ∀ {l₁ : List α} {l₂ : List β}, Paired F l₁ l₂ → (∀ a b, F a b → G a b) → Paired G l₁ l₂
  | _, _, .nil, _ => .nil
  | _, _, .cons r t, f => .cons (f _ _ r) (Paired.mapP t f)
theorem ObjOk.stay (x : ObjOk P w H h a o) (k : ∀ b u, (b = a ∨ H b = some (.own a)) → h.get? b = some u → h'.get? b = some u)
    (ho : ∀ b, H b = some (.own a) → H' b = some (.own a)) (ht : ∀ b xs, H b = some (.tup xs) → H' b = some (.tup xs)) : ObjOk P w H' h' a o := by
  induction o with
  | lst xs => obtain ⟨z, its, n, r, e⟩ := x; exact ⟨z, its, n, r, k _ _ (.inl rfl) e⟩
  | tup xs => obtain ⟨z, its, r, ob, e, c⟩ := x; exact ⟨z, its, r, ob, k _ _ (.inl rfl) e, c⟩
  | dK kvs => obtain ⟨z, y, vs, r, ob, es, ep, e, c⟩ := x; exact ⟨z, y, vs, r, ob, es, ep, k _ _ (.inl rfl) e, c⟩
  | dT kvs =>
    obtain ⟨z, y, xs, r, ob, es, ep, e, c⟩ := x
    exact ⟨z, y, xs, Paired.mapP r fun p q z => ⟨z.1, ht _ _ z.2.1, z.2.2⟩, ob, es, ep, k _ _ (.inl rfl) e, c⟩
  | set S n => obtain ⟨ob, es, ep, t, e, c⟩ := x; exact ⟨ob, es, ep, t, k _ _ (.inl rfl) e, c⟩
  | ins C dx fs =>
    obtain ⟨d, z, ne, e, mA, ⟨od, es, ep, e2, c⟩, r⟩ := x
    exact ⟨ho _ d, z, ne, k _ _ (.inl rfl) e, mA, ⟨od, es, ep, k _ _ (.inr d) e2, c⟩, r⟩
  | own y => obtain ⟨ob, e⟩ := x; exact ⟨ob, k _ _ (.inl rfl) e⟩
  | xd fs => obtain ⟨mA, ⟨od, es, ep, e, c⟩, r⟩ := x; exact ⟨mA, ⟨od, es, ep, k _ _ (.inl rfl) e, c⟩, r⟩
  | rng lo hi => obtain ⟨t, u, v, e⟩ := x; exact ⟨t, u, v, k _ _ (.inl rfl) e⟩
  | frz ob u ih => obtain ⟨e, q⟩ := x; exact ⟨k _ _ (.inl rfl) e, ih q⟩
  | tbl ps =>
    have e : h.get? a = some { cls := .none, data := .fields ps } := x
    show h'.get? a = some { cls := .none, data := .fields ps }
    exact k a _ (.inl rfl) e
  | met f y =>
    have e : h.get? a = some (PySem.W.methodObj (.ref f) (.ref y)) := x
    show h'.get? a = some (PySem.W.methodObj (.ref f) (.ref y))
    exact k a _ (.inl rfl) e
  | ext φ => obtain ⟨p, ⟨o, e⟩, st⟩ := x; exact ⟨st _ _ p fun o q => k _ _ (.inl rfl) q, ⟨o, k _ _ (.inl rfl) e⟩, st⟩
theorem HOk.lt (x : HOk P w H h) (e : H a = some o) : a < h.objs.size := (x a o e).lt
theorem HOk.fresh (x : HOk P w H h) (e : h.objs.size ≤ a) : H a = none := by
  cases q : H a with
  | none => rfl
  | some u => exact absurd (Nat.lt_of_lt_of_le (x.lt q) e) (Nat.lt_irrefl _)
theorem HOk.kept (x : HOk P w H h) (k : ∀ b u, h.get? b = some u → h'.get? b = some u) : HOk P w H h' := fun a o e =>
  (x a o e).stay (fun b u _ q => k b u q) (fun _ q => q) fun _ _ q => q
theorem HOk.laid (x : HOk P w H h) (k : ∀ b u, h.get? b = some u → h'.get? b = some u) (hp : h.objs.size ≤ a) (new : ObjOk P w (upd H a o) h' a o) : HOk P w (upd H a o) h' := fun b u e => by
  have hn := x.fresh hp
  by_cases hb : b = a
  · subst hb; rw [upd_same] at e; cases e; exact new
  · rw [upd_ne hb] at e
    exact (x b u e).stay (fun c v _ q => k c v q) (fun c q => by rw [upd_ne (ne_of_none q hn)]; exact q) fun c xs q => by rw [upd_ne (ne_of_none q hn)]; exact q
end

def Rd (H : Hp) (a : Addr) (u : HO) : Prop := H a = some u ∨ ∃ o, H a = some (.frz o u)
theorem Rd.ok {P : Program} {w : World} {H : Hp} {h : Heap} {a : Addr} {u : HO} (r : Rd H a u) (x : HOk P w H h) : ObjOk P w H h a u := by
  rcases r with r | ⟨o, r⟩
  · exact x a u r
  · obtain ⟨_, q⟩ := x a _ r
    exact q
def Mut : Option HO → Prop
  | some (.lst _) => True
  | some (.dK _) => True
  | some (.dT _) => True
  | some (.set _ _) => True
  | some (.ins _ _ _) => True
  | some (.ext _) => True
  | _ => False
section
variable {P : Program} {w : World} {H : Hp} {h h' : Heap} {x e : Addr} {o' : HO}
theorem HOk.write (ok : HOk P w H h) (mu : Mut (H x)) (he : e = x ∨ H e = some (.own x)) (k : ∀ b u, b ≠ e → h.get? b = some u → h'.get? b = some u) (heo : ∃ u, h'.get? e = some u)
    (new : ObjOk P w (upd H x o') h' x o') : HOk P w (upd H x o') h' := fun b u q => by
  have nown : ∀ c y, H c = some (.own y) → c ≠ x := fun c y r z => by subst z; rw [r] at mu; exact mu
  have ntup : ∀ c xs, H c = some (.tup xs) → c ≠ x := fun c xs r z => by subst z; rw [r] at mu; exact mu
  by_cases hb : b = x
  · subst hb; rw [upd_same] at q; cases q; exact new
  · rw [upd_ne hb] at q
    by_cases hbe : b = e
    · have q' : H b = some (.own x) := by
        rcases he with z | z
        · exact absurd (hbe.trans z) hb
        · rw [hbe]; exact z
      rw [q] at q'; cases q'
      obtain ⟨v, hv⟩ := heo
      exact ⟨v, by rw [hbe]; exact hv⟩
    · refine (ok b u q).stay (fun c v hc r => k c v ?_ r) (fun c r => by rw [upd_ne (nown c b r)]; exact r) fun c xs r => by rw [upd_ne (ntup c xs r)]; exact r
      rcases hc with rfl | hc
      · exact hbe
      · rintro rfl
        rcases he with z | z
        · exact nown c b hc z
        · rw [hc] at z; cases z; exact hb rfl
end

structure Un (fs ex : List Addr) (H H' : Hp) (h h' : Heap) : Prop where
  keep : ∀ b o, h.get? b = some o → H b = none → b ∉ fs → b ∉ ex → h'.get? b = some o
  slot : ∀ b o, h.get? b = some o → H b = none → b ∈ fs → b ∉ ex → ∃ sl, h'.get? b = some { o with slots := sl }
  free : ∀ b o, h.get? b = some o → H b = none → b ∉ ex → H' b = none
  there : ∀ b o, h.get? b = some o → b ∉ ex → ∃ o', h'.get? b = some o'
  tups : ∀ b xs, H b = some (.tup xs) → H' b = some (.tup xs)
  frzs : ∀ b o u, H b = some (.frz o u) → H' b = some (.frz o u)
  tbls : ∀ b ps, H b = some (.tbl ps) → ∃ more, H' b = some (.tbl (ps ++ more))
section
variable {fs fs' ex ex' : List Addr} {H H1 H2 : Hp} {h h1 h2 h' : Heap} {a x e : Addr} {o : HO}
theorem Un.any (u : Un fs ex H H1 h h1) {b : Addr} {ob : Obj} (q : h.get? b = some ob) (n : H b = none) (hx : b ∉ ex) : ∃ sl, h1.get? b = some { ob with slots := sl } := by
  by_cases hb : b ∈ fs
  · exact u.slot b ob q n hb hx
  · exact ⟨ob.slots, u.keep b ob q n hb hx⟩
theorem Un.kept (k : ∀ b u, h.get? b = some u → h'.get? b = some u) : Un fs ex H H h h' :=
  ⟨fun b ob q _ _ _ => k b ob q, fun b ob q _ _ _ => ⟨ob.slots, k b ob q⟩, fun _ _ _ n _ => n, fun b ob q _ => ⟨ob, k b ob q⟩, fun _ _ q => q, fun _ _ _ q => q, fun _ ps q => ⟨#[], by rw [q]; simp⟩⟩
theorem Un.refl : Un fs ex H H h h := Un.kept fun _ _ q => q
theorem Un.laid (k : ∀ b u, h.get? b = some u → h'.get? b = some u) (hp : h.objs.size ≤ a) (hn : H a = none) : Un fs ex H (upd H a o) h h' where
  keep := fun b u q _ _ _ => k b u q
  slot := fun b u q _ _ _ => ⟨u.slots, k b u q⟩
  free := fun b u q n _ => by rw [upd_ne (Nat.ne_of_lt (Nat.lt_of_lt_of_le (Heap.lt_size q) hp))]; exact n
  there := fun b u q _ => ⟨u, k b u q⟩
  tups := fun b xs q => by rw [upd_ne (ne_of_none q hn)]; exact q
  frzs := fun b u xs q => by rw [upd_ne (ne_of_none q hn)]; exact q
  tbls := fun b ps q => ⟨#[], by rw [upd_ne (ne_of_none q hn), q]; simp⟩
theorem Un.write (mu : Mut (H x)) (he : e = x ∨ H e = some (.own x)) (k : ∀ b u, b ≠ e → h.get? b = some u → h'.get? b = some u) (heo : ∃ u, h'.get? e = some u) : Un fs ex H (upd H x o) h h' := by
  have hx : ∀ b, H b = none → b ≠ x := fun b n z => by subst z; rw [n] at mu; exact mu
  have hb : ∀ b, H b = none → b ≠ e := fun b n z => by
    subst z
    rcases he with r | r
    · exact hx b n r
    · rw [n] at r; cases r
  have hm : ∀ b u, H b = some u → ¬ Mut (some u) → b ≠ x := fun b u q nm z => by subst z; rw [q] at mu; exact nm mu
  refine ⟨fun b u q n _ _ => k b u (hb b n) q, fun b u q n _ _ => ⟨u.slots, k b u (hb b n) q⟩, fun b u q n _ => by rw [upd_ne (hx b n)]; exact n, fun b u q _ => ?_,
    fun b xs q => by rw [upd_ne (hm b _ q fun z => z)]; exact q, fun b u xs q => by rw [upd_ne (hm b _ q fun z => z)]; exact q, fun b ps q => ⟨#[], by rw [upd_ne (hm b _ q fun z => z), q]; simp⟩⟩
  by_cases hbe : b = e
  · subst hbe; exact heo
  · exact ⟨u, k b u hbe q⟩
end

def trk (h : Heap) (H : Hp) : List Addr := (List.range h.objs.size).filter fun a => (H a).isSome
def hidT (h : Heap) (H : Hp) : Heap := PySem.W.hideAll h (trk h H)
theorem hidT_size (h : Heap) (H : Hp) : (hidT h H).objs.size = h.objs.size := PySem.W.hideAll_size _ _
theorem hidT_get {h : Heap} {H : Hp} {b : Addr} {o : Obj} (e : h.get? b = some o) (n : H b = none) : (hidT h H).get? b = some o :=
  PySem.W.hideAll_get _ e fun hm => by
    have q : (H b).isSome = true := (List.mem_filter.mp hm).2
    rw [n] at q; simp at q
theorem of_hidT {h : Heap} {H : Hp} {b : Addr} {o : Obj} (e : (hidT h H).get? b = some o) : h.get? b = some o ∧ H b = none := by
  have e' : h.get? b = some o := PySem.W.of_hideAll (trk h H) e
  refine ⟨e', ?_⟩
  cases q : H b with
  | none => rfl
  | some x =>
    have hm : b ∈ trk h H := List.mem_filter.mpr ⟨List.mem_range.mpr (Heap.lt_size e'), by simp [q]⟩
    have z : (hidT h H).get? b = none := PySem.W.hideAll_none (trk h H) hm
    rw [z] at e; cases e

def allNews (g h : Heap) (L : Addr) : List (Addr × Obj) := (List.range h.objs.size).filterMap fun a => if a = L ∨ (g.get? a).isSome = true then none else (h.get? a).map fun o => (a, o)
def rest (g h : Heap) (L d : Addr) : List (Addr × Obj) := (allNews g h L).filter fun p => decide (p.1 ≠ d)
end L2

namespace L2
open PySem PySem.Spec PyProof.Rows

structure Mod (K : PySem.W.Frag) (mg : Str → Option Value) (base : Heap) : Prop where
  kin : K.In base
  glob : base.Ns mainGlobals mg
  blt : ∃ mb, base.Ns builtinsNs mb ∧ ∀ x : Str, x ≠ "__name__" → mb x = bootBuiltins x
  nolimit : base.NoLimit

structure Cx where
  prog : Program
  w : World
  K : PySem.W.Frag
  mg : Str → Option Value
  base : Heap
  A : Around
  N : List Str
  s₀ : Shared
  H₀ : Hp
  env : Env
  outer : List Env
  stack : List Env
  ex : List Addr
  fn : Str → Bool
  calm : Bool
  pn : List (Addr × Obj)
  xe : Value → Shared → Prop
def frs (l : List Env) : List Addr := l.filterMap (·.frame)
abbrev Cx.fs (X : Cx) : List Addr := frs X.outer

def Vis (sc : Scope) (x : Str) : Prop := sc.names.lookup x = some .local ∨ sc.names.lookup x = some .cell ∨ sc.names.lookup x = some .free
def Loc (sc : Scope) (x : Str) : Prop := sc.names.lookup x = some .local ∨ sc.names.lookup x = some .cell
def Look (env : Env) (h : Heap) (m : Str → Option Value) (x : Str) (u : Value) : Prop :=
  (env.kindOf x = some .local ∧ m x = some u) ∨ ((env.kindOf x = some .cell ∨ env.kindOf x = some .free) ∧ ∃ c, env.cells.lookup x = some c ∧ h.IsCell c (some u))

structure Cx.Ok (X : Cx) : Prop where
  mod : Mod X.K X.mg X.base
  kind : X.env.scope.kind = .function
  glob : X.env.globals = mainGlobals
  blt : X.env.builtins = builtinsNs
  above : X.s₀.heap.objs.size ≤ X.env.locals
  inj : ∀ x y c, X.env.cells.lookup x = some c → X.env.cells.lookup y = some c → x = y
  has : ∀ x, (X.env.kindOf x = some .cell ∨ X.env.kindOf x = some .free) → ∃ c, X.env.cells.lookup x = some c
  cab : ∀ x c, X.fn x = true → X.env.cells.lookup x = some c → X.s₀.heap.objs.size ≤ c
  hd : X.calm = true → X.A.handled = none
  frames : X.A.frames = some X.stack
  stk : X.stack = X.outer ∨ (X.stack = X.env :: X.outer ∧ X.env.frame = some X.env.locals)
  exf : ∀ b ∈ X.ex, b ≠ X.env.locals ∧ ∀ x c, X.env.cells.lookup x = some c → c ≠ b
  bs : ∀ b o, X.base.get? b = some o → X.s₀.heap.get? b = some o ∧ X.H₀ b = none
  bsz : X.base.objs.size ≤ X.s₀.heap.objs.size
  noex : ∀ b o, X.base.get? b = some o → b ∉ X.ex
  exfs : ∀ b ∈ X.ex, b ∉ X.fs
  funs : X.s₀.heap.FunFrames X.base X.outer
  frf : ∀ b ∈ X.fs, X.H₀ b = none

structure Inv (X : Cx) (pins : List (Addr × Obj)) (σ : List (Option V)) (H : Hp) (s : Shared) : Prop where
  ok : X.Ok
  os : s.os = X.s₀.os
  bare : AllBare s.gens
  base : Un X.fs X.ex X.H₀ H X.s₀.heap s.heap
  loc : ∃ m, s.heap.Ns X.env.locals m ∧ ∀ (i : Nat) (x : Str) (v : V), X.N[i]? = some x → σ[i]? = some (some v) → Vis X.env.scope x → ∃ u, RelV v u ∧ Look X.env s.heap m x u
  cell : ∀ x c, X.env.cells.lookup x = some c → ∃ v, s.heap.IsCell c v
  free : H X.env.locals = none
  freeC : ∀ x c, X.env.cells.lookup x = some c → H c = none
  pin : ∀ p ∈ X.pn ++ pins, s.heap.get? p.1 = some p.2 ∧ H p.1 = none ∧ p.1 ≠ X.env.locals ∧ p.1 ∉ X.fs ∧ ∀ v, p.2.data ≠ .cell v
  hok : HOk X.prog X.w H s.heap
  len : σ.length = X.N.length

section
variable {X : Cx} {pins : List (Addr × Obj)} {σ : List (Option V)} {H H' : Hp} {s : Shared} {h' : Heap}

theorem Cx.Ok.nofr (ok : X.Ok) {b : Addr} {o : Obj} (e : X.base.get? b = some o) : b ∉ X.fs := fun hb => by
  have := (ok.funs.mem hb).1
  rw [e] at this; cases this
theorem Inv.bs (I : Inv X pins σ H s) : ∀ b o, X.base.get? b = some o → s.heap.get? b = some o ∧ H b = none := fun b o e =>
  ⟨I.base.keep b o (I.ok.bs b o e).1 (I.ok.bs b o e).2 (I.ok.nofr e) (I.ok.noex b o e), I.base.free b o (I.ok.bs b o e).1 (I.ok.bs b o e).2 (I.ok.noex b o e)⟩
theorem Inv.bk (I : Inv X pins σ H s) : ∀ b o, X.base.get? b = some o → s.heap.get? b = some o := fun b o e => (I.bs b o e).1
theorem Inv.mod (I : Inv X pins σ H s) : Mod X.K X.mg X.base := I.ok.mod
theorem Inv.kIn (I : Inv X pins σ H s) : X.K.In s.heap := I.ok.mod.kin.keeps I.bk
theorem Inv.lt (I : Inv X pins σ H s) : X.env.locals < s.heap.objs.size := let ⟨_, hn, _⟩ := I.loc; hn.lt
theorem Inv.sz (I : Inv X pins σ H s) : X.s₀.heap.objs.size ≤ s.heap.objs.size := Nat.le_trans I.ok.above (Nat.le_of_lt I.lt)
theorem Inv.nofs (I : Inv X pins σ H s) {a : Addr} (h : s.heap.objs.size ≤ a) : a ∉ X.fs := fun hb => by
  obtain ⟨_, o, ho, _⟩ := I.ok.funs.mem hb
  exact absurd (Nat.lt_of_lt_of_le (Heap.lt_size ho) (Nat.le_trans I.sz h)) (Nat.lt_irrefl _)
theorem Inv.cne (I : Inv X pins σ H s) : ∀ x c, X.env.cells.lookup x = some c → c ≠ X.env.locals := fun x c e z => by
  obtain ⟨v, o, ho, hd⟩ := I.cell x c e
  obtain ⟨m, ⟨o', es, ep, ho', hd', _⟩, _⟩ := I.loc
  rw [z, ho'] at ho; cases ho; rw [hd'] at hd; cases hd
theorem Inv.funs (I : Inv X pins σ H s) : s.heap.FunFrames X.base X.outer := by
  have all : ∀ (l : List Env), (∀ b ∈ frs l, b ∈ X.fs) → X.s₀.heap.FunFrames X.base l → s.heap.FunFrames X.base l := by
    intro l
    induction l with
    | nil => intro _ _; trivial
    | cons env r ih =>
      intro hs hl
      obtain ⟨hk, ⟨L, o, hf, hn, ho, hd⟩, hr⟩ := hl
      have hL : L ∈ X.fs := hs L (by unfold frs; rw [List.filterMap_cons, hf]; exact List.mem_cons_self)
      obtain ⟨sl, e⟩ := I.base.slot L o ho (I.ok.frf L hL) hL fun z => I.ok.exfs L z hL
      exact ⟨hk, ⟨L, _, hf, hn, e, hd⟩, ih (fun b hb => hs b (by unfold frs; rw [List.filterMap_cons, hf]; exact List.mem_cons_of_mem _ hb)) hr⟩
  exact all X.outer (fun _ hb => hb) I.ok.funs

theorem Inv.stack (I : Inv X pins σ H s) : s.heap.FunFrames X.base X.stack := by
  rcases I.ok.stk with e | ⟨e, hf⟩
  · rw [e]; exact I.funs
  · rw [e]
    obtain ⟨m, hn, _⟩ := I.loc
    refine .cons (by rw [I.ok.kind]; decide) hf hn ?_ I.funs
    exact Heap.get?_none_of_le (Nat.le_trans I.ok.bsz I.ok.above)
theorem Inv.stkSub (I : Inv X pins σ H s) : ∀ b ∈ frs X.stack, b ∈ X.env.locals :: X.fs := fun b hb => by
  rcases I.ok.stk with e | ⟨e, hf⟩
  · rw [e] at hb; exact List.mem_cons_of_mem _ hb
  · rw [e] at hb
    unfold frs at hb
    rw [List.filterMap_cons, hf] at hb
    exact hb
theorem Inv.stkFree (I : Inv X pins σ H s) : ∀ b ∈ frs X.stack, H b = none := fun b hb => by
  rcases List.mem_cons.mp (I.stkSub b hb) with e | hb
  · rw [e]; exact I.free
  · obtain ⟨_, o, ho, _⟩ := I.ok.funs.mem hb
    exact I.base.free b o ho (I.ok.frf b hb) fun z => I.ok.exfs b z hb

theorem Inv.step {g' : Array GenState} {t' : Nat} {d' : Drawn} {ch : List Addr} (I : Inv X pins σ H s)
    (hch : ∀ b ∈ ch, (b ∈ X.ex ∨ X.s₀.heap.objs.size ≤ b) ∧ b ≠ X.env.locals ∧ (∀ x c, X.env.cells.lookup x = some c → c ≠ b) ∧ ∀ p ∈ X.pn ++ pins, p.1 ≠ b)
    (keep : ∀ b o, b ≠ X.env.locals → b ∉ X.fs → b ∉ ch → s.heap.get? b = some o → H b = none → h'.get? b = some o)
    (slot : ∀ b o, b ≠ X.env.locals → b ∈ X.fs → b ∉ ch → s.heap.get? b = some o → H b = none → ∃ sl, h'.get? b = some { o with slots := sl }) (free : ∀ b o, b ∉ ch → s.heap.get? b = some o → H b = none → H' b = none)
    (there : ∀ b o, b ∉ ch → s.heap.get? b = some o → ∃ o', h'.get? b = some o')
    (tups : ∀ b xs, H b = some (.tup xs) → H' b = some (.tup xs)) (frzs : ∀ b o u, H b = some (.frz o u) → H' b = some (.frz o u)) (tbls : ∀ b ps, H b = some (.tbl ps) → ∃ more, H' b = some (.tbl (ps ++ more)))
    (ns : ∀ m, s.heap.Ns X.env.locals m → h'.Ns X.env.locals m) (hok : HOk X.prog X.w H' h') (hg : AllBare g') :
    Inv X pins σ H' { s with heap := h', gens := g', drawn := d', toks := t' } := by
  have neL : ∀ b o, X.s₀.heap.get? b = some o → b ≠ X.env.locals := fun b o e => Nat.ne_of_lt (Nat.lt_of_lt_of_le (Heap.lt_size e) I.ok.above)
  have neC : ∀ b o, X.s₀.heap.get? b = some o → b ∉ X.ex → b ∉ ch := fun b o e hx hb => by
    rcases (hch b hb).1 with z | z
    · exact hx z
    · exact absurd (Nat.lt_of_lt_of_le (Heap.lt_size e) z) (Nat.lt_irrefl _)
  have cellK : ∀ x c, X.env.cells.lookup x = some c → ∀ v, s.heap.IsCell c v → h'.IsCell c v := fun x c e v ⟨o, ho, hd⟩ => by
    have nch : c ∉ ch := fun z => (hch c z).2.2.1 x c e rfl
    by_cases hc : c ∈ X.fs
    · obtain ⟨sl, q⟩ := slot c o (I.cne x c e) hc nch ho (I.freeC x c e)
      exact ⟨_, q, hd⟩
    · exact ⟨o, keep c o (I.cne x c e) hc nch ho (I.freeC x c e), hd⟩
  refine ⟨I.ok, I.os, hg, ⟨fun b o e n hb hx => ?_, fun b o e n hb hx => ?_, fun b o e n hx => ?_, fun b o e hx => ?_, fun b xs e => tups b xs (I.base.tups b xs e), fun b o xs e => frzs b o xs (I.base.frzs b o xs e), fun b ps e => ?_⟩, ?_, fun x c e => ?_, ?_, fun x c e => ?_, fun p hp => ?_, hok, I.len⟩
  · exact keep b o (neL b o e) hb (neC b o e hx) (I.base.keep b o e n hb hx) (I.base.free b o e n hx)
  · obtain ⟨sl, e1⟩ := I.base.slot b o e n hb hx
    obtain ⟨sl', e2⟩ := slot b _ (neL b o e) hb (neC b o e hx) e1 (I.base.free b o e n hx)
    exact ⟨sl', e2⟩
  · obtain ⟨o', e1⟩ := I.base.there b o e hx
    exact free b o' (neC b o e hx) e1 (I.base.free b o e n hx)
  · obtain ⟨o', e1⟩ := I.base.there b o e hx
    exact there b o' (neC b o e hx) e1
  · obtain ⟨m1, e1⟩ := I.base.tbls b ps e
    obtain ⟨m2, e2⟩ := tbls b _ e1
    exact ⟨m1 ++ m2, by rw [e2, Array.append_assoc]⟩
  · obtain ⟨m, hn, hl⟩ := I.loc
    refine ⟨m, ns m hn, fun i x v e1 e2 e3 => ?_⟩
    obtain ⟨u, r, l⟩ := hl i x v e1 e2 e3
    refine ⟨u, r, ?_⟩
    rcases l with l | ⟨k, c, e, z⟩
    · exact .inl l
    · exact .inr ⟨k, c, e, cellK x c e _ z⟩
  · obtain ⟨v, z⟩ := I.cell x c e
    exact ⟨v, cellK x c e v z⟩
  · obtain ⟨m, ⟨o, _, _, ho, _⟩, _⟩ := I.loc
    exact free _ o (fun z => (hch _ z).2.1 rfl) ho I.free
  · obtain ⟨v, o, ho, hd⟩ := I.cell x c e
    exact free c o (fun z => (hch c z).2.2.1 x c e rfl) ho (I.freeC x c e)
  · obtain ⟨e, n, ne, nf, d⟩ := I.pin p hp
    have nch : p.1 ∉ ch := fun z => (hch p.1 z).2.2.2 p hp rfl
    exact ⟨keep p.1 p.2 ne nf nch e n, free p.1 p.2 nch e n, ne, nf, d⟩
theorem Inv.un {t' : Nat} (I : Inv X pins σ H s) (u : Un X.fs [] H H' s.heap h') (hok : HOk X.prog X.w H' h') : Inv X pins σ H' { s with heap := h', toks := t' } := by
  obtain ⟨m, ⟨o, es, ep, ho, r⟩, _⟩ := id I.loc
  obtain ⟨sl, hL⟩ := u.any ho I.free (by simp)
  exact I.step (g' := s.gens) (d' := s.drawn) (ch := []) (fun _ z => nomatch z) (fun b o _ hb _ e n => u.keep b o e n hb (by simp)) (fun b o _ hb _ e n => u.slot b o e n hb (by simp)) (fun b o _ e n => u.free b o e n (by simp)) (fun b o _ e => u.there b o e (by simp)) u.tups u.frzs u.tbls (fun m' hm => by
    obtain ⟨o', es', ep', ho', r'⟩ := hm
    rw [ho] at ho'; cases ho'
    exact ⟨_, es', ep', hL, r'⟩) hok I.bare
theorem Inv.call {g' : Array GenState} {t' : Nat} {d' : Drawn} {ch : List Addr} (I : Inv X pins σ H s) (u : Un (frs X.stack) ch H H' s.heap h') (hok : HOk X.prog X.w H' h') (hg : AllBare g')
    (hch : ∀ b ∈ ch, (b ∈ X.ex ∨ X.s₀.heap.objs.size ≤ b) ∧ b ≠ X.env.locals ∧ (∀ x c, X.env.cells.lookup x = some c → c ≠ b) ∧ ∀ p ∈ X.pn ++ pins, p.1 ≠ b) :
    Inv X pins σ H' { s with heap := h', gens := g', drawn := d', toks := t' } := by
  obtain ⟨m, ⟨o, es, ep, ho, r⟩, _⟩ := id I.loc
  obtain ⟨sl, hL⟩ := u.any ho I.free fun z => (hch _ z).2.1 rfl
  exact I.step (ch := ch) hch (fun b o hL hb hc e n => u.keep b o e n (fun z => (List.mem_cons.mp (I.stkSub b z)).elim hL hb) hc) (fun b o _ _ hc e n => u.any e n hc) (fun b o hc e n => u.free b o e n hc) (fun b o hc e => u.there b o e hc) u.tups u.frzs u.tbls (fun m' hm => by
    obtain ⟨o', es', ep', ho', r'⟩ := hm
    rw [ho] at ho'; cases ho'
    exact ⟨_, es', ep', hL, r'⟩) hok hg
theorem Inv.turned {t' : Nat} {it : Addr} (I : Inv X pins σ H s) (k : ∀ b o, b ≠ it → s.heap.get? b = some o → h'.get? b = some o) (hn : H it = none) (hL : it ≠ X.env.locals)
    (h1 : it ∈ X.ex ∨ X.s₀.heap.objs.size ≤ it) (h2 : ∀ x c, X.env.cells.lookup x = some c → c ≠ it) (h3 : ∀ p ∈ X.pn ++ pins, p.1 ≠ it) : Inv X pins σ H { s with heap := h', toks := t' } := by
  have nit : ∀ b u, H b = some u → b ≠ it := fun b u e z => by rw [z, hn] at e; cases e
  refine I.step (g' := s.gens) (d' := s.drawn) (ch := [it]) (fun b hb => ?_) (fun b o _ _ hc e _ => k b o (fun z => hc (by simp [z])) e) (fun b o _ _ hc e _ => ⟨o.slots, k b o (fun z => hc (by simp [z])) e⟩) (fun _ _ _ _ n => n)
    (fun b o hc e => ⟨o, k b o (fun z => hc (by simp [z])) e⟩) (fun _ _ e => e) (fun _ _ _ e => e) (fun b ps e => ⟨#[], by rw [e]; simp⟩) (fun m hm => ?_) (fun b u e => ?_) I.bare
  · have e : b = it := by simpa using hb
    subst e
    exact ⟨h1, hL, h2, h3⟩
  · obtain ⟨o, es, ep, ho, r⟩ := hm
    exact ⟨o, es, ep, k _ o (Ne.symm hL) ho, r⟩
  · refine (I.hok b u e).stay (fun c v hc q => k c v ?_ q) (fun _ q => q) fun _ _ q => q
    rcases hc with z | z
    · rw [z]; exact nit b u e
    · exact nit c _ z
theorem Inv.tok (I : Inv X pins σ H s) (t : Nat) : Inv X pins σ H { s with toks := t } := I.un (h' := s.heap) (t' := t) Un.refl I.hok
theorem Inv.kept {t' : Nat} (I : Inv X pins σ H s) (k : ∀ b u, s.heap.get? b = some u → h'.get? b = some u) : Inv X pins σ H { s with heap := h', toks := t' } := I.un (Un.kept k) (I.hok.kept k)
theorem Inv.laid {a : Addr} {o : HO} {t' : Nat} (I : Inv X pins σ H s) (k : ∀ b u, s.heap.get? b = some u → h'.get? b = some u) (hp : s.heap.objs.size ≤ a) (new : ObjOk X.prog X.w (upd H a o) h' a o) :
    Inv X pins σ (upd H a o) { s with heap := h', toks := t' } := I.un (Un.laid k hp (I.hok.fresh hp)) (I.hok.laid k hp new)
theorem Inv.write {x e : Addr} {o : HO} {t' : Nat} (I : Inv X pins σ H s) (mu : Mut (H x)) (he : e = x ∨ H e = some (.own x)) (k : ∀ b u, b ≠ e → s.heap.get? b = some u → h'.get? b = some u) (heo : ∃ u, h'.get? e = some u)
    (new : ObjOk X.prog X.w (upd H x o) h' x o) : Inv X pins σ (upd H x o) { s with heap := h', toks := t' } := I.un (Un.write mu he k heo) (I.hok.write mu he k heo new)
theorem Inv.pins_of {pins' : List (Addr × Obj)} (I : Inv X pins σ H s) (h : ∀ p ∈ pins', s.heap.get? p.1 = some p.2 ∧ H p.1 = none ∧ p.1 ≠ X.env.locals ∧ p.1 ∉ X.fs ∧ ∀ v, p.2.data ≠ .cell v) : Inv X pins' σ H s :=
  ⟨I.ok, I.os, I.bare, I.base, I.loc, I.cell, I.free, I.freeC, fun p hp => (List.mem_append.mp hp).elim (fun z => I.pin p (List.mem_append_left _ z)) (h p), I.hok, I.len⟩

theorem nodup_ix {N : List Str} (hN : N.Nodup) {i j : Nat} {x : Str} (a : N[i]? = some x) (b : N[j]? = some x) : i = j := by
  obtain ⟨h1, e1⟩ := List.getElem?_eq_some_iff.mp a
  obtain ⟨h2, e2⟩ := List.getElem?_eq_some_iff.mp b
  exact (List.getElem_inj hN).mp (e1.trans e2.symm)

theorem store_ok2 {M : Model} {A : Around} {E : Value → Shared → Prop} {i : Nat} {x : Str} {v : V} {u : Value} {Q : Unit → Shared → Prop} (I : Inv X pins σ H s) (hN : X.N.Nodup) (hi : X.N[i]? = some x) (hx : Loc X.env.scope x) (r : RelV v u)
    (h : ∀ s', Inv X pins (σ.set i (some v)) H s' → (∃ a, Heap.SameBut a s.heap s'.heap ∧ (a = X.env.locals ∨ X.env.cells.lookup x = some a)) → Q () s') (hf : X.fn x = true ∨ X.env.scope.names.lookup x = some .local := by first | exact .inl rfl | exact .inr rfl | assumption) : wpAny M A (storeName X.env x u) Q E s := by
  obtain ⟨m, hn, hl⟩ := id I.loc
  have hcls : (X.env.scope.kind == .class || (X.env.scope.kind == .module && X.env.locals != X.env.globals)) = false := by rw [I.ok.kind]; rfl
  have hiσ : i < σ.length := by rw [I.len]; exact (List.getElem?_eq_some_iff.mp hi).1
  have cne := I.cne
  have tracked : ∀ {a : Addr} {h' : Heap}, (∃ o, s.heap.get? a = some o ∧ H a = none) → Heap.SameBut a s.heap h' → HOk X.prog X.w H h' := fun {a h'} ha hs b ob e => by
    obtain ⟨_, _, hfree⟩ := ha
    refine (I.hok b ob e).stay (fun c w' hc q => (hs.2 c ?_).trans q) (fun _ q => q) fun _ _ q => q
    rintro rfl
    rcases hc with rfl | hc
    · rw [hfree] at e; cases e
    · rw [hfree] at hc; cases hc
  rcases hx with hk | hk
  · refine wpAny_storeName_local hk hn (fun h' hn' hs => ?_) hcls
    obtain ⟨oL, _, _, hoL, _⟩ := id hn
    refine h _ ⟨I.ok, I.os, I.bare, ⟨fun b o e n hb hx => ?_, fun b o e n hb hx => ?_, I.base.free, fun b o e hx => ?_, I.base.tups, I.base.frzs, I.base.tbls⟩, ⟨_, hn', fun j y v' e1 e2 e3 => ?_⟩, fun y c e => ?_, I.free, I.freeC, fun p hp => ?_, tracked ⟨oL, hoL, I.free⟩ hs, by simpa using I.len⟩ ⟨_, hs, .inl rfl⟩
    · exact (hs.2 b (Nat.ne_of_lt (Nat.lt_of_lt_of_le (Heap.lt_size e) I.ok.above))).trans (I.base.keep b o e n hb hx)
    · obtain ⟨sl, e1⟩ := I.base.slot b o e n hb hx
      exact ⟨sl, (hs.2 b (Nat.ne_of_lt (Nat.lt_of_lt_of_le (Heap.lt_size e) I.ok.above))).trans e1⟩
    · obtain ⟨o', e1⟩ := I.base.there b o e hx
      exact ⟨o', (hs.2 b (Nat.ne_of_lt (Nat.lt_of_lt_of_le (Heap.lt_size e) I.ok.above))).trans e1⟩
    · by_cases hj : j = i
      · subst hj
        rw [hi] at e1; cases e1
        rw [List.getElem?_set_self hiσ] at e2
        cases e2
        exact ⟨u, r, .inl ⟨hk, by simp⟩⟩
      · rw [List.getElem?_set_ne (Ne.symm hj)] at e2
        obtain ⟨u', r', q⟩ := hl j y v' e1 e2 e3
        refine ⟨u', r', ?_⟩
        rcases q with ⟨k, e⟩ | ⟨k, c, e, z⟩
        · refine .inl ⟨k, ?_⟩
          have : y ≠ x := fun e => hj (nodup_ix hN e1 (e ▸ hi))
          simp [this, e]
        · exact .inr ⟨k, c, e, z.sameBut hs (cne y c e)⟩
    · obtain ⟨w', z⟩ := I.cell y c e
      exact ⟨w', z.sameBut hs (cne y c e)⟩
    · obtain ⟨e, n, ne, nf, d⟩ := I.pin p hp
      exact ⟨(hs.2 p.1 ne).trans e, n, ne, nf, d⟩
  · have hfn : X.fn x = true := by
      rcases hf with z | z
      · exact z
      · rw [z] at hk; cases hk
    obtain ⟨c, hc⟩ := I.ok.has x (.inl hk)
    obtain ⟨w', z⟩ := I.cell x c hc
    refine wpAny_storeName_cell I.ok.kind hk hc z (fun h' hc' hs => ?_)
    obtain ⟨oc, hoc, hocd⟩ := id z
    refine h { s with heap := h' } ⟨I.ok, I.os, I.bare, ⟨fun b o e n hb hx => ?_, fun b o e n hb hx => ?_, I.base.free, fun b o e hx => ?_, I.base.tups, I.base.frzs, I.base.tbls⟩, ⟨m, hn.sameBut hs (Ne.symm (cne x c hc)), fun j y v' e1 e2 e3 => ?_⟩, fun y c' e => ?_, I.free, I.freeC, fun p hp => ?_, tracked ⟨oc, hoc, I.freeC x c hc⟩ hs, by simpa using I.len⟩ ⟨c, hs, .inr hc⟩
    · exact (hs.2 b (Nat.ne_of_lt (Nat.lt_of_lt_of_le (Heap.lt_size e) (I.ok.cab x c hfn hc)))).trans (I.base.keep b o e n hb hx)
    · obtain ⟨sl, e1⟩ := I.base.slot b o e n hb hx
      exact ⟨sl, (hs.2 b (Nat.ne_of_lt (Nat.lt_of_lt_of_le (Heap.lt_size e) (I.ok.cab x c hfn hc)))).trans e1⟩
    · obtain ⟨o', e1⟩ := I.base.there b o e hx
      exact ⟨o', (hs.2 b (Nat.ne_of_lt (Nat.lt_of_lt_of_le (Heap.lt_size e) (I.ok.cab x c hfn hc)))).trans e1⟩
    · by_cases hj : j = i
      · subst hj
        rw [hi] at e1; cases e1
        rw [List.getElem?_set_self hiσ] at e2
        cases e2
        exact ⟨u, r, .inr ⟨.inl hk, c, hc, hc'⟩⟩
      · rw [List.getElem?_set_ne (Ne.symm hj)] at e2
        obtain ⟨u', r', q⟩ := hl j y v' e1 e2 e3
        refine ⟨u', r', ?_⟩
        rcases q with q | ⟨k, c', e, z'⟩
        · exact .inl q
        · refine .inr ⟨k, c', e, z'.sameBut hs ?_⟩
          rintro rfl
          exact hj (nodup_ix hN e1 (I.ok.inj _ _ _ e hc ▸ hi))
    · by_cases hcc : c' = c
      · subst hcc; exact ⟨_, hc'⟩
      · obtain ⟨w2, z2⟩ := I.cell y c' e
        exact ⟨w2, z2.sameBut hs hcc⟩
    · obtain ⟨e, n, ne, nf, d⟩ := I.pin p hp
      refine ⟨(hs.2 p.1 ?_).trans e, n, ne, nf, d⟩
      intro q
      rw [q, hoc] at e
      have q' : oc = p.2 := Option.some.inj e
      exact d w' (by rw [← q']; exact hocd)
theorem store_ok {M : Model} {A : Around} {E : Value → Shared → Prop} {i : Nat} {x : Str} {v : V} {u : Value} {Q : Unit → Shared → Prop} (I : Inv X pins σ H s) (hN : X.N.Nodup) (hi : X.N[i]? = some x) (hx : Loc X.env.scope x) (r : RelV v u)
    (h : ∀ s', Inv X pins (σ.set i (some v)) H s' → Q () s') (hf : X.fn x = true ∨ X.env.scope.names.lookup x = some .local := by first | exact .inl rfl | exact .inr rfl | assumption) : wpAny M A (storeName X.env x u) Q E s :=
  store_ok2 I hN hi hx r (fun s' I' _ => h s' I') hf
theorem Inv.call' {s' : Shared} {ch : List Addr} (I : Inv X pins σ H s) (ho : s'.os = s.os) (u : Un (frs X.stack) ch H H' s.heap s'.heap) (hok : HOk X.prog X.w H' s'.heap) (hg : AllBare s'.gens)
    (hch : ∀ b ∈ ch, (b ∈ X.ex ∨ X.s₀.heap.objs.size ≤ b) ∧ b ≠ X.env.locals ∧ (∀ x c, X.env.cells.lookup x = some c → c ≠ b) ∧ ∀ p ∈ X.pn ++ pins, p.1 ≠ b) : Inv X pins σ H' s' := by
  obtain ⟨h', g', d', t', o'⟩ := s'
  have e : o' = s.os := ho
  subst e
  exact I.call (g' := g') (t' := t') (d' := d') u hok hg hch
end

/-- an exception: its class, its own dict's address (where it has one), the abstract heap behind it -/
abbrev XK := Value → Option Addr → Hp → Prop
abbrev St := List (Option V)
abbrev VK := V → Hp → Prop
abbrev TE := St → Hp → VK → Prop
abbrev TT := St → Hp → (Bool → Hp → Prop) → Prop
abbrev TA := St → Hp → (List V → Hp → Prop) → Prop
structure Ends where
  nx : St → Hp → Prop
  rt : VK
  bk : St → Hp → Prop := fun _ _ => False
  ct : St → Hp → Prop := fun _ _ => False
abbrev TS := Ends → St → Hp → Prop

def EP (X : Cx) (pins : List (Addr × Obj)) (σ : St) (Q : VK) (u : Value) (s' : Shared) : Prop := ∃ v H', Inv X pins σ H' s' ∧ RelV v u ∧ Q v H'
def TP (X : Cx) (pins : List (Addr × Obj)) (σ : St) (Q : Bool → Hp → Prop) (b : Bool) (s' : Shared) : Prop := ∃ H', Inv X pins σ H' s' ∧ Q b H'
def AP (X : Cx) (pins : List (Addr × Obj)) (σ : St) (Q : List V → Hp → Prop) (us : List Value) (s' : Shared) : Prop := ∃ vs H', Inv X pins σ H' s' ∧ Vals vs us ∧ Q vs H'
def SP (X : Cx) (pins : List (Addr × Obj)) (D : Ends) (f : Flow) (s' : Shared) : Prop :=
  match f with
  | .next => ∃ σ' H', Inv X pins σ' H' s' ∧ D.nx σ' H'
  | .brk => ∃ σ' H', Inv X pins σ' H' s' ∧ D.bk σ' H'
  | .cont => ∃ σ' H', Inv X pins σ' H' s' ∧ D.ct σ' H'
  | .ret u => ∃ v σ' H', Inv X pins σ' H' s' ∧ RelV v u ∧ D.rt v H'

def PE (X : Cx) (e : Expr) (t : TE) : Prop :=
  ∀ (pins : List (Addr × Obj)) (s : Shared) (σ : St) (H : Hp) (Q : VK), Inv X pins σ H s → t σ H Q → wpAny (model X.prog X.w) X.A (eval e X.env) (EP X pins σ Q) X.xe s
def PT (X : Cx) (e : Expr) (t : TT) : Prop :=
  ∀ (pins : List (Addr × Obj)) (s : Shared) (σ : St) (H : Hp) (Q : Bool → Hp → Prop), Inv X pins σ H s → t σ H Q → wpAny (model X.prog X.w) X.A (isTrue e X.env (eval e X.env)) (TP X pins σ Q) X.xe s
def PW (X : Cx) (e : Expr) (t : TT) : Prop :=
  ∀ (whole : Sem Value) (pins : List (Addr × Obj)) (s : Shared) (σ : St) (H : Hp) (Q : Bool → Hp → Prop), Inv X pins σ H s → t σ H Q → wpAny (model X.prog X.w) X.A (isTrue e X.env whole) (TP X pins σ Q) X.xe s
theorem PW.pt {X : Cx} {e : Expr} {t : TT} (h : PW X e t) : PT X e t := h _
def PA (X : Cx) (es : List Expr) (t : TA) : Prop :=
  ∀ (pos : Pos) (pins : List (Addr × Obj)) (s : Shared) (σ : St) (H : Hp) (Q : List V → Hp → Prop), Inv X pins σ H s → t σ H Q → wpAny (model X.prog X.w) X.A (spliced (backTo pos (starEach es X.env))) (AP X pins σ Q) X.xe s
def PS (X : Cx) (st : Stmt) (t : TS) : Prop :=
  ∀ (pins : List (Addr × Obj)) (s : Shared) (σ : St) (H : Hp) (D : Ends), Inv X pins σ H s → t D σ H → wpAny (model X.prog X.w) X.A (exec st X.env) (SP X pins D) X.xe s
def PSs (X : Cx) (st : List Stmt) (t : TS) : Prop :=
  ∀ (pins : List (Addr × Obj)) (s : Shared) (σ : St) (H : Hp) (D : Ends), Inv X pins σ H s → t D σ H → wpAny (model X.prog X.w) X.A (execs st X.env) (SP X pins D) X.xe s
theorem thn {α : Type} {t : Sem α} {Q Q' : α → Shared → Prop} {M : Model} {A : Around} {E : Value → Shared → Prop} {s : Shared} (h : wpAny M A t Q E s) (hQ : ∀ a s, Q a s → Q' a s) : wpAny M A t Q' E s := wpAny_mono h hQ fun _ _ x => x
end L2

namespace L2
open PySem PySem.Spec PyProof.Rows
section
variable {X : Cx}

theorem bin {a b : Expr} {ta tb : TE} (ha : PE X a ta) (hb : PE X b tb) {pins : List (Addr × Obj)} {s : Shared} {σ : St} {H : Hp} {R : V → V → Hp → Prop} (I : Inv X pins σ H s) (h : ta σ H fun x H1 => tb σ H1 fun y H2 => R x y H2)
    {α : Type} {Q : α → Shared → Prop} {f : Value → Value → Sem α}
    (hf : ∀ v u s2 x y H2, Inv X pins σ H2 s2 → RelV x v → RelV y u → R x y H2 → wpAny (model X.prog X.w) X.A (f v u) Q X.xe s2) :
    wpAny (model X.prog X.w) X.A (eval a X.env) (fun v s₁ => wpAny (model X.prog X.w) X.A (eval b X.env) (fun u s₂ => wpAny (model X.prog X.w) X.A (f v u) Q X.xe s₂) X.xe s₁) X.xe s := by
  refine thn (ha pins s σ H _ I h) fun v s1 ⟨x, H1, I1, r1, q1⟩ => ?_
  refine thn (hb pins s1 σ H1 _ I1 q1) fun u s2 ⟨y, H2, I2, r2, q2⟩ => ?_
  exact hf v u s2 x y H2 I2 r1 r2 q2

def tVar (i : Nat) : TE := fun σ H Q => ∃ v, σ[i]? = some (some v) ∧ Q v H
def tC (v : V) : TE := fun _ H Q => Q v H
theorem pe_var {i : Nat} {x : Str} {pos : Pos} (hN : X.N[i]? = some x) (hv : Vis X.env.scope x) (hd : (x == ("__debug__" : Str)) = false := by decide) (hcd : (x == ("__classdict__" : Str)) = false := by decide) : PE X (.Name x pos) (tVar i) := by
  intro pins s σ H Q I h
  obtain ⟨v, e, h⟩ := h
  obtain ⟨m, hn, hl⟩ := I.loc
  obtain ⟨u, r, l⟩ := hl i x v hN e hv
  have fin : EP X pins σ Q u s := ⟨v, H, I, r, h⟩
  rcases l with ⟨hk, hm⟩ | ⟨hk, c, hc, hcell⟩
  · exact wpAny_Name (wpAny_loadName_local I.ok.kind hk hn hm fin) hd
  · rcases hk with hk | hk
    · exact wpAny_Name (wpAny_loadName_cell I.ok.kind hk hc hcell fin) hd
    · exact wpAny_Name (wpAny_loadName_free I.ok.kind hk hc hcell fin hcd) hd
theorem pe_int {i j pos} : PE X (.Constant (.int i) j pos) (tC (.int i)) := fun _ _ _ H _ I h => wpAny_Constant_int ⟨.int i, H, I.tok _, ⟨_, rfl⟩, h⟩
theorem pe_bl {b j pos} : PE X (.Constant (.bool b) j pos) (tC (.bl b)) := fun _ _ _ H _ I h => Constant_bool ⟨.bl b, H, I, rfl, h⟩
theorem pe_non {j pos} : PE X (.Constant .none j pos) (tC .non) := fun _ _ _ H _ I h => Constant_none ⟨.non, H, I, rfl, h⟩
theorem pe_str {x j pos} : PE X (.Constant (.str x) j pos) (tC (.str x)) := fun _ _ _ H _ I h => Calls.Constant_str ⟨.str x, H, I.tok _, ⟨_, rfl⟩, h⟩

def Gl (X : Cx) (x : Str) : Prop := X.env.kindOf x = some .globalImplicit
theorem ld_glob {E : Value → Shared → Prop} {pins : List (Addr × Obj)} {s : Shared} {σ : St} {H : Hp} {x : Str} {u : Value} {pos : Pos} {Q : Value → Shared → Prop} (I : Inv X pins σ H s) (hg : Gl X x) (hm : X.mg x = some u) (h : Q u s)
    (hd : (x == ("__debug__" : Str)) = false := by decide) : wpAny (model X.prog X.w) X.A (eval (.Name x pos) X.env) Q E s :=
  Calls.Name_function_global I.ok.kind hg (Calls.loadGlobal_global (by rw [I.ok.glob]; exact I.mod.glob.keeps I.bk) hm h) hd
theorem ld_blt {E : Value → Shared → Prop} {pins : List (Addr × Obj)} {s : Shared} {σ : St} {H : Hp} {x : Str} {u : Value} {pos : Pos} {Q : Value → Shared → Prop} (I : Inv X pins σ H s) (hg : Gl X x) (hm : X.mg x = none) (hv : bootBuiltins x = some u) (h : Q u s)
    (hn : x ≠ "__name__" := by decide) (hd : (x == ("__debug__" : Str)) = false := by decide) : wpAny (model X.prog X.w) X.A (eval (.Name x pos) X.env) Q E s := by
  obtain ⟨mb, h1, h2⟩ := I.mod.blt
  exact Calls.Name_function_global I.ok.kind hg (Calls.loadGlobal_builtin (by rw [I.ok.glob]; exact I.mod.glob.keeps I.bk) hm (by rw [I.ok.blt]; exact h1.keeps I.bk) ((h2 x hn).trans hv) h) hd
theorem pe_glob {x : Str} {v : V} {u : Value} {pos : Pos} (hg : Gl X x) (hm : X.mg x = some u) (r : RelV v u) (hd : (x == ("__debug__" : Str)) = false := by decide) : PE X (.Name x pos) (tC v) :=
  fun _ _ _ H _ I h => ld_glob I hg hm ⟨v, H, I, r, h⟩ hd
theorem pe_bltn {x : Str} {v : V} {u : Value} {pos : Pos} (hg : Gl X x) (hm : X.mg x = none) (hv : bootBuiltins x = some u) (r : RelV v u) (hn : x ≠ "__name__" := by decide) (hd : (x == ("__debug__" : Str)) = false := by decide) : PE X (.Name x pos) (tC v) :=
  fun _ _ _ H _ I h => ld_blt I hg hm hv ⟨v, H, I, r, h⟩ hn hd

variable {a b : Expr} {ta tb : TE} {pos : Pos}
def PC (X : Cx) (op : CmpOp) (a b : Expr) (t : TE) : Prop :=
  ∀ (pins : List (Addr × Obj)) (s : Shared) (σ : St) (H : Hp) (Q : VK), Inv X pins σ H s → t σ H Q →
    wpAny (model X.prog X.w) X.A (eval a X.env) (fun v s₁ => wpAny (model X.prog X.w) X.A (eval b X.env) (fun u s₂ => wpAny (model X.prog X.w) X.A (compareOp op v u) (EP X pins σ Q) X.xe s₂) X.xe s₁) X.xe s
theorem nobehind (b : Expr) {op : CmpOp} (h : op ≠ .In) (h2 : op ≠ .NotIn) : behindInMarks op b = false := by
  have e1 : (op == CmpOp.In) = false := by cases op <;> first | rfl | exact absurd rfl h
  have e2 : (op == CmpOp.NotIn) = false := by cases op <;> first | rfl | exact absurd rfl h2
  cases b <;> simp [behindInMarks, e1, e2]
variable {tA tB' : TT} {rest : List Expr}
def tAnd (t u : TT) : TT := fun σ H Q => t σ H fun c H1 => if c = true then u σ H1 Q else Q false H1
def tOr (t u : TT) : TT := fun σ H Q => t σ H fun c H1 => if c = true then Q true H1 else u σ H1 Q
def tNot (t : TT) : TT := fun σ H Q => t σ H fun c H1 => Q (!c) H1
theorem pw_and1 (ha : PT X a tA) : PW X (.BoolOp .And [a] pos) tA := by
  intro wh pins s σ H Q I h
  refine isTrue_and (thn (ha pins s σ H Q I h) fun c s1 e => ?_)
  cases c with
  | true => exact isTrue_and_nil e
  | false => exact e
theorem pw_or1 (ha : PT X a tA) : PW X (.BoolOp .Or [a] pos) tA := by
  intro wh pins s σ H Q I h
  refine isTrue_or (thn (ha pins s σ H Q I h) fun c s1 e => ?_)
  cases c with
  | false => exact isTrue_or_nil e
  | true => exact e
theorem pw_and (ha : PT X a tA) (hb : PW X (.BoolOp .And (b :: rest) pos) tB') : PW X (.BoolOp .And (a :: b :: rest) pos) (tAnd tA tB') := by
  intro wh pins s σ H Q I h
  refine isTrue_and (thn (ha pins s σ H _ I h) fun c s1 ⟨H1, I1, q1⟩ => ?_)
  cases c with
  | true => exact hb wh pins s1 σ H1 Q I1 q1
  | false => exact ⟨H1, I1, q1⟩
theorem pw_or (ha : PT X a tA) (hb : PW X (.BoolOp .Or (b :: rest) pos) tB') : PW X (.BoolOp .Or (a :: b :: rest) pos) (tOr tA tB') := by
  intro wh pins s σ H Q I h
  refine isTrue_or (thn (ha pins s σ H _ I h) fun c s1 ⟨H1, I1, q1⟩ => ?_)
  cases c with
  | true => exact ⟨H1, I1, q1⟩
  | false => exact hb wh pins s1 σ H1 Q I1 q1
theorem pt_not (ha : PT X a tA) : PT X (.UnaryOp .Not a pos) (tNot tA) := by
  intro pins s σ H Q I h
  exact isTrue_not (ha pins s σ H (fun c H1 => Q (!c) H1) I h)
theorem pe_one {op} {t : TE} (h : PE X a t) : PE X (.BoolOp op [a] pos) t := fun pins s σ H Q I hw => BoolOp_one (h pins s σ H Q I hw)
def tIf (t : TT) (ta tb : TE) : TE := fun σ H Q => t σ H fun c H1 => if c = true then ta σ H1 Q else tb σ H1 Q
theorem pe_ifExp {c : Expr} (hc : PT X c tA) (ha : PE X a ta) (hb : PE X b tb) : PE X (.IfExp c a b pos) (tIf tA ta tb) := by
  intro pins s σ H Q I h
  refine wpAny_IfExp (thn (hc pins s σ H _ I h) fun d s1 ⟨H1, I1, q1⟩ => ?_)
  cases d with
  | true => exact ha pins s1 σ H1 Q I1 q1
  | false => exact hb pins s1 σ H1 Q I1 q1
end
end L2

namespace L2
open PySem PySem.Spec PyProof.Rows

def SqL (K : PySem.W.Frag) (H : Hp) (a : Addr) (xs : List V) : Prop :=
  Rd H a (.lst xs) ∨
    ∃ (o : Obj) (its : Array Value) (n : Nat), K.lookup a = some o ∧ o.cls = .type "list" ∧ o.dict = none ∧ o.data = .seq its n ∧ its.size ≤ sizeLine ∧ Vals xs its.toList
def SqT (K : PySem.W.Frag) (H : Hp) (a : Addr) (xs : List V) : Prop :=
  Rd H a (.tup xs) ∨
    ∃ (o : Obj) (its : Array Value) (n : Nat), K.lookup a = some o ∧ o.cls = .type "tuple" ∧ o.data = .seq its n ∧ its.size ≤ sizeLine ∧ Vals xs its.toList
def absV : Value → Option V
  | .none => some .non
  | .bool b => some (.bl b)
  | .int i _ => some (.int i)
  | .str x _ => some (.str x)
  | .bytes b _ => some (.byt b)
  | .float b _ => some (.flt b)
  | .ref a => some (.ref a)
  | .type n => some (.ty n)
  | _ => none
theorem RelV.abs {x : V} {u : Value} (r : RelV x u) : absV u = some x := by
  cases x with
  | non => cases r; rfl
  | bl _ => cases r; rfl
  | int _ => obtain ⟨t, rfl⟩ := r; rfl
  | str _ => obtain ⟨t, rfl⟩ := r; rfl
  | byt _ => obtain ⟨t, rfl⟩ := r; rfl
  | flt _ => obtain ⟨t, rfl⟩ := r; rfl
  | ref _ => cases r; rfl
  | ty _ => cases r; rfl
theorem RelV.inj {x y : V} {u : Value} (r : RelV x u) (q : RelV y u) : x = y := Option.some.inj (r.abs.symm.trans q.abs)
theorem Vals.inj : ∀ {xs ys : List V} {us : List Value}, Vals xs us → Vals ys us → xs = ys
  | _, _, _, .nil, .nil => rfl
  | _, _, _, .cons r t, .cons r' t' => by rw [r.inj r', Vals.inj t t']
section
variable {X : Cx} {pins : List (Addr × Obj)} {σ : St} {H : Hp} {s : Shared} {a : Addr} {xs ys : List V}
theorem Inv.list (I : Inv X pins σ H s) (h : SqL X.K H a xs) : ∃ its : List Value, Vals xs its ∧ PlainL s.heap a its.toArray ∧ xs.length ≤ sizeLine := by
  rcases h with h | ⟨o, its, n, hk, hc, hd, hs, hz, r⟩
  · obtain ⟨z, its, n, r, e⟩ := h.ok I.hok
    exact ⟨its, r, ⟨_, n, e, rfl, rfl, rfl⟩, z⟩
  · refine ⟨its.toList, r, ⟨o, n, I.kIn a o hk, hc, hd, by simpa using hs⟩, ?_⟩
    have e := r.length
    simp only [Array.length_toList] at e
    omega
theorem Inv.tuple (I : Inv X pins σ H s) (h : SqT X.K H a xs) : ∃ its : List Value, Vals xs its ∧ IsTup s.heap a its.toArray ∧ xs.length ≤ sizeLine := by
  rcases h with h | ⟨o, its, n, hk, hc, hs, hz, r⟩
  · obtain ⟨z, its, r, p⟩ := h.ok I.hok
    exact ⟨its, r, p, z⟩
  · refine ⟨its.toList, r, ⟨o, I.kIn a o hk, hc, n, by simpa using hs⟩, ?_⟩
    have e := r.length
    simp only [Array.length_toList] at e
    omega
theorem Inv.list_inj (I : Inv X pins σ H s) (h : SqL X.K H a xs) (h' : SqL X.K H a ys) : xs = ys := by
  obtain ⟨its, r, ⟨o, n, e, _, _, d⟩, _⟩ := I.list h
  obtain ⟨its', r', ⟨o', n', e', _, _, d'⟩, _⟩ := I.list h'
  rw [e] at e'; cases e'
  rw [d] at d'
  injection d' with d1 _
  have : its = its' := by simpa using congrArg Array.toList d1
  subst this
  exact r.inj r'
end

abbrev Cx.wish (X : Cx) (E : Value → Shared → Prop) : Cx := { X with xe := E }
section
variable {X : Cx} {pins : List (Addr × Obj)} {σ : St} {H : Hp} {s : Shared} {E : Value → Shared → Prop}
end

section
variable {X : Cx} {st : Stmt} {rest : List Stmt} {t u : TS} {e : Expr} {te : TE} {pos : Pos}
def tNext : TS := fun D σ H => D.nx σ H
def tSeq (t u : TS) : TS := fun D σ H => t { D with nx := u D } σ H
theorem pss_nil : PSs X [] tNext := fun _ _ σ H _ I h => wpAny_execs_nil ⟨σ, H, I, h⟩
theorem pss_cons (h1 : PS X st t) (h2 : PSs X rest u) : PSs X (st :: rest) (tSeq t u) := by
  intro pins s σ H D I h
  refine wpAny_execs_cons (thn (h1 pins s σ H { D with nx := u D } I h) fun f s1 q => ?_)
  cases f with
  | next =>
    obtain ⟨σ', H', I', q⟩ := q
    exact h2 pins s1 σ' H' D I' q
  | ret v => exact q
  | brk => exact q
  | cont => exact q
theorem pss_one (h1 : PS X st t) : PSs X [st] t := by
  intro pins s σ H D I h
  refine wpAny_execs_cons (thn (h1 pins s σ H D I h) fun f s1 q => ?_)
  cases f with
  | next => exact wpAny_execs_nil q
  | ret v => exact q
  | brk => exact q
  | cont => exact q
theorem Inv.quiet {pins : List (Addr × Obj)} {σ : St} {H : Hp} {s : Shared} (I : Inv X pins σ H s) : interactive X.env = false := by simp [interactive, I.ok.kind]
def tDrop (te : TE) : TS := fun D σ H => te σ H fun _ H1 => D.nx σ H1
theorem ps_expr (he : PE X e te) (hs : swapsWith e none pos.line X.env = pure false := by rfl) : PS X (.Expr e pos) (tDrop te) := by
  intro pins s σ H D I h
  exact wpAny_Expr_any (thn (he pins s σ H _ I h) fun v s1 ⟨x, H1, I1, r1, q1⟩ => ⟨σ, H1, I1, q1⟩) I.quiet hs
def tRet (te : TE) : TS := fun D σ H => te σ H D.rt
theorem ps_ret (he : PE X e te) : PS X (.Return (some e) pos) (tRet te) := by
  intro pins s σ H D I h
  exact wpAny_Return_some (thn (he pins s σ H _ I h) fun v s1 ⟨x, H1, I1, r1, q1⟩ => ⟨x, σ, H1, I1, r1, q1⟩)
def tRetN : TS := fun D _ H => D.rt .non H
def tIfS (c : TT) (t u : TS) : TS := fun D σ H => c σ H fun b H1 => if b = true then t D σ H1 else u D σ H1
theorem ps_if {c : Expr} {a b : List Stmt} {tc : TT} (hc : PT X c tc) (ha : PSs X a t) (hb : PSs X b u) : PS X (.If c a b pos) (tIfS tc t u) := by
  intro pins s σ H D I h
  refine wpAny_If (thn (hc pins s σ H _ I h) fun d s1 ⟨H1, I1, q1⟩ => ?_)
  cases d with
  | true => exact ha pins s1 σ H1 D I1 q1
  | false => exact hb pins s1 σ H1 D I1 q1
end

abbrev TG := V → St → Hp → (St → Hp → Prop) → Prop
abbrev TGs := List V → St → Hp → (St → Hp → Prop) → Prop
def PG (X : Cx) (target : Expr) (t : TG) : Prop :=
  ∀ (pins : List (Addr × Obj)) (s : Shared) (σ : St) (H : Hp) (v : V) (u : Value) (Q : St → Hp → Prop), Inv X pins σ H s → RelV v u → t v σ H Q →
    wpAny (model X.prog X.w) X.A (assign target X.env u) (fun _ s' => ∃ σ' H', Inv X pins σ' H' s' ∧ Q σ' H') X.xe s
def PGs (X : Cx) (ts : List Expr) (t : TGs) : Prop :=
  ∀ (pins : List (Addr × Obj)) (s : Shared) (σ : St) (H : Hp) (vs : List V) (us : List Value) (Q : St → Hp → Prop), Inv X pins σ H s → Vals vs us → t vs σ H Q →
    wpAny (model X.prog X.w) X.A (assignInOrder ((assignEach ts X.env).map (·.2)) us) (fun _ s' => ∃ σ' H', Inv X pins σ' H' s' ∧ Q σ' H') X.xe s
abbrev TSet := V → V → V → Hp → (Hp → Prop) → Prop
def PSet (X : Cx) (t : TSet) : Prop :=
  ∀ (pins : List (Addr × Obj)) (s : Shared) (σ : St) (H : Hp) (o i v : V) (ov iv u : Value) (Q : Hp → Prop), Inv X pins σ H s → RelV o ov → RelV i iv → RelV v u → t o i v H Q →
    wpAny (model X.prog X.w) X.A (setItem ov iv u) (fun _ s' => ∃ H', Inv X pins σ H' s' ∧ Q H') X.xe s
abbrev TIp := V → V → Hp → VK → Prop
section
variable {X : Cx} {pos : Pos}
def gName (i : Nat) : TG := fun v σ H Q => Q (σ.set i (some v)) H
theorem pg_name {i : Nat} {x : Str} (hN : X.N.Nodup) (hi : X.N[i]? = some x) (hx : Loc X.env.scope x) (hf : X.fn x = true ∨ X.env.scope.names.lookup x = some .local := by first | exact .inl rfl | exact .inr rfl | assumption) : PG X (.Name x pos) (gName i) := by
  intro pins s σ H v u Q I r h
  exact wpAny_assign_Name (store_ok I hN hi hx r (fun s' I' => ⟨_, H, I', h⟩) hf)
def gNil : TGs := fun vs σ H Q => vs = [] ∧ Q σ H
def gCons (t : TG) (u : TGs) : TGs := fun vs σ H Q => ∃ v r, vs = v :: r ∧ t v σ H fun σ' H' => u r σ' H' Q
theorem pgs_nil : PGs X [] gNil := by
  intro pins s σ H vs us Q I r h
  obtain ⟨e, h⟩ := h
  subst e
  cases r
  exact assignInOrder_nil ⟨σ, H, I, h⟩
theorem pgs_cons {e : Expr} {es : List Expr} {t : TG} {u : TGs} (h1 : PG X e t) (h2 : PGs X es u)
    (hs : (assignEach (e :: es) X.env).map (·.2) = assign e X.env :: (assignEach es X.env).map (·.2) := by rfl) : PGs X (e :: es) (gCons t u) := by
  intro pins s σ H vs us Q I r h
  obtain ⟨v, vr, e1, h⟩ := h
  subst e1
  cases r with
  | cons r rr =>
    rw [hs]
    refine assignInOrder_cons (thn (h1 pins s σ H _ _ _ I r h) fun _ s1 ⟨σ1, H1, I1, q1⟩ => ?_)
    exact h2 pins s1 σ1 H1 _ _ Q I1 rr q1
def gTup (K : PySem.W.Frag) (n : Nat) (t : TGs) : TG := fun v σ H Q => ∃ a xs, v = .ref a ∧ SqT K H a xs ∧ xs.length = n ∧ t xs σ H Q
theorem pg_tup {es : List Expr} {k : Nat} {t : TGs} {n : Nat} (hc : X.calm = true) (h : PGs X es t)
    (hn : (assignEach es X.env).length = n := by rfl) (hst : (assignEach es X.env).findIdx? (·.1) = none := by rfl) : PG X (.Tuple es k pos) (gTup X.K n t) := by
  intro pins s σ H v u Q I r hw
  obtain ⟨a, xs, e1, hq, hl, hw⟩ := hw
  subst e1
  cases r
  obtain ⟨its, rv, ht, hz⟩ := I.tuple hq
  refine assign_Tuple_tuple (I.ok.hd hc) ht (by simp [hn, ← hl, rv.length]) hst fun h' hx => ?_
  have I1 : Inv X pins σ H { s with heap := h' } := I.kept (t' := s.toks) fun b o e => hx b o (Nat.ne_of_lt (Heap.lt_size e)) e
  exact h pins _ σ H xs _ Q I1 (by simpa using rv) hw
def tAsg (te : TE) (g : TG) : TS := fun D σ H => te σ H fun x H1 => g x σ H1 D.nx
theorem ps_set {i : Nat} {x : Str} {e : Expr} {te : TE} {pos' : Pos} (hN : X.N.Nodup) (hi : X.N[i]? = some x) (hx : Loc X.env.scope x) (he : PE X e te) (hs : swapsWith e (some (.Name x pos')) pos.line X.env = pure false := by rfl) (hf : X.fn x = true ∨ X.env.scope.names.lookup x = some .local := by first | exact .inl rfl | exact .inr rfl | assumption) :
    PS X (.Assign [.Name x pos'] e pos) (tAsg te (gName i)) := by
  intro pins s σ H D I h
  refine wpAny_Assign_Name (thn (he pins s σ H _ I h) fun v s1 ⟨y, H1, I1, r1, q1⟩ => ?_) hs
  exact store_ok I1 hN hi hx r1 (fun s2 I2 => ⟨_, H1, I2, q1⟩) hf
def tAug (i : Nat) (te : TE) (ti : TIp) : TS := fun D σ H => ∃ x, σ[i]? = some (some x) ∧ te σ H fun y H1 => ti x y H1 fun z H2 => D.nx (σ.set i (some z)) H2
def ipI (f : Int → Int → Int) : TIp := fun x y H Q => ∃ i j, x = .int i ∧ y = .int j ∧ Q (.int (f i j)) H
end

section
variable {X : Cx} {pos : Pos}
end

/-- at turn i: it yields x (the heap may grow), or it stops -/
structure It where
  go : Nat → Hp → Prop
  yld : Nat → Hp → V → Hp → Prop
  stop : Nat → Hp → Prop
def FpOk (X : Cx) (pins : List (Addr × Obj)) (H : Hp) (b : Addr) : Prop :=
  H b = none ∧ b ≠ X.env.locals ∧ b ∉ X.fs ∧ (b ∈ X.ex ∨ X.s₀.heap.objs.size ≤ b) ∧ (∀ x c, X.env.cells.lookup x = some c → c ≠ b) ∧ ∀ p ∈ X.pn ++ pins, p.1 ≠ b
theorem Inv.fpOk {X : Cx} {pins : List (Addr × Obj)} {σ : St} {H H' : Hp} {s : Shared} {b : Addr} (I : Inv X pins σ H s) (hb : s.heap.objs.size ≤ b) (hn : H' b = none) : FpOk X pins H' b := by
  refine ⟨hn, Nat.ne_of_gt (Nat.lt_of_lt_of_le I.lt hb), I.nofs hb, .inr (Nat.le_trans I.sz hb), fun x c e z => ?_, fun p hp z => ?_⟩
  · obtain ⟨v, q⟩ := I.cell x c e
    exact absurd (Nat.lt_of_lt_of_le q.lt (by rw [z]; exact hb)) (Nat.lt_irrefl _)
  · exact absurd (Nat.lt_of_lt_of_le (Heap.lt_size (I.pin p hp).1) (by rw [z]; exact hb)) (Nat.lt_irrefl _)
structure Turn (P : Program) (w : World) (K : PySem.W.Frag) (tg : Expr) (J : It) (fp : List Addr) (it : Addr) (tn : Nat → Heap → Prop) : Prop where
  mem : it ∈ fp
  obj : ∀ i h, tn i h → ∀ b ∈ fp, ∃ o, h.get? b = some o ∧ ∀ v, o.data ≠ .cell v
  keep : ∀ i h h', tn i h → (∀ b ∈ fp, ∀ o, h.get? b = some o → h'.get? b = some o) → tn i h'
  item : ∀ (X : Cx), X.prog = P → X.w = w → X.K = K → X.calm = true → ∀ (i : Nat) (pins : List (Addr × Obj)) (s : Shared) (σ : St) (H : Hp) (E : Value → Shared → Prop), Inv X pins σ H s → (∀ b ∈ fp, FpOk X pins H b) → tn i s.heap → J.go i H →
    wpAny (model P w) X.A (pyNext (.ref it)) (fun r s1 => ∃ u, r = some u ∧
      wpAny (model P w) X.A (letOwnedTupleGo tg (.ref it) u) (fun _ s2 => ∃ x H', Inv X pins σ H' s2 ∧ RelV x u ∧ J.yld i H x H' ∧ tn (i + 1) s2.heap ∧ ∀ b ∈ fp, H' b = none) E s1) E s
  done : ∀ (X : Cx), X.prog = P → X.w = w → X.K = K → X.calm = true → ∀ (i : Nat) (pins : List (Addr × Obj)) (s : Shared) (σ : St) (H : Hp) (E : Value → Shared → Prop), Inv X pins σ H s → (∀ b ∈ fp, FpOk X pins H b) → tn i s.heap → J.stop i H →
    wpAny (model P w) X.A (pyNext (.ref it)) (fun r s1 => r = none ∧ Inv X pins σ H s1) E s
  self : ∀ (A : Around) (i : Nat) (s : Shared) (Q : Value → Shared → Prop) (E : Value → Shared → Prop), tn i s.heap → Q (.ref it) s → wpAny (model P w) A (pyIter (.ref it)) Q E s
abbrev TI := St → Hp → (It → Hp → Prop) → Prop
def PIE (X : Cx) (pins : List (Addr × Obj)) (σ : St) (tg : Expr) (R : It → Hp → Prop) (itv : Value) (s2 : Shared) : Prop :=
  ∃ (it : Addr) (fp : List Addr) (tn : Nat → Heap → Prop) (J : It) (H' : Hp), itv = .ref it ∧ Inv X pins σ H' s2 ∧ Turn X.prog X.w X.K tg J fp it tn ∧ tn 0 s2.heap ∧ (∀ b ∈ fp, FpOk X pins H' b) ∧ R J H'
def PI (X : Cx) (tg iter : Expr) (wi : TI) : Prop :=
  ∀ (pins : List (Addr × Obj)) (s : Shared) (σ : St) (H : Hp) (R : It → Hp → Prop), Inv X pins σ H s → wi σ H R →
    wpAny (model X.prog X.w) X.A (eval iter X.env) (fun v s1 => wpAny (model X.prog X.w) X.A (pyIter v) (PIE X pins σ tg R) X.xe s1) X.xe s

theorem go_of {M : Model} {A : Around} {E : Value → Shared → Prop} {s : Shared} {tg : Expr} {it : Addr} {u : Value} {o : Obj} {n : String} {vs : Array Value} {Q : Unit → Shared → Prop} (ho : s.heap.get? it = some o) (hc : o.cls = .type n) (hd : o.data = .fields vs)
    (hn : ["enumerate", "zip", "dict_itemiterator", "dict_reverseitemiterator", "odict_iterator", "itertools.zip_longest", "itertools.pairwise"].contains n = false) (hQ : Q () s) : wpAny M A (letOwnedTupleGo tg (.ref it) u) Q E s := by
  unfold letOwnedTupleGo
  cases tg <;> first
    | exact wpAny_pure hQ
    | (cases u <;> first
        | exact wpAny_pure hQ
        | (refine wpAny_bind (wpAny_load ho ?_)
           rw [hc, hd]
           show wpAny M A (if (["enumerate", "zip", "dict_itemiterator", "dict_reverseitemiterator", "odict_iterator", "itertools.zip_longest", "itertools.pairwise"].contains n && vs[0]? == some (rawInt _)) = true then _ else _) Q E s
           rw [if_neg (by intro h; rw [hn, Bool.false_and] at h; cases h)]
           exact wpAny_pure hQ))

def Itl (K : PySem.W.Frag) (a : Addr) : It :=
  ⟨fun i H => ∃ xs x, SqL K H a xs ∧ xs[i]? = some x, fun i H x H' => H' = H ∧ ∀ xs, SqL K H a xs → xs[i]? = some x, fun i H => ∃ xs, SqL K H a xs ∧ xs.length ≤ i⟩
def Itr (lo : Int) (n : Nat) : It := ⟨fun i _ => i < n, fun i H x H' => H' = H ∧ x = .int (lo + i), fun i _ => n ≤ i⟩
theorem turn_list {P : Program} {w : World} {K : PySem.W.Frag} {tg : Expr} (a it : Addr) : Turn P w K tg (Itl K a) [it] it (fun i h => h.IsListIter it a i) where
  mem := by simp
  obj := fun i h st b hb => by
    have e : b = it := by simpa using hb
    subst e
    obtain ⟨o, e, c, d⟩ := st
    exact ⟨o, e, fun v z => by rw [d] at z; cases z⟩
  keep := fun i h h' st k => st.at fun o e => k it (by simp) o e
  item := by
    intro X hP hw hK hc i pins s σ H E I hf st hg
    subst hP hw hK
    obtain ⟨xs, x, hq, hx⟩ := hg
    obtain ⟨its, rv, p, hz⟩ := I.list hq
    obtain ⟨u, hu, ru⟩ := rv.get hx
    obtain ⟨f0, f1, f2, f3, f4, f5⟩ := hf it (by simp)
    refine wpAny_pyNext_list_item st p.isList (x := u) (by simpa using hu) fun h' st' sb => ?_
    have I1 : Inv X pins σ H { s with heap := h' } := I.turned (t' := s.toks) (fun b o hb e => (sb.2 b hb).trans e) f0 f1 f3 f4 f5
    obtain ⟨o, e, c, d⟩ := id st'
    exact ⟨u, rfl, go_of (s := { s with heap := h' }) e c d (by decide) ⟨x, H, I1, ru, ⟨rfl, fun ys hy => by rw [I.list_inj hy hq]; exact hx⟩, st', fun b hb => (hf b hb).1⟩⟩
  done := by
    intro X hP hw hK hc i pins s σ H E I hf st hg
    subst hP hw hK
    obtain ⟨xs, hq, hx⟩ := hg
    obtain ⟨its, rv, p, hz⟩ := I.list hq
    obtain ⟨f0, f1, f2, f3, f4, f5⟩ := hf it (by simp)
    have hl := rv.length
    exact wpAny_pyNext_list_end (I.ok.hd hc) st p.isList (by simp; omega) fun h' eb => ⟨rfl, I.turned (t' := s.toks) (fun b o hb e => eb b o hb e) f0 f1 f3 f4 f5⟩
  self := fun _ _ _ _ _ st h => wpAny_pyIter_listiter st h
theorem turn_range {P : Program} {w : World} {K : PySem.W.Frag} {tg : Expr} (it : Addr) (lo : Int) (n : Nat) : Turn P w K tg (Itr lo n) [it] it (fun i h => IsRangeIter h it (lo + (i : Nat) * 1) ((n : Int) - (i : Nat)) 1) where
  mem := by simp
  obj := fun i h st b hb => by
    have e : b = it := by simpa using hb
    subst e
    exact ⟨_, st, fun v z => by
      have z' : Data.fields _ = Data.cell v := z
      cases z'⟩
  keep := fun i h h' st k => k it (by simp) _ st
  item := by
    intro X hP hw hK hc i pins s σ H E I hf st hg
    subst hP hw hK
    obtain ⟨f0, f1, f2, f3, f4, f5⟩ := hf it (by simp)
    have W := Walks.range (prog := X.prog) (w := X.w) (I.ok.hd hc) it lo 1 n
    refine W.item i s _ _ hg st fun v h' tk hv st' kk => ?_
    obtain ⟨t, rfl⟩ := hv
    have I1 : Inv X pins σ H { s with heap := h', toks := tk } := I.turned (fun b o hb e => kk b o (by simpa using hb) e) f0 f1 f3 f4 f5
    refine ⟨_, rfl, go_of (s := { s with heap := h', toks := tk }) (n := "range_iterator") st' rfl rfl (by decide) ⟨.int (lo + i), H, I1, ⟨t, ?_⟩, ⟨rfl, rfl⟩, st', fun b hb => (hf b hb).1⟩⟩
    rw [Int.mul_one]
  done := by
    intro X hP hw hK hc i pins s σ H E I hf st hg
    subst hP hw hK
    obtain ⟨f0, f1, f2, f3, f4, f5⟩ := hf it (by simp)
    exact wpAny_pyNext_range_end (I.ok.hd hc) st (by have : n ≤ i := hg; omega) fun h' eb => ⟨rfl, I.turned (t' := s.toks) (fun b o hb e => eb b o hb e) f0 f1 f3 f4 f5⟩
  self := fun _ _ _ _ _ st h => wpAny_pyIter_rangeiter st h
end L2

namespace L2
open PySem PySem.Spec PyProof.Rows
section
variable {X : Cx} {tg : Expr}
def iList (K : PySem.W.Frag) (tl : TE) : TI := fun σ H R => tl σ H fun x H1 => ∃ a, x = .ref a ∧ (∃ xs, SqL K H1 a xs) ∧ R (Itl K a) H1
theorem pi_list {l : Expr} {tl : TE} (hl : PE X l tl) : PI X tg l (iList X.K tl) := by
  intro pins s σ H R I h
  refine thn (hl pins s σ H _ I h) fun v s1 ⟨x, H1, I1, r1, q1⟩ => ?_
  obtain ⟨a, e, ⟨xs, hq⟩, q⟩ := q1
  subst e
  cases r1
  obtain ⟨its, rv, p, hz⟩ := I1.list hq
  refine wpAny_pyIter_list p.isList ?_
  refine ⟨s1.heap.objs.size, [s1.heap.objs.size], _, _, H1, rfl, I1.kept (t' := s1.toks) fun b o e => Heap.get?_push_of_some _ e, turn_list a _, ⟨_, Heap.get?_push_size _ rfl, rfl, rfl⟩, fun b hb => ?_, q⟩
  have e : b = s1.heap.objs.size := by simpa using hb
  subst e
  exact I1.fpOk (Nat.le_refl _) (I1.hok.fresh (Nat.le_refl _))
theorem range_it {pins : List (Addr × Obj)} {σ : St} {H : Hp} {s : Shared} {R : It → Hp → Prop} {E : Value → Shared → Prop} {lo hi : Int} {t u v : Tok} {tk : Nat} (I : Inv X pins σ H s) (h1 : -(2 ^ 62) ≤ lo) (h2 : lo < 2 ^ 62) (h3 : -(2 ^ 62) ≤ hi) (h4 : hi < 2 ^ 62)
    (q : R (Itr lo (hi - lo).toNat) H) : wpAny (model X.prog X.w) X.A (pyIter (.ref s.heap.objs.size)) (PIE X pins σ tg R) E { s with heap := s.heap.push { cls := .type "range", data := .fields #[.int lo t, .int hi u, .int 1 v] }, toks := tk } := by
  refine wpAny_pyIter_range (IsRange.new ..) (small_one h1 h2 h3 h4) ?_
  have I1 : Inv X pins σ H { s with heap := s.heap.push { cls := .type "range", data := .fields #[.int lo t, .int hi u, .int 1 v] }, toks := tk } := I.kept fun b o e => Heap.get?_push_of_some _ e
  refine ⟨(s.heap.push { cls := .type "range", data := .fields #[.int lo t, .int hi u, .int 1 v] }).objs.size, [(s.heap.push { cls := .type "range", data := .fields #[.int lo t, .int hi u, .int 1 v] }).objs.size], _, _, H, rfl,
    I1.kept (t' := tk) fun b o e => Heap.get?_push_of_some _ e, turn_range _ lo (hi - lo).toNat, ?_, fun b hb => ?_, q⟩
  · have e1 : lo + ((0 : Nat) : Int) * 1 = lo := by simp
    have e2 : (((hi - lo).toNat : Nat) : Int) - ((0 : Nat) : Int) = Builtin.Range.rangeSize lo hi 1 := by rw [rangeSize_one]; split <;> omega
    show IsRangeIter _ _ (lo + ((0 : Nat) : Int) * 1) ((((hi - lo).toNat : Nat) : Int) - ((0 : Nat) : Int)) 1
    rw [e1, e2]
    exact Heap.get?_push_size _ rfl
  · have e : b = (s.heap.push { cls := .type "range", data := .fields #[.int lo t, .int hi u, .int 1 v] }).objs.size := by simpa using hb
    subst e
    exact I1.fpOk (Nat.le_refl _) (I1.hok.fresh (Nat.le_refl _))
def iRng1 (ta : TA) : TI := fun σ H R => ta σ H fun vs H1 => ∃ j : Int, vs = [.int j] ∧ -(2 ^ 62) ≤ j ∧ j < 2 ^ 62 ∧ R (Itr 0 j.toNat) H1
theorem pi_range1 {a : Expr} {ta : TA} {p pos : Pos} (hg : Gl X "range") (hm : X.mg "range" = none) (ha : PA X [a] ta) (hs : starEach [a] X.env = [(false, eval a X.env)] := by rfl) : PI X tg (.Call (.Name "range" p) [a] [] pos) (iRng1 ta) := by
  intro pins s σ H R I h
  refine Call_ (ld_blt I hg hm boot_range (PyProof.Rows.callWith_type1 (thn (ha pos pins s σ H _ I h) fun us s1 ⟨vs, H1, I1, r1, q1⟩ => ?_) hs rfl))
  obtain ⟨j, e, q1, q2, q⟩ := q1
  subst e
  cases r1 with
  | cons r rr =>
    cases rr
    obtain ⟨t, rfl⟩ := r
    exact call_range_1 (range_it I1 (by omega) (by omega) q1 q2 (by simpa using q))
/-- W: the invariant by the turn and a measure; N: what the body is to reach -/
def tFor (wi : TI) (g : TG) (tb : TS) : TS := fun D σ H => wi σ H fun J H1 => ∃ W : Nat → Nat → St → Hp → Prop, (∃ m, W 0 m σ H1) ∧ ∀ i m σ H, W i m σ H →
  (J.stop i H ∧ D.nx σ H) ∨ (J.go i H ∧ ∃ N : St → Hp → Prop, (∀ σ' H', N σ' H' → ∃ m', m' < m ∧ W (i + 1) m' σ' H') ∧ ∀ x H', J.yld i H x H' → g x σ H' fun σ2 H2 => tb { D with nx := N, ct := N, bk := D.nx } σ2 H2)
def pinsAt (fp : List Addr) (h : Heap) : List (Addr × Obj) := fp.filterMap fun b => (h.get? b).map fun o => (b, o)
theorem mem_pinsAt {fp : List Addr} {h : Heap} {b : Addr} {o : Obj} (hb : b ∈ fp) (e : h.get? b = some o) : (b, o) ∈ pinsAt fp h := List.mem_filterMap.mpr ⟨b, hb, by rw [e]; rfl⟩
theorem of_pinsAt {fp : List Addr} {h : Heap} {p : Addr × Obj} (hp : p ∈ pinsAt fp h) : p.1 ∈ fp ∧ h.get? p.1 = some p.2 := by
  obtain ⟨b, hb, e⟩ := List.mem_filterMap.mp hp
  cases q : h.get? b with
  | none => rw [q] at e; cases e
  | some o =>
    rw [q] at e
    have e' : (b, o) = p := Option.some.inj e
    subst e'
    exact ⟨hb, q⟩
theorem Inv.pinned {pins : List (Addr × Obj)} {σ : St} {H : Hp} {s : Shared} {fp : List Addr} (I : Inv X pins σ H s) (hf : ∀ b ∈ fp, FpOk X pins H b) (ho : ∀ b ∈ fp, ∃ o, s.heap.get? b = some o ∧ ∀ v, o.data ≠ .cell v) : Inv X (pins ++ pinsAt fp s.heap) σ H s :=
  I.pins_of fun p hp => (List.mem_append.mp hp).elim (fun z => I.pin p (List.mem_append_right _ z)) fun z => by
    obtain ⟨hb, e⟩ := of_pinsAt z
    obtain ⟨f0, f1, f2, _⟩ := hf p.1 hb
    obtain ⟨o, e', d⟩ := ho p.1 hb
    rw [e] at e'; cases e'
    exact ⟨e, f0, f1, f2, d⟩
theorem Inv.unpinned {pins pl : List (Addr × Obj)} {σ : St} {H : Hp} {s : Shared} (I : Inv X (pins ++ pl) σ H s) : Inv X pins σ H s := I.pins_of fun p hp => I.pin p (List.mem_append_right _ (List.mem_append_left _ hp))
theorem ps_for {iter : Expr} {body : List Stmt} {wi : TI} {g : TG} {tb : TS} {pos : Pos} (hp : PassesOwn (model X.prog X.w) X.A X.env X.xe) (hc : X.calm = true) (hi : PI X tg iter wi) (hg : PG X tg g) (hb : PSs X body tb)
    (hs : ∀ x, foldedSetIterable iter X.env x = pure x := by intro _; rfl) : PS X (.For tg iter body [] pos) (tFor wi g tb) := by
  intro pins s σ H D I h
  refine wpAny_For (thn (hi pins s σ H _ I h) fun v s1 h1 => thn h1 fun itv s2 h2 => ?_) hs
  obtain ⟨it, fp, tn, J, H2, e, I2, T, st2, f2, W, ⟨m0, w0⟩, turn⟩ := h2
  subst e
  -- what stays true of the iterator's objects through the loop
  have stat : ∀ {H' : Hp}, (∀ b ∈ fp, H' b = none) → ∀ b ∈ fp, FpOk X pins H' b := fun hn b hb => ⟨hn b hb, (f2 b hb).2⟩
  refine codeAny_forLoop_any (fun n s' => ∃ i σ' H', Inv X pins σ' H' s' ∧ tn i s'.heap ∧ (∀ b ∈ fp, H' b = none) ∧ W i n σ' H') ?_ m0 ⟨0, σ, H2, I2, st2, fun b hb => (f2 b hb).1, w0⟩
  rintro n s3 ⟨i, σ3, H3, I3, st3, fr3, w3⟩
  rcases turn i n σ3 H3 w3 with ⟨stop, qn⟩ | ⟨go, N, hN, step⟩
  · refine wpAny_passesOwn hp (thn (T.done X rfl rfl rfl hc i pins s3 σ3 H3 X.xe I3 (stat fr3) st3 stop) fun r s4 ⟨hr, I4⟩ => ?_)
    subst hr
    exact wpAny_execs_nil ⟨σ3, H3, I4, qn⟩
  · refine wpAny_passesOwn hp (thn (T.item X rfl rfl rfl hc i pins s3 σ3 H3 X.xe I3 (stat fr3) st3 go) fun r s4 ⟨u, hr, h4⟩ => ?_)
    subst hr
    refine wpAny_passesOwn hp (thn h4 fun _ s5 ⟨x, H5, I5, r5, y5, st5, fr5⟩ => ?_)
    have I5' := I5.pinned (stat fr5) (T.obj _ _ st5)
    refine wpAny_passesOwn hp (thn (hg _ s5 σ3 H5 x u _ I5' r5 (step x H5 y5)) fun _ s6 ⟨σ6, H6, I6, q6⟩ => ?_)
    refine wpAny_passesOwn hp (thn (hb _ s6 σ6 H6 _ I6 q6) fun f s7 q7 => ?_)
    have again : ∀ {σ7 : St} {H7 : Hp}, Inv X (pins ++ pinsAt fp s5.heap) σ7 H7 s7 → N σ7 H7 → ∃ m, m < n ∧ ∃ i σ' H', Inv X pins σ' H' s7 ∧ tn i s7.heap ∧ (∀ b ∈ fp, H' b = none) ∧ W i m σ' H' := fun {σ7 H7} I7 n7 => by
      obtain ⟨m', hm, w7⟩ := hN σ7 H7 n7
      refine ⟨m', hm, i + 1, σ7, H7, I7.unpinned, T.keep _ _ _ st5 fun b hb o e => (I7.pin (b, o) (List.mem_append_right _ (List.mem_append_right _ (mem_pinsAt hb e)))).1, fun b hb => ?_, w7⟩
      obtain ⟨o, e, d⟩ := T.obj _ _ st5 b hb
      exact (I7.pin (b, o) (List.mem_append_right _ (List.mem_append_right _ (mem_pinsAt hb e)))).2.1
    cases f with
    | next => obtain ⟨σ7, H7, I7, n7⟩ := q7; exact again I7 n7
    | cont => obtain ⟨σ7, H7, I7, n7⟩ := q7; exact again I7 n7
    | brk => obtain ⟨σ7, H7, I7, q7⟩ := q7; exact ⟨σ7, H7, I7.unpinned, q7⟩
    | ret v => obtain ⟨x7, σ7, H7, I7, r7, q7⟩ := q7; exact ⟨x7, σ7, H7, I7.unpinned, r7, q7⟩
end

/-- over a list that the body leaves as it is -/
theorem for_list {K : PySem.W.Frag} {a : Addr} {xs : List V} {g : TG} {tb : TS} {D : Ends} {σ : St} {H : Hp} (Pv : Nat → St → Hp → Prop) (h0 : Pv 0 σ H) (hl : ∀ i σ H, i ≤ xs.length → Pv i σ H → SqL K H a xs)
    (hs : ∀ i x σ H, xs[i]? = some x → Pv i σ H → g x σ H fun σ2 H2 => tb { D with nx := Pv (i + 1), ct := Pv (i + 1), bk := D.nx } σ2 H2) (hd : ∀ σ H, Pv xs.length σ H → D.nx σ H) :
    ∃ W : Nat → Nat → St → Hp → Prop, (∃ m, W 0 m σ H) ∧ ∀ i m σ H, W i m σ H →
      ((Itl K a).stop i H ∧ D.nx σ H) ∨ ((Itl K a).go i H ∧ ∃ N : St → Hp → Prop, (∀ σ' H', N σ' H' → ∃ m', m' < m ∧ W (i + 1) m' σ' H') ∧ ∀ x H', (Itl K a).yld i H x H' → g x σ H' fun σ2 H2 => tb { D with nx := N, ct := N, bk := D.nx } σ2 H2) := by
  refine ⟨fun i m σ H => m = xs.length - i ∧ i ≤ xs.length ∧ Pv i σ H, ⟨xs.length, by simp, Nat.zero_le _, h0⟩, ?_⟩
  rintro i m σ H ⟨rfl, hi, p⟩
  have q := hl i σ H hi p
  by_cases hlt : i < xs.length
  · refine .inr ⟨⟨xs, xs[i], q, by simp [hlt]⟩, Pv (i + 1), fun σ' H' p' => ⟨xs.length - (i + 1), by omega, rfl, hlt, p'⟩, fun x H' y => ?_⟩
    obtain ⟨e, y⟩ := y
    subst e
    exact hs i x σ _ (y xs q) p
  · have e : i = xs.length := by omega
    subst e
    exact .inl ⟨⟨xs, q, Nat.le_refl _⟩, hd σ H p⟩
theorem for_range {lo : Int} {n : Nat} {g : TG} {tb : TS} {D : Ends} {σ : St} {H : Hp} (Pv : Nat → St → Hp → Prop) (h0 : Pv 0 σ H)
    (hs : ∀ i σ H, i < n → Pv i σ H → g (.int (lo + i)) σ H fun σ2 H2 => tb { D with nx := Pv (i + 1), ct := Pv (i + 1), bk := D.nx } σ2 H2) (hd : ∀ σ H, Pv n σ H → D.nx σ H) :
    ∃ W : Nat → Nat → St → Hp → Prop, (∃ m, W 0 m σ H) ∧ ∀ i m σ H, W i m σ H →
      ((Itr lo n).stop i H ∧ D.nx σ H) ∨ ((Itr lo n).go i H ∧ ∃ N : St → Hp → Prop, (∀ σ' H', N σ' H' → ∃ m', m' < m ∧ W (i + 1) m' σ' H') ∧ ∀ x H', (Itr lo n).yld i H x H' → g x σ H' fun σ2 H2 => tb { D with nx := N, ct := N, bk := D.nx } σ2 H2) := by
  refine ⟨fun i m σ H => m = n - i ∧ i ≤ n ∧ Pv i σ H, ⟨n, by simp, Nat.zero_le _, h0⟩, ?_⟩
  rintro i m σ H ⟨rfl, hi, p⟩
  by_cases hlt : i < n
  · refine .inr ⟨hlt, Pv (i + 1), fun σ' H' p' => ⟨n - (i + 1), by omega, rfl, hlt, p'⟩, fun x H' y => ?_⟩
    obtain ⟨e, y⟩ := y
    subst e y
    exact hs i σ _ hlt p
  · have e : i = n := by omega
    subst e
    exact .inl ⟨Nat.le_refl _, hd σ H p⟩
end L2

namespace L2
open PySem PySem.Spec PyProof.Rows

abbrev R2 := V → V → Hp → VK → Prop
def OpR (X : Cx) (f : Value → Value → Sem Value) (r : R2) : Prop :=
  ∀ (pins : List (Addr × Obj)) (s : Shared) (σ : St) (H : Hp) (x y : V) (v u : Value) (Q : VK), Inv X pins σ H s → RelV x v → RelV y u → r x y H Q →
    wpAny (model X.prog X.w) X.A (f v u) (EP X pins σ Q) X.xe s
def UnR (X : Cx) (f : Value → Sem Value) (r : V → Hp → VK → Prop) : Prop :=
  ∀ (pins : List (Addr × Obj)) (s : Shared) (σ : St) (H : Hp) (x : V) (v : Value) (Q : VK), Inv X pins σ H s → RelV x v → r x H Q →
    wpAny (model X.prog X.w) X.A (f v) (EP X pins σ Q) X.xe s
def CallR (X : Cx) (f : Value) (r : List V → Hp → VK → Prop) : Prop :=
  ∀ (pins : List (Addr × Obj)) (s : Shared) (σ : St) (H : Hp) (xs : List V) (us : List Value) (Q : VK), Inv X pins σ H s → Vals xs us → r xs H Q →
    wpAny (model X.prog X.w) X.A (call f us) (EP X pins σ Q) X.xe s
def tOp (r : R2) (ta tb : TE) : TE := fun σ H Q => ta σ H fun x H1 => tb σ H1 fun y H2 => r x y H2 Q
def tUn (r : V → Hp → VK → Prop) (ta : TE) : TE := fun σ H Q => ta σ H fun x H1 => r x H1 Q
def rI (C : Int → Int → Prop) (g : Int → Int → V) : R2 := fun x y H Q => ∃ i j, x = .int i ∧ y = .int j ∧ C i j ∧ Q (g i j) H
def rI0 (g : Int → Int → V) : R2 := fun x y H Q => ∃ i j, x = .int i ∧ y = .int j ∧ Q (g i j) H
def rU (g : Int → V) : V → Hp → VK → Prop := fun x H Q => ∃ i, x = .int i ∧ Q (g i) H

section
variable {X : Cx} {a b c : Expr} {ta tb tc : TE} {pos : Pos}

theorem binT (ha : PE X a ta) (hb : PE X b tb) {pins : List (Addr × Obj)} {s : Shared} {σ : St} {H : Hp} {R : V → V → Hp → Prop} (I : Inv X pins σ H s)
    (h : ta σ H fun x H1 => tb σ H1 fun y H2 => R x y H2) {Q : Value → Shared → Prop} {f : Value → Value → Sem Value}
    (hf : ∀ v u s2 x y H2, Inv X pins σ H2 s2 → RelV x v → RelV y u → R x y H2 → wpAny (model X.prog X.w) X.A (f v u) Q X.xe s2) :
    wpAny (model X.prog X.w) X.A (eval a X.env) (fun v s₁ => wpAny (model X.prog X.w) X.A (eval b X.env) (fun u s₂ => wpAny (model X.prog X.w) X.A (f v u) Q X.xe s₂) X.xe s₁) X.xe s := by
  refine thn (ha pins s σ H _ I h) fun v s1 ⟨x, H1, I1, r1, q1⟩ => ?_
  refine thn (hb pins s1 σ H1 _ I1 q1) fun u s2 ⟨y, H2, I2, r2, q2⟩ => ?_
  exact hf v u s2 x y H2 I2 r1 r2 q2

theorem pe_op {op : Operator} {r : R2} (ho : OpR X (binaryOp op) r) (ha : PE X a ta) (hb : PE X b tb) : PE X (.BinOp a op b pos) (tOp r ta tb) := by
  intro pins s σ H Q I h
  exact wpAny_BinOp (binT ha hb I h fun v u s2 x y H2 I2 rx ry q => ho pins s2 σ H2 x y v u Q I2 rx ry q)
theorem pe_un {op : UnaryOp} {r : V → Hp → VK → Prop} (ho : UnR X (unaryOp op) r) (ha : PE X a ta) : PE X (.UnaryOp op a pos) (tUn r ta) := by
  intro pins s σ H Q I h
  exact UnaryOp_ (thn (ha pins s σ H _ I h) fun v s1 ⟨x, H1, I1, r1, q1⟩ => ho pins s1 σ H1 x v Q I1 r1 q1)
theorem opI {f : Value → Value → Sem Value} {C : Int → Int → Prop} {g : Int → Int → Int}
    (rule : ∀ (i j : Int) (t u : Tok) (s : Shared) (Q : Value → Shared → Prop) (E : Value → Shared → Prop), C i j → Q (.int (g i j) s.toks) { s with toks := s.toks + 1 } → wpAny (model X.prog X.w) X.A (f (.int i t) (.int j u)) Q E s) :
    OpR X f (rI C fun i j => .int (g i j)) := by
  intro pins s σ H x y v u Q I rx ry h
  obtain ⟨i, j, rfl, rfl, hc, q⟩ := h
  obtain ⟨t, rfl⟩ := rx
  obtain ⟨t', rfl⟩ := ry
  exact rule i j t t' s _ _ hc ⟨.int (g i j), H, I.tok _, ⟨_, rfl⟩, q⟩
theorem opI0 {f : Value → Value → Sem Value} {g : Int → Int → Int}
    (rule : ∀ (i j : Int) (t u : Tok) (s : Shared) (Q : Value → Shared → Prop) (E : Value → Shared → Prop), Q (.int (g i j) s.toks) { s with toks := s.toks + 1 } → wpAny (model X.prog X.w) X.A (f (.int i t) (.int j u)) Q E s) :
    OpR X f (rI0 fun i j => .int (g i j)) := by
  intro pins s σ H x y v u Q I rx ry h
  obtain ⟨i, j, rfl, rfl, q⟩ := h
  obtain ⟨t, rfl⟩ := rx
  obtain ⟨t', rfl⟩ := ry
  exact rule i j t t' s _ _ ⟨.int (g i j), H, I.tok _, ⟨_, rfl⟩, q⟩
theorem opB0 {f : Value → Value → Sem Value} {g : Int → Int → Bool}
    (rule : ∀ (i j : Int) (t u : Tok) (s : Shared) (Q : Value → Shared → Prop) (E : Value → Shared → Prop), Q (.bool (g i j)) s → wpAny (model X.prog X.w) X.A (f (.int i t) (.int j u)) Q E s) :
    OpR X f (rI0 fun i j => .bl (g i j)) := by
  intro pins s σ H x y v u Q I rx ry h
  obtain ⟨i, j, rfl, rfl, q⟩ := h
  obtain ⟨t, rfl⟩ := rx
  obtain ⟨t', rfl⟩ := ry
  exact rule i j t t' s _ _ ⟨.bl (g i j), H, I, rfl, q⟩

def CDiv (i j : Int) : Prop := 0 < j ∧ j < 1073741824
def CPow (i j : Int) : Prop := 0 ≤ j ∧ j ≤ 1000000 ∧ i.natAbs < 2 ^ 64
def CMul (i j : Int) : Prop := (-(2 ^ 64) < i ∧ i < 2 ^ 64) ∨ (-(2 ^ 64) < j ∧ j < 2 ^ 64)
theorem CMul.ok {i j : Int} (h : CMul i j) : IntMulOk i j := by
  rcases h with ⟨h1, h2⟩ | ⟨h1, h2⟩
  · exact .of_left (intBits_le_64 h1 h2)
  · exact .of_right (intBits_le_64 h1 h2)
theorem op_add : OpR X (binaryOp .Add) (rI0 fun i j => .int (i + j)) := opI0 fun _ _ _ _ _ _ _ q => add_int q
theorem op_sub : OpR X (binaryOp .Sub) (rI0 fun i j => .int (i - j)) := opI0 fun _ _ _ _ _ _ _ q => sub_int q
theorem op_mul : OpR X (binaryOp .Mult) (rI CMul fun i j => .int (i * j)) := opI fun _ _ _ _ _ _ _ hc q => mul_int q hc.ok
theorem op_fdiv : OpR X (binaryOp .FloorDiv) (rI CDiv fun i j => .int (i / j)) := opI fun i j _ _ _ _ _ hc q => by
  have h1 : (0 : Int) < j := hc.1
  have h2 : j < 1073741824 := hc.2
  exact floordiv_int (by omega) (by rw [Int.fdiv_eq_ediv_of_nonneg i (by omega)]; exact q) (.inl (PyProof.noPylong_small (by omega)))
theorem op_mod : OpR X (binaryOp .Mod) (rI (fun _ j => 0 < j) fun i j => .int (i % j)) := opI fun i j _ _ _ _ _ hc q => by
  have h1 : (0 : Int) < j := hc
  exact mod_int' (by omega) (by rw [Int.fmod_eq_emod_of_nonneg i (by omega)]; exact q)
theorem unI {f : Value → Sem Value} {g : Int → Int}
    (rule : ∀ (i : Int) (t : Tok) (s : Shared) (Q : Value → Shared → Prop) (E : Value → Shared → Prop), Q (.int (g i) s.toks) { s with toks := s.toks + 1 } → wpAny (model X.prog X.w) X.A (f (.int i t)) Q E s) :
    UnR X f (rU fun i => .int (g i)) := by
  intro pins s σ H x v Q I rx h
  obtain ⟨i, rfl, q⟩ := h
  obtain ⟨t, rfl⟩ := rx
  exact rule i t s _ _ ⟨.int (g i), H, I.tok _, ⟨_, rfl⟩, q⟩
theorem un_neg : UnR X (unaryOp .USub) (rU fun i => .int (-i)) := unI fun _ _ _ _ _ q => neg_int q
end

/-- the scalars that == tells apart as data does -/
def scal : V → V → Bool
  | .non, .non => true | .non, .int _ => true | .int _, .non => true | .non, .bl _ => true | .bl _, .non => true | .non, .str _ => true | .str _, .non => true
  | .int _, .int _ => true | .bl _, .bl _ => true | .str _, .str _ => true | .byt _, .byt _ => true
  | .int _, .str _ => true | .str _, .int _ => true | .bl _, .str _ => true | .str _, .bl _ => true
  | _, _ => false
def rEq : R2 := fun x y H Q => scal x y = true ∧ Q (.bl (decide (x = y))) H
def rNe : R2 := fun x y H Q => scal x y = true ∧ Q (.bl (!decide (x = y))) H

theorem dec_int {i j : Int} : decide (V.int i = V.int j) = (i == j) := by
  rw [Bool.eq_iff_iff]
  simp
theorem dec_bl {i j : Bool} : decide (V.bl i = V.bl j) = (i == j) := by
  rw [Bool.eq_iff_iff]
  simp
theorem dec_str {i j : Str} : decide (V.str i = V.str j) = (i == j) := by
  rw [Bool.eq_iff_iff]
  simp
theorem dec_byt {i j : Array UInt8} : decide (V.byt i = V.byt j) = (i.toList == j.toList) := by
  rw [Bool.eq_iff_iff]
  cases i
  cases j
  simp

section
variable {X : Cx} {a b c : Expr} {ta tb tc : TE} {pos : Pos}
theorem fin_bl {pins : List (Addr × Obj)} {σ : St} {H : Hp} {s : Shared} {Q : VK} {k k' : Bool} (I : Inv X pins σ H s) (q : Q (.bl k) H) (e : k = k') : EP X pins σ Q (.bool k') s := by
  subst e
  exact ⟨.bl k, H, I, rfl, q⟩
theorem op_eq : OpR X (compareOp .Eq) rEq := by
  intro pins s σ H x y v u Q I rx ry h
  obtain ⟨hs, q⟩ := h
  cases x with
  | non =>
    cases rx
    cases y with
    | non => cases ry; exact PySem.EqNone.eq_none_none (fin_bl I q (by simp))
    | bl j => cases ry; exact PySem.EqNone.eq_none_bool (fin_bl I q (by simp))
    | int j => obtain ⟨t', rfl⟩ := ry; exact PySem.EqNone.eq_none_int (fin_bl I q (by simp))
    | str j => obtain ⟨t', rfl⟩ := ry; exact PySem.EqNone.eq_none_str (fin_bl I q (by simp))
    | _ => exact absurd (show false = true from hs) Bool.false_ne_true
  | bl i =>
    cases rx
    cases y with
    | non => cases ry; exact PySem.EqNone.eq_bool_none (fin_bl I q (by simp))
    | bl j => cases ry; exact eq_bool (fin_bl I q dec_bl)
    | str j => obtain ⟨t', rfl⟩ := ry; exact PySem.EqMixed.eq_bool_str (fin_bl I q (by simp))
    | _ => exact absurd (show false = true from hs) Bool.false_ne_true
  | int i =>
    obtain ⟨t, rfl⟩ := rx
    cases y with
    | non => cases ry; exact PySem.EqNone.eq_int_none (fin_bl I q (by simp))
    | int j => obtain ⟨t', rfl⟩ := ry; exact eq_int (fin_bl I q dec_int)
    | str j => obtain ⟨t', rfl⟩ := ry; exact PySem.EqMixed.eq_int_str (fin_bl I q (by simp))
    | _ => exact absurd (show false = true from hs) Bool.false_ne_true
  | str i =>
    obtain ⟨t, rfl⟩ := rx
    cases y with
    | non => cases ry; exact PySem.EqNone.eq_str_none (fin_bl I q (by simp))
    | bl j => cases ry; exact PySem.EqMixed.eq_str_bool (fin_bl I q (by simp))
    | int j => obtain ⟨t', rfl⟩ := ry; exact PySem.EqMixed.eq_str_int (fin_bl I q (by simp))
    | str j => obtain ⟨t', rfl⟩ := ry; exact eq_str (fin_bl I q dec_str)
    | _ => exact absurd (show false = true from hs) Bool.false_ne_true
  | byt i =>
    obtain ⟨t, rfl⟩ := rx
    cases y with
    | byt j => obtain ⟨t', rfl⟩ := ry; exact PySem.W.eq_bytes (fin_bl I q dec_byt)
    | _ => exact absurd (show false = true from hs) Bool.false_ne_true
  | _ => cases y <;> exact absurd (show false = true from hs) Bool.false_ne_true
theorem op_ne : OpR X (compareOp .NotEq) rNe := by
  intro pins s σ H x y v u Q I rx ry h
  obtain ⟨hs, q⟩ := h
  cases x with
  | non =>
    cases rx
    cases y with
    | non => cases ry; exact PySem.EqNone.ne_none_none (fin_bl I q (by simp))
    | bl j => cases ry; exact PySem.EqNone.ne_none_bool (fin_bl I q (by simp))
    | int j => obtain ⟨t', rfl⟩ := ry; exact PySem.EqNone.ne_none_int (fin_bl I q (by simp))
    | str j => obtain ⟨t', rfl⟩ := ry; exact PySem.EqNone.ne_none_str (fin_bl I q (by simp))
    | _ => exact absurd (show false = true from hs) Bool.false_ne_true
  | bl i =>
    cases rx
    cases y with
    | non => cases ry; exact PySem.EqNone.ne_bool_none (fin_bl I q (by simp))
    | bl j => cases ry; exact ne_bool (fin_bl I q (congrArg not dec_bl))
    | str j => obtain ⟨t', rfl⟩ := ry; exact PySem.EqMixed.ne_bool_str (fin_bl I q (by simp))
    | _ => exact absurd (show false = true from hs) Bool.false_ne_true
  | int i =>
    obtain ⟨t, rfl⟩ := rx
    cases y with
    | non => cases ry; exact PySem.EqNone.ne_int_none (fin_bl I q (by simp))
    | int j => obtain ⟨t', rfl⟩ := ry; exact ne_int (fin_bl I q (congrArg not dec_int))
    | str j => obtain ⟨t', rfl⟩ := ry; exact PySem.EqMixed.ne_int_str (fin_bl I q (by simp))
    | _ => exact absurd (show false = true from hs) Bool.false_ne_true
  | str i =>
    obtain ⟨t, rfl⟩ := rx
    cases y with
    | non => cases ry; exact PySem.EqNone.ne_str_none (fin_bl I q (by simp))
    | bl j => cases ry; exact PySem.EqMixed.ne_str_bool (fin_bl I q (by simp))
    | int j => obtain ⟨t', rfl⟩ := ry; exact PySem.EqMixed.ne_str_int (fin_bl I q (by simp))
    | str j => obtain ⟨t', rfl⟩ := ry; exact ne_str (fin_bl I q (congrArg not dec_str))
    | _ => exact absurd (show false = true from hs) Bool.false_ne_true
  | byt i =>
    obtain ⟨t, rfl⟩ := rx
    cases y with
    | byt j => obtain ⟨t', rfl⟩ := ry; exact PySem.W.ne_bytes (fin_bl I q (congrArg not dec_byt))
    | _ => exact absurd (show false = true from hs) Bool.false_ne_true
  | _ => cases y <;> exact absurd (show false = true from hs) Bool.false_ne_true

theorem op_lt : OpR X (compareOp .Lt) (rI0 fun i j => .bl (decide (i < j))) := opB0 fun _ _ _ _ _ _ _ q => lt_int q
theorem op_le : OpR X (compareOp .LtE) (rI0 fun i j => .bl (decide (i ≤ j))) := opB0 fun _ _ _ _ _ _ _ q => le_int q
theorem op_gt : OpR X (compareOp .Gt) (rI0 fun i j => .bl (decide (j < i))) := opB0 fun _ _ _ _ _ _ _ q => gt_int q
theorem op_ge : OpR X (compareOp .GtE) (rI0 fun i j => .bl (decide (j ≤ i))) := opB0 fun _ _ _ _ _ _ _ q => ge_int q
theorem op_isN : OpR X (compareOp .Is) (fun x y H Q => y = .non ∧ Q (.bl (decide (x = .non))) H) := by
  intro pins s σ H x y v u Q I rx ry h
  obtain ⟨rfl, q⟩ := h
  cases ry
  refine is_none_gen (fin_bl I q ?_)
  cases x <;> first
    | (cases rx; rfl)
    | (obtain ⟨t, rfl⟩ := rx; rfl)
theorem op_notN : OpR X (compareOp .IsNot) (fun x y H Q => y = .non ∧ Q (.bl (!decide (x = .non))) H) := by
  intro pins s σ H x y v u Q I rx ry h
  obtain ⟨rfl, q⟩ := h
  cases ry
  refine isnot_none_gen (fin_bl I q ?_)
  cases x <;> first
    | (cases rx; rfl)
    | (obtain ⟨t, rfl⟩ := rx; rfl)

theorem OpR.or {f : Value → Value → Sem Value} {r r' : R2} (h : OpR X f r) (h' : OpR X f r') : OpR X f (fun x y H Q => r x y H Q ∨ r' x y H Q) := by
  intro pins s σ H x y v u Q I rx ry q
  rcases q with q | q
  · exact h pins s σ H x y v u Q I rx ry q
  · exact h' pins s σ H x y v u Q I rx ry q

theorem nomark (b : Expr) {op : CmpOp} (h : op ≠ .In := by decide) (h2 : op ≠ .NotIn := by decide) : behindInMarks op b = false := by
  have e1 : (op == CmpOp.In) = false := by cases op <;> first | rfl | exact absurd rfl h
  have e2 : (op == CmpOp.NotIn) = false := by cases op <;> first | rfl | exact absurd rfl h2
  cases b <;> simp [behindInMarks, e1, e2]
theorem pe_cmpR {op : CmpOp} {r : R2} (ho : OpR X (compareOp op) r) (ha : PE X a ta) (hb : PE X b tb) (hm : behindInMarks op b = false) : PE X (.Compare a [op] [b] pos) (tOp r ta tb) := by
  intro pins s σ H Q I h
  exact wpAny_Compare1 (binT ha hb I h fun v u s2 x y H2 I2 rx ry q => ho pins s2 σ H2 x y v u Q I2 rx ry q) hm
theorem line63 : (sizeLine : Nat) < 2 ^ 63 := by rw [sizeLine_eq]; decide
theorem op_add_str : OpR X (binaryOp .Add) (fun x y H Q => ∃ i j, x = .str i ∧ y = .str j ∧ i.length + j.length ≤ sizeLine ∧ Q (.str (i ++ j)) H) := by
  intro pins s σ H x y v u Q I rx ry h
  obtain ⟨i, j, rfl, rfl, hz, q⟩ := h
  obtain ⟨t, rfl⟩ := rx
  obtain ⟨t', rfl⟩ := ry
  exact add_str (fun t' tk => ⟨.str (i ++ j), H, I.tok _, ⟨_, rfl⟩, q⟩) hz
theorem vals1 {x : V} {us : List Value} (r : Vals [x] us) : ∃ u, us = [u] ∧ RelV x u := by
  cases r with
  | cons r1 r2 => cases r2; exact ⟨_, rfl, r1⟩
theorem vals2 {x y : V} {us : List Value} (r : Vals [x, y] us) : ∃ u w', us = [u, w'] ∧ RelV x u ∧ RelV y w' := by
  cases r with
  | cons r1 r2 =>
    cases r2 with
    | cons r3 r4 => cases r4; exact ⟨_, _, rfl, r1, r3⟩
theorem call_min2 (hc : X.calm = true) : CallR X (.builtin "min") (fun xs H Q => ∃ i j, xs = [.int i, .int j] ∧ Q (.int (if j < i then j else i)) H) := by
  intro pins s σ H xs us Q I r h
  obtain ⟨i, j, rfl, q⟩ := h
  obtain ⟨u, w', rfl, ⟨t, rfl⟩, ⟨t', rfl⟩⟩ := vals2 r
  refine min_two_ints (I.ok.hd hc) fun h' tk k => ⟨_, H, I.kept k, ?_, q⟩
  by_cases hj : j < i
  · rw [if_pos hj, if_pos hj]; exact ⟨_, rfl⟩
  · rw [if_neg hj, if_neg hj]; exact ⟨_, rfl⟩
theorem call_int1 : CallR X (.type "int") (fun xs H Q => (∃ i, xs = [.int i] ∧ Q (.int i) H) ∨ ∃ k, xs = [.bl k] ∧ Q (.int (if k then 1 else 0)) H) := by
  intro pins s σ H xs us Q I r h
  rcases h with ⟨i, rfl, q⟩ | ⟨k, rfl, q⟩
  · obtain ⟨u, rfl, t, rfl⟩ := vals1 r
    exact call_int_int ⟨.int i, H, I, ⟨_, rfl⟩, q⟩
  · obtain ⟨u, rfl, r1⟩ := vals1 r
    cases r1
    exact call_int_bool ⟨.int (if k then 1 else 0), H, I.tok _, ⟨_, rfl⟩, q⟩
end
end L2

namespace L2
open PySem PySem.Spec PyProof.Rows

structure ObjM (h : Heap) (x dx C : Addr) (mA : Str → Option Value) : Prop where
  obj : h.get? x = some (PySem.W.instObj C dx)
  ns : h.Ns1 dx mA
  ne : dx ≠ x

theorem lookIn_ns {h : Heap} {dx : Addr} {mA : Str → Option Value} (n : h.Ns1 dx mA) : ∃ od, h.get? dx = some od ∧ ∀ name, PySem.W.lookIn name od = some (mA name) := by
  obtain ⟨o, es, ep, ho, hd, hk, _, hm⟩ := n
  refine ⟨o, ho, fun name => ?_⟩
  have e := hm name
  unfold nsFind findBy at e
  rw [← Array.find?_toList] at e
  unfold PySem.W.lookIn
  rw [hd]
  dsimp only
  split
  · rename_i y q
    rw [q] at e
    exact congrArg some e
  · rename_i q
    rw [q] at e
    have a : es.toList.any (·.refKey) = false := by
      rw [List.any_eq_false]
      intro y hy
      obtain ⟨z, t, hkey⟩ := hk y (Array.mem_toList_iff.mp hy)
      simp [DictEntry.refKey, hkey]
    have a' : ¬ es.toList.any (·.refKey) = true := by rw [a]; exact Bool.false_ne_true
    rw [if_neg a']
    exact congrArg some e

theorem ObjM.look {h : Heap} {x dx C : Addr} {mA : Str → Option Value} (I : ObjM h x dx C mA) : ∃ od, PySem.W.InstAt h x (PySem.W.instObj C dx) C (some od) ∧ ∀ name, PySem.W.lookIn name od = some (mA name) :=
  let ⟨od, ho, hl⟩ := lookIn_ns I.ns
  ⟨od, ⟨I.obj, rfl, rfl, ho⟩, hl⟩

section
variable {prog : Program} {w : World} {A : Around} {E : Value → Shared → Prop} {s : Shared} {K : PySem.W.Frag} {x dx C f : Addr} {mA : Str → Option Value} {name : Str} {v : Value}

theorem get_map {expr : Bool} {Q : Value → Shared → Prop} (X : K.In s.heap) (I : ObjM s.heap x dx C mA) (hg : PySem.W.plainGet K C name = true) (hh : PySem.W.hasDictIn K C = true)
    (ha : PySem.W.findIn K (.ref C) name = some none) (hv : mA name = some v) (hv' : PySem.W.handedIn v = true) (h : Q v { s with toks := s.toks + 1 }) :
    wpAny (model prog w) A (getAttr (.ref x) name expr) Q E s := by
  obtain ⟨od, J, hl⟩ := I.look
  exact PySem.W.get_value X J (PySem.W.plainGet_of hg).1 (PySem.W.findObj_own hh ha rfl (by rw [hl, hv])) hv' h

theorem get_meth {pl : Sem Bool} {Q : Value × List Value → Shared → Prop} (X : K.In s.heap) (I : ObjM s.heap x dx C mA) (hg : PySem.W.plainGet K C name = true)
    (hf : PySem.W.findIn K (.ref C) name = some (some (.ref f))) (ht : PySem.W.isFn K (.ref f) = true) (hv : mA name = none) (h : Q (.ref f, [.ref x]) s) :
    wpAny (model prog w) A (getMethod (.ref x) name pl) Q E s := by
  obtain ⟨od, J, hl⟩ := I.look
  exact PySem.W.method_fn X J (PySem.W.plainGet_of hg).1 (PySem.W.plainGet_of hg).2 hf (beq_iff_eq.mp ht) (by show (PySem.W.lookIn name od).map (·.isSome) = some false; rw [hl, hv]; rfl) h

theorem set_map {ns : List Str} {Q : Unit → Shared → Prop} (X : K.In s.heap) (I : ObjM s.heap x dx C mA)
    (hs : PySem.W.findIn K (.ref C) "__setattr__" = some (some (.builtin "object.__setattr__"))) (hp : PySem.W.plainOver K C = true) (ht : PySem.W.takerIn K C name = some none) (hh : PySem.W.hasDictIn K C = true)
    (hw : PySem.Within mA ns) (hsz : ns.length ≤ sizeLine)
    (h : ∀ h', ObjM h' x dx C (fun y => if y = name then some v else mA y) → Heap.SameBut dx s.heap h' → Q () { s with heap := h', toks := s.toks + 2 }) :
    wpAny (model prog w) A (setAttr (.ref x) name v) Q E s := by
  obtain ⟨od, J, hl⟩ := I.look
  refine PySem.W.set_plain X J hs (PySem.W.osa_open (s := { s with toks := s.toks + 1 }) (r := none) X J hp ht fun b => ?_)
  obtain ⟨cd, hc, hd'⟩ := PySem.W.any_some hh
  have hx : s.heap.get? x = some ⟨.ref C, some dx, .plain, #[]⟩ := I.obj
  refine wpAny_bind (wpAny_pure (wpAny_bind (wpAny_bind (wpAny_loadPart hx (wpAny_bind (PySem.W.Looks.here (s := { s with toks := s.toks + 1 }) (PySem.W.looks_clsIn X hc) ?_))))))
  rw [hd']
  refine wpAny_pure (a := some dx) (wpAny_bind (wpAny_pure (wpAny_bind ?_)))
  refine wpAny_nsSet1 (s := { s with toks := s.toks + 1 }) I.ns fun h' hn2 hs2 => ?_
  obtain ⟨oD, esD, epD, hoD, hdD, hcD⟩ := hn2.count (PySem.Within.cons name v hw)
  refine wpAny_bind (wpAny_lookBehind hoD (by rw [hdD]; exact pastItsLine_dict (Nat.le_trans hcD (by rw [List.length_cons]; omega))) ?_)
  exact wpAny_pure (h _ ⟨(hs2.2 _ (Ne.symm I.ne)).trans I.obj, hn2, I.ne⟩ hs2)

theorem make_map {R : Result → Shared → Prop} {vs : List Value} {kw : List (Str × Value)} (X : K.In s.heap) (hm : PySem.W.makesIn K C = true)
    (hi : PySem.W.findIn K (.ref C) "__init__" = some (some (.ref f))) (hf : PySem.W.typeIn K (.ref f) = some (.type "function"))
    (h : codeAny (model prog w) (A.under (.builtin "type.__call__" ⟨.ref C :: vs, kw⟩)) (.call (.ref f) ⟨.ref (s.heap.objs.size + 1) :: vs, kw⟩) (PySem.W.InitBack (s.heap.objs.size + 1) R)
      { s with heap := (s.heap.push PySem.W.emptyDict).push (PySem.W.instObj C s.heap.objs.size) }) :
    codeAny (model prog w) A (.call (.ref C) ⟨vs, kw⟩) R s := by
  obtain ⟨hh, g, d, t, os⟩ := s
  exact PySem.W.make_core (PySem.W.makes_of X hm) (PySem.W.looks_findIn X hi) (fun self => PySem.W.bind_fn X self hf) (.inl rfl) h
end

def putF (f : Str) (v : V) : List (Str × V) → List (Str × V)
  | [] => [(f, v)]
  | (g, x) :: r => if g = f then (g, v) :: r else (g, x) :: putF f v r
theorem lookup_putF (f g : Str) (v : V) : ∀ fs : List (Str × V), (putF f v fs).lookup g = if g = f then some v else fs.lookup g
  | [] => by
    show List.lookup g [(f, v)] = _
    by_cases h : g = f
    · have hb : (g == f) = true := beq_iff_eq.mpr h
      simp only [List.lookup, hb, if_pos h]
    · have hb : (g == f) = false := beq_eq_false_iff_ne.mpr h
      simp only [List.lookup, hb, if_neg h]
  | (k, x) :: r => by
    have ih := lookup_putF f g v r
    rw [show putF f v ((k, x) :: r) = (if k = f then (k, v) :: r else (k, x) :: putF f v r) from rfl]
    by_cases hk : k = f
    · rw [if_pos hk]
      by_cases h : g = k
      · have hb : (g == k) = true := beq_iff_eq.mpr h
        simp only [List.lookup, hb, if_pos (h.trans hk)]
      · have hb : (g == k) = false := beq_eq_false_iff_ne.mpr h
        simp only [List.lookup, hb, if_neg (fun e : g = f => h (e.trans hk.symm))]
    · rw [if_neg hk]
      by_cases h : g = k
      · have hb : (g == k) = true := beq_iff_eq.mpr h
        simp only [List.lookup, hb, if_neg (fun e : g = f => hk (h.symm.trans e))]
      · have hb : (g == k) = false := beq_eq_false_iff_ne.mpr h
        simp only [List.lookup, hb]
        exact ih
theorem keys_putF (f : Str) (v : V) : ∀ fs : List (Str × V), f ∈ (putF f v fs).map (·.1) ∧ ∀ g, g ∈ fs.map (·.1) → g ∈ (putF f v fs).map (·.1)
  | [] => ⟨by simp [putF], fun g h => by simp at h⟩
  | (k, x) :: r => by
    obtain ⟨i1, i2⟩ := keys_putF f v r
    rw [show putF f v ((k, x) :: r) = (if k = f then (k, v) :: r else (k, x) :: putF f v r) from rfl]
    by_cases hk : k = f
    · rw [if_pos hk]
      subst hk
      exact ⟨by simp, fun g h => by simpa using h⟩
    · rw [if_neg hk]
      refine ⟨?_, fun g h => ?_⟩
      · rw [List.map_cons]
        exact List.mem_cons_of_mem _ i1
      · rw [List.map_cons] at h ⊢
        rcases List.mem_cons.mp h with e | e
        · exact List.mem_cons.mpr (.inl e)
        · exact List.mem_cons_of_mem _ (i2 g e)
theorem length_putF (f : Str) (v : V) : ∀ fs : List (Str × V), (putF f v fs).length ≤ fs.length + 1
  | [] => by simp [putF]
  | (k, x) :: r => by
    have ih := length_putF f v r
    rw [show putF f v ((k, x) :: r) = (if k = f then (k, v) :: r else (k, x) :: putF f v r) from rfl]
    by_cases hk : k = f
    · rw [if_pos hk, List.length_cons, List.length_cons]; omega
    · rw [if_neg hk, List.length_cons, List.length_cons]; omega

theorem RelO.some_of {v : V} {o : Option Value} (r : RelO (some v) o) : ∃ u, o = some u ∧ RelV v u := by
  cases o with
  | none => exact (show False from r).elim
  | some u => exact ⟨u, rfl, r⟩
theorem RelO.none_of {o : Option Value} (r : RelO none o) : o = none := by
  cases o with
  | none => rfl
  | some u => exact (show False from r).elim
theorem handed_of {v : V} {u : Value} (r : RelV v u) : PySem.W.handedIn u = true := by
  cases v with
  | non => cases (show u = Value.none from r); rfl
  | bl b => cases (show u = Value.bool b from r); rfl
  | int i => obtain ⟨t, e⟩ := (show ∃ t, u = Value.int i t from r); cases e; rfl
  | str x => obtain ⟨t, e⟩ := (show ∃ t, u = Value.str x t from r); cases e; rfl
  | byt b => obtain ⟨t, e⟩ := (show ∃ t, u = Value.bytes b t from r); cases e; rfl
  | flt b => obtain ⟨t, e⟩ := (show ∃ t, u = Value.float b t from r); cases e; rfl
  | ref a => cases (show u = Value.ref a from r); rfl
  | ty n => cases (show u = Value.type n from r); rfl

section
variable {P : Program} {w : World} {H H' : Hp} {h h' : Heap} {a C dx : Addr} {fs fs' : List (Str × V)}
theorem ins_get (hok : HOk P w H h) (e : H a = some (.ins C dx fs)) : ∃ mA, ObjM h a dx C mA ∧ (∀ f, RelO (fs.lookup f) (mA f)) ∧ PySem.Within mA (fs.map (·.1)) ∧ fs.length ≤ 1000 ∧ H dx = some (.own a) := by
  obtain ⟨d, z, ne, ob, mA, n, r, q⟩ := (show ObjOk P w H h a (.ins C dx fs) from hok a _ e)
  exact ⟨mA, ⟨ob, n, ne⟩, r, q, z, d⟩
end

structure Cls (K : PySem.W.Frag) (C : Addr) : Prop where
  pg : PySem.W.plainGet K C Str.empty = true
  hd : PySem.W.hasDictIn K C = true
  po : PySem.W.plainOver K C = true
  sa : PySem.W.findIn K (.ref C) "__setattr__" = some (some (.builtin "object.__setattr__"))
theorem Cls.get {K : PySem.W.Frag} {C : Addr} (c : Cls K C) (f : Str) : PySem.W.plainGet K C f = true := c.pg
def NoAttr (K : PySem.W.Frag) (C : Addr) (f : Str) : Prop := PySem.W.findIn K (.ref C) f = some none
theorem NoAttr.taker {K : PySem.W.Frag} {C : Addr} {f : Str} (n : NoAttr K C f) : PySem.W.takerIn K C f = some none := by
  unfold PySem.W.takerIn
  rw [show PySem.W.findIn K (.ref C) f = some none from n]
  rfl
structure Meth (K : PySem.W.Frag) (C : Addr) (m : Str) (f : Addr) : Prop where
  at_ : PySem.W.findIn K (.ref C) m = some (some (.ref f))
  fn : PySem.W.isFn K (.ref f) = true
  kp : PySem.W.keepIn K (.ref f) = true

section
variable {X : Cx} {pins : List (Addr × Obj)} {σ : St} {H : Hp} {s : Shared} {a C dx : Addr} {fs : List (Str × V)} {f : Str} {v : V} {A : Around} {E : Value → Shared → Prop}

theorem getattr_ok {b : Bool} {Q : Value → Shared → Prop} (I : Inv X pins σ H s) (e : H a = some (.ins C dx fs)) (c : Cls X.K C) (n : NoAttr X.K C f) (l : fs.lookup f = some v)
    (h : ∀ u s', Inv X pins σ H s' → RelV v u → Q u s') : wpAny (model X.prog X.w) A (getAttr (.ref a) f b) Q E s := by
  obtain ⟨mA, O, r, _, _, _⟩ := ins_get I.hok e
  obtain ⟨u, hu, ru⟩ := RelO.some_of (v := v) (o := mA f) (by rw [← l]; exact r f)
  exact get_map I.kIn O (c.get f) c.hd n hu (handed_of ru) (h u _ (I.tok _) ru)

theorem getmeth_ok {m : Str} {g : Addr} {pl : Sem Bool} {Q : Value × List Value → Shared → Prop} (I : Inv X pins σ H s) (e : H a = some (.ins C dx fs)) (c : Cls X.K C) (k : Meth X.K C m g) (l : fs.lookup m = none)
    (h : Q (.ref g, [.ref a]) s) : wpAny (model X.prog X.w) A (getMethod (.ref a) m pl) Q E s := by
  obtain ⟨mA, O, r, _, _, _⟩ := ins_get I.hok e
  have hn : mA m = none := RelO.none_of (by rw [← l]; exact r m)
  exact get_meth I.kIn O (c.get m) k.at_ k.fn hn h

theorem setattr_ok {y : V} {u : Value} {Q : Unit → Shared → Prop} (I : Inv X pins σ H s) (e : H a = some (.ins C dx fs)) (c : Cls X.K C) (n : NoAttr X.K C f) (hl : fs.length < 1000) (ry : RelV y u)
    (h : ∀ s', Inv X pins σ (upd H a (.ins C dx (putF f y fs))) s' → Q () s') : wpAny (model X.prog X.w) A (setAttr (.ref a) f u) Q E s := by
  obtain ⟨mA, O, r, wi, _, ho⟩ := ins_get I.hok e
  have hz : (fs.map (·.1)).length ≤ sizeLine := by rw [List.length_map, sizeLine_eq]; omega
  refine set_map I.kIn O c.sa c.po n.taker c.hd wi hz fun h' O' sb => h _ ?_
  have hd : ∃ o, h'.get? dx = some o := let ⟨o, _, _, e', _⟩ := O'.ns; ⟨o, e'⟩
  refine I.write (x := a) (e := dx) (by rw [e]; exact True.intro) (.inr ho) (fun b q hb z => (sb.2 b hb).trans z) hd ?_
  refine ⟨by rw [upd_ne O.ne]; exact ho, ?_, O.ne, O'.obj, _, O'.ns, fun g => ?_, fun g hg => ?_⟩
  · have := length_putF f y fs; omega
  · show RelO ((putF f y fs).lookup g) (if g = f then some u else mA g)
    rw [lookup_putF]
    by_cases q : g = f
    · rw [if_pos q, if_pos q]; exact ry
    · rw [if_neg q, if_neg q]; exact r g
  · by_cases q : g = f
    · rw [q]; exact (keys_putF f y fs).1
    · refine (keys_putF f y fs).2 g (wi g fun z => hg ?_)
      show (if g = f then some u else mA g) = none
      rw [if_neg q]; exact z

theorem Inv.made (I : Inv X pins σ H s) : Inv X pins σ (upd (upd H s.heap.objs.size (.own (s.heap.objs.size + 1))) (s.heap.objs.size + 1) (.ins C s.heap.objs.size []))
    { s with heap := (s.heap.push PySem.W.emptyDict).push (PySem.W.instObj C s.heap.objs.size) } := by
  have e1 : (s.heap.push PySem.W.emptyDict).get? s.heap.objs.size = some PySem.W.emptyDict := Heap.get?_push_size s.heap rfl
  have e2 : ((s.heap.push PySem.W.emptyDict).push (PySem.W.instObj C s.heap.objs.size)).get? (s.heap.objs.size + 1) = some (PySem.W.instObj C s.heap.objs.size) := by
    have := Heap.get?_push_size (s.heap.push PySem.W.emptyDict) (o := PySem.W.instObj C s.heap.objs.size) rfl
    rwa [Heap.size_push] at this
  have e3 : (s.heap.push PySem.W.emptyDict).Ns s.heap.objs.size (fun _ => none) := ⟨PySem.W.emptyDict, #[], _, e1, rfl, (fun e he => absurd he (by simp)), fun _ => rfl⟩
  have I1 := I.laid (a := s.heap.objs.size) (o := .own (s.heap.objs.size + 1)) (h' := s.heap.push PySem.W.emptyDict) (t' := s.toks) (fun b u q => Heap.get?_push_of_some _ q) (Nat.le_refl _) ⟨_, e1⟩
  refine I1.laid (a := s.heap.objs.size + 1) (o := .ins C s.heap.objs.size []) (t' := s.toks) (fun b u q => Heap.get?_push_of_some _ q) (Nat.le_of_eq (Heap.size_push _ _)) ?_
  have ne : s.heap.objs.size ≠ s.heap.objs.size + 1 := Nat.ne_of_lt (Nat.lt_succ_self _)
  refine ⟨by rw [upd_ne ne, upd_same], Nat.zero_le _, ne, e2, fun _ => none, (Heap.Ns1.of_empty e3).at fun o q => Heap.get?_push_of_some _ q, fun _ => True.intro, fun y hy => absurd rfl hy⟩

theorem attr_of {prog : Program} {w : World} {env : Env} {e : Expr} {f : Str} {pos : Pos} {s : Shared} {Q : Value → Shared → Prop} (hb : attributeBase e f env (eval e env) = eval e env)
    (h : wpAny (model prog w) A (eval e env) (fun o s₁ => wpAny (model prog w) A (getAttr o f true) Q E s₁) E s) : wpAny (model prog w) A (eval (.Attribute e f pos) env) Q E s :=
  Attribute_any_ h (by rw [arm_eval_Attribute, hb])
end

def InOp (X : Cx) (op : Operator) (rd : V → V → Hp → VK → Prop) : Prop :=
  ∀ (pins : List (Addr × Obj)) (s : Shared) (σ : St) (H : Hp) (x y : V) (u v : Value) (Q : VK), Inv X pins σ H s → RelV x u → RelV y v → rd x y H Q → wpAny (model X.prog X.w) X.A (inplaceOp op u v) (EP X pins σ Q) X.xe s
section
variable {X : Cx} {o e value : Expr} {f : Str} {pos pos' tpos : Pos} {ta tv : TE}
def rAdd : V → V → Hp → VK → Prop := fun x y H Q => ∃ i j, x = .int i ∧ y = .int j ∧ Q (.int (i + j)) H
theorem in_add : InOp X .Add rAdd := by
  rintro pins s σ H x y u v Q I rx ry ⟨i, j, rfl, rfl, q⟩
  obtain ⟨t, rfl⟩ := (show ∃ t, u = Value.int i t from rx)
  obtain ⟨t', rfl⟩ := (show ∃ t', v = Value.int j t' from ry)
  exact PyProof.Rows.iadd_int ⟨.int (i + j), H, I.tok _, ⟨_, rfl⟩, q⟩
end

section
variable {X : Cx} {pins : List (Addr × Obj)} {σ : St} {H : Hp} {s : Shared} {A : Around} {E : Value → Shared → Prop} {Q : Value → Shared → Prop} {c : Value} {b : Bool}
inductive TyOf (K : PySem.W.Frag) (H : Hp) : V → Value → Prop where
  | non : TyOf K H .non (.type "NoneType")
  | bl (x : Bool) : TyOf K H (.bl x) (.type "bool")
  | int (i : Int) : TyOf K H (.int i) (.type "int")
  | str (x : Str) : TyOf K H (.str x) (.type "str")
  | flt (x : UInt64) : TyOf K H (.flt x) (.type "float")
  | lst {a : Addr} {xs : List V} (e : H a = some (.lst xs)) : TyOf K H (.ref a) (.type "list")
  | frz {a : Addr} {o : Obj} {xs : List V} (e : H a = some (.frz o (.lst xs))) : TyOf K H (.ref a) (.type "list")
  | tup {a : Addr} {xs : List V} (e : H a = some (.tup xs)) : TyOf K H (.ref a) (.type "tuple")
  | dK {a : Addr} {kvs : List (Key × V)} (e : H a = some (.dK kvs)) : TyOf K H (.ref a) (.type "dict")
  | dT {a : Addr} {kvs : List (List Key × V)} (e : H a = some (.dT kvs)) : TyOf K H (.ref a) (.type "dict")
  | ins {a C dx : Addr} {fs : List (Str × V)} (e : H a = some (.ins C dx fs)) (cl : Cls K C) (ha : PySem.W.findIn K (.ref C) "__class__" = some (some (.builtin "object.__class__")))
      (hn : PySem.W.specialIn K (.builtin "object.__class__") "__get__" = some (some (.builtin "getset_descriptor.__get__"))) (htk : PySem.W.takesIn K (.builtin "object.__class__") = some true)
      (hm : PySem.W.mroIn K C (.type "object") = some true) : TyOf K H (.ref a) (.ref C)
theorem isinst_ok {x : V} {u t : Value} (I : Inv X pins σ H s) (rx : RelV x u) (ty : TyOf X.K H x t) (e : PySem.W.kitOne X.K t c = some b) (h : ∀ tk, Q (.bool b) { s with toks := tk }) :
    wpAny (model X.prog X.w) A (call (.builtin "isinstance") [u, c]) Q E s := by
  cases ty with
  | non => cases (show u = Value.none from rx); exact PySem.W.kia_one PySem.W.kitx_none I.kIn True.intro e (fun z => nomatch z) h
  | bl y => cases (show u = Value.bool y from rx); exact PySem.W.kia_one PySem.W.kitx_bool I.kIn True.intro e (fun z => nomatch z) h
  | int i => obtain ⟨t, q⟩ := (show ∃ t, u = Value.int i t from rx); cases q; exact PySem.W.kia_one PySem.W.kitx_int I.kIn True.intro e (fun z => nomatch z) h
  | str y => obtain ⟨t, q⟩ := (show ∃ t, u = Value.str y t from rx); cases q; exact PySem.W.kia_one PySem.W.kitx_str I.kIn True.intro e (fun z => nomatch z) h
  | flt y => obtain ⟨t, q⟩ := (show ∃ t, u = Value.float y t from rx); cases q; exact PySem.W.kia_one PySem.W.kitx_float I.kIn True.intro e (fun z => nomatch z) h
  | @lst a xs ea =>
    cases (show u = Value.ref a from rx)
    obtain ⟨_, _, n, _, h1⟩ := (show ObjOk X.prog X.w H s.heap a (.lst xs) from I.hok a _ ea)
    exact PySem.W.kia_one PySem.W.kitx_list I.kIn ⟨_, h1, rfl⟩ e (fun z => nomatch z) h
  | @frz a ob xs ea =>
    cases (show u = Value.ref a from rx)
    obtain ⟨_, _, _, n, _, h1⟩ := (show ObjOk X.prog X.w H s.heap a (.frz ob (.lst xs)) from I.hok a _ ea)
    exact PySem.W.kia_one PySem.W.kitx_list I.kIn ⟨_, h1, rfl⟩ e (fun z => nomatch z) h
  | @tup a xs ea =>
    cases (show u = Value.ref a from rx)
    obtain ⟨_, _, _, p⟩ := (show ObjOk X.prog X.w H s.heap a (.tup xs) from I.hok a _ ea)
    obtain ⟨o, h1, h2, _⟩ := p
    exact PySem.W.kia_one PySem.W.kitx_tuple I.kIn ⟨o, h1, h2⟩ e (fun z => nomatch z) h
  | @dK a kvs ea =>
    cases (show u = Value.ref a from rx)
    obtain ⟨_, _, vs, _, p⟩ := (show ObjOk X.prog X.w H s.heap a (.dK kvs) from I.hok a _ ea)
    obtain ⟨o, es, ep, h1, h2, _⟩ := p
    exact PySem.W.kia_one PySem.W.kitx_dict I.kIn ⟨o, h1, h2.1⟩ e (fun z => nomatch z) h
  | @dT a kvs ea =>
    cases (show u = Value.ref a from rx)
    obtain ⟨_, _, xs, _, o, es, ep, h1, h2, _⟩ := (show ObjOk X.prog X.w H s.heap a (.dT kvs) from I.hok a _ ea)
    exact PySem.W.kia_one PySem.W.kitx_dict I.kIn ⟨o, h1, h2.1⟩ e (fun z => nomatch z) h
  | @ins a C dx fs ea cl ha hn htk hm =>
    cases (show u = Value.ref a from rx)
    obtain ⟨mA, O, _⟩ := ins_get I.hok ea
    obtain ⟨od, J, _⟩ := O.look
    exact PySem.W.kia_one (PySem.W.kitx_own (cl.get _) cl.hd ha hn htk hm) I.kIn J e (fun z => nomatch z) h
end
end L2

namespace L2
open PySem PySem.Spec PyProof.Rows

structure Room (k : Nat) (A : Around) : Prop where
  hd : A.handled = none
  dp : A.depth + 3 * k + 5 < recursionLimit
  un : A.units + 16 * k + 200 < cLine
theorem Room.mono {j k : Nat} {A : Around} (r : Room k A) (h : j ≤ k) : Room j A := ⟨r.hd, by have := r.dp; omega, by have := r.un; omega⟩
theorem Room.deeper {k : Nat} {A : Around} (r : Room (k + 1) A) (env : Env) : Room k (A.deeper env) :=
  ⟨r.hd, by have := r.dp; show A.depth + 1 + 3 * k + 5 < _; omega, by have := r.un; show A.units + 3 + 16 * k + 200 < _; omega⟩
theorem make_depth {A : Around} {C : Addr} {us : List Value} {kw : List (Str × Value)} : (A.under (.builtin "type.__call__" ⟨.ref C :: us, kw⟩)).depth = A.depth + 1 := by
  first | rfl | simp [Around.under, Code.weight, Code.isCreation, Code.isGuard, Code.isCaller, Code.frames, Code.isFrame, guardIds]
theorem make_units {A : Around} {C : Addr} {us : List Value} {kw : List (Str × Value)} : (A.under (.builtin "type.__call__" ⟨.ref C :: us, kw⟩)).units = A.units + 1 := by
  first | rfl | simp [Around.under, Code.cUnits, Code.frames, Code.isFrame]
theorem Room.make {k : Nat} {A : Around} (r : Room (k + 1) A) (C : Addr) (us : List Value) (kw : List (Str × Value)) : Room k (A.under (.builtin "type.__call__" ⟨.ref C :: us, kw⟩)) :=
  ⟨r.hd, by have := r.dp; rw [make_depth]; omega, by have := r.un; rw [make_units]; omega⟩
theorem Room.depth {k : Nat} {A : Around} (r : Room k A) : A.depth < recursionLimit := by have := r.dp; omega
theorem Room.units {k : Nat} {A : Around} (r : Room k A) : A.units + 64 < cLine := by have := r.un; omega
def tNil : TA := fun _ H Q => Q [] H
def tCons (ta : TE) (tr : TA) : TA := fun σ H Q => ta σ H fun x H1 => tr σ H1 fun xs H2 => Q (x :: xs) H2
section
variable {X : Cx} {e : Expr} {es : List Expr} {te : TE} {t : TA} {pos : Pos}
theorem pa_nil : PA X [] tNil := fun _ _ _ _ H Q I h => Calls.spliced_nil ⟨[], H, I, .nil, h⟩
theorem pa_cons (ha : PE X e te) (hr : PA X es t) (hs : starEach (e :: es) X.env = (false, eval e X.env) :: starEach es X.env := by rfl) : PA X (e :: es) (tCons te t) := by
  intro pos pins s σ H Q I h
  rw [hs]
  show wpAny _ _ (spliced ((false, eval e X.env) :: backTo pos (starEach es X.env))) _ _ s
  refine Calls.spliced_cons (thn (ha pins s σ H _ I h) fun u s1 ⟨x, H1, I1, r1, q1⟩ => ?_)
  exact thn (hr pos pins s1 σ H1 _ I1 q1) fun us s2 ⟨xs, H2, I2, r2, q2⟩ => ⟨x :: xs, H2, I2, .cons r1 r2, q2⟩

def tTup (t : TA) : TE := fun σ H Q => t σ H fun xs H1 => xs.length ≤ sizeLine ∧ ∀ p, H1 p = none → Q (.ref p) (upd H1 p (.tup xs))
def tLst (t : TA) : TE := fun σ H Q => t σ H fun xs H1 => xs.length ≤ sizeLine ∧ ∀ p, H1 p = none → Q (.ref p) (upd H1 p (.lst xs))
theorem pe_tup {x1} (h : PA X es t) : PE X (.Tuple es x1 pos) (tTup t) := by
  intro pins s σ H Q I hq
  refine wpAny_Tuple_spliced (thn (h pos pins s σ H _ I hq) fun us s1 ⟨xs, H1, I1, r, z, q⟩ => ⟨by rw [← r.length]; exact z, ?_⟩)
  have hf : H1 s1.heap.objs.size = none := I1.hok.fresh (Nat.le_refl _)
  refine ⟨.ref s1.heap.objs.size, upd H1 s1.heap.objs.size (.tup xs), I1.laid (t' := s1.toks) (fun b u e => Heap.get?_push_of_some _ e) (Nat.le_refl _) ?_, rfl, q _ hf⟩
  exact ⟨z, us, r, ⟨_, Heap.get?_push_size _ rfl, rfl, _, rfl⟩⟩
theorem pe_lst (h : PA X es t) : PE X (.List es pos) (tLst t) := by
  intro pins s σ H Q I hq
  refine wpAny_List_spliced (thn (h pos pins s σ H _ I hq) fun us s1 ⟨xs, H1, I1, r, z, q⟩ => ⟨by rw [← r.length]; exact z, ?_⟩)
  have hf : H1 s1.heap.objs.size = none := I1.hok.fresh (Nat.le_refl _)
  refine ⟨.ref s1.heap.objs.size, upd H1 s1.heap.objs.size (.lst xs), I1.laid (t' := s1.toks) (fun b u e => Heap.get?_push_of_some _ e) (Nat.le_refl _) ?_, rfl, q _ hf⟩
  exact ⟨z, us, 0, r, Heap.get?_push_size _ rfl⟩
end

/-- a def's promise: the bound arguments in the parameters' order, the heap, the wanted end, the wanted exception -/
abbrev Sp := List V → Hp → VK → XK → Prop
abbrev CXT := List Env → Hp → Shared → XK → Value → Shared → Prop

structure Env0 (P : Program) (w : World) (K : PySem.W.Frag) (mg : Str → Option Value) (base : Heap) (A : Around) (outer : List Env) (s : Shared) (H : Hp) : Prop where
  frames : A.frames = some outer
  mod : Mod K mg base
  bs : ∀ b o, base.get? b = some o → s.heap.get? b = some o ∧ H b = none
  bsz : base.objs.size ≤ s.heap.objs.size
  funs : s.heap.FunFrames base outer
  frf : ∀ b ∈ frs outer, H b = none
  hok : HOk P w H s.heap
  bare : AllBare s.gens
def CE (outer : List Env) (P : Program) (w : World) (H : Hp) (s : Shared) (Q : VK) (u : Value) (s' : Shared) : Prop :=
  ∃ v H', s'.os = s.os ∧ AllBare s'.gens ∧ Un (frs outer) [] H H' s.heap s'.heap ∧ HOk P w H' s'.heap ∧ RelV v u ∧ Q v H'
def CR (CX : CXT) (outer : List Env) (P : Program) (w : World) (H : Hp) (s : Shared) (Q : VK) (E : XK) (r : Result) (s' : Shared) : Prop :=
  match r with
  | .ok (.ret u) => CE outer P w H s Q u s'
  | .ok _ => False
  | .error e => CX outer H s E e s'
structure FnOk (P : Program) (w : World) (K : PySem.W.Frag) (mg : Str → Option Value) (base : Heap) (CX : CXT) (k : Nat) (f : Addr) (fd : FuncData) (ps : List Str) (sp : Sp) : Prop where
  len : ∀ vs H Q E, sp vs H Q E → vs.length = ps.length
  run : ∀ (A : Around) (outer : List Env) (s : Shared) (H : Hp) (args : Args) (us : List Value) (vs : List V) (Q : VK) (E : XK), Room k A → Env0 P w K mg base A outer s H → BindsTo s fd args (ps.zip us) → Vals vs us → sp vs H Q E →
    codeAny (model P w) A (.call (.ref f) args) (CR CX outer P w H s Q E) s
theorem Env0.make {P : Program} {w : World} {K : PySem.W.Frag} {mg : Str → Option Value} {base : Heap} {A : Around} {outer : List Env} {s : Shared} {H : Hp} (e : Env0 P w K mg base A outer s H) (C : Addr) (us : List Value) (kw : List (Str × Value)) :
    Env0 P w K mg base (A.under (.builtin "type.__call__" ⟨.ref C :: us, kw⟩)) outer s H := ⟨by first | exact e.frames | (simpa [Around.under, Code.envs, Code.isFrame, pushEnvs] using e.frames), e.mod, e.bs, e.bsz, e.funs, e.frf, e.hok, e.bare⟩
section
variable {X : Cx} {pins : List (Addr × Obj)} {σ : St} {H : Hp} {s s' : Shared}
theorem Inv.env0 (I : Inv X pins σ H s) : Env0 X.prog X.w X.K X.mg X.base X.A X.stack s H :=
  ⟨I.ok.frames, I.ok.mod, I.bs, Nat.le_trans I.ok.bsz I.sz, I.stack, I.stkFree, I.hok, I.bare⟩
theorem Inv.after {Q : VK} {u : Value} (I : Inv X pins σ H s) (h : CE X.stack X.prog X.w H s Q u s') : EP X pins σ Q u s' := by
  obtain ⟨v, H', os, bare, un, hok, r, q⟩ := h
  obtain ⟨hh, g, d, t, os'⟩ := s'
  obtain rfl : os' = s.os := os
  exact ⟨v, H', I.call (h' := hh) (g' := g) (d' := d) (t' := t) (ch := []) un hok bare (fun b z => absurd z (by simp)), r, q⟩
end

def Binds (K : PySem.W.Frag) (fd : FuncData) (ps : List Str) (ds : List Value) : Prop :=
  ∀ (s : Shared) (us : List Value), K.In s.heap → (us ++ ds).length = ps.length → BindsTo s fd ⟨us, []⟩ (ps.zip (us ++ ds))
theorem Binds.all {K : PySem.W.Frag} {fd : FuncData} {ps : List Str} (h : ∀ us : List Value, us.length = ps.length → bindArgs fd ⟨us, []⟩ = pure (ps.zip us)) : Binds K fd ps [] := fun s us _ hl => by
  rw [List.append_nil] at hl ⊢
  exact .of_eq (h us hl)

section
variable {X : Cx} {CX : CXT} {k : Nat} {f C : Addr} {fd : FuncData} {ps : List Str} {sp : Sp} {dvs : List V} {ds : List Value} {E : XK} {x m : Str} {p pos apos : Pos} {e o : Expr} {es : List Expr} {ta : TE} {t : TA}

structure Mk (K : PySem.W.Frag) (C f : Addr) : Prop where
  makes : PySem.W.makesIn K C = true
  init : PySem.W.findIn K (.ref C) "__init__" = some (some (.ref f))
  fn : PySem.W.isFn K (.ref f) = true
  kp : PySem.W.keepIn K (.ref C) = true

end

section
variable {X : Cx} {CX : CXT} {k : Nat} {f C : Addr} {fd : FuncData} {ps ks : List Str} {sp : Sp} {E : XK} {x m : Str} {p pos apos kpos : Pos} {e o : Expr} {es : List Expr} {kws : List Keyword} {te ta : TE} {t tk : TA} {nm : Option Str}
variable {g : List Value → List Value → List Value} {gV : List V → List V → List V}
end

/-- names: the parameters first -/
structure FnScope (N P : List Str) (sc : Scope) : Prop where
  kind : sc.kind = .function
  co : sc.isCoroutine = false
  gen : sc.isGenerator = false
  nd : N.Nodup
  pre : N.take P.length = P
  par : ∀ x ∈ P, sc.names.lookup x = some .local ∨ sc.names.lookup x = some .cell
  nofree : ∀ y ∈ sc.names, y.2 ≠ .free

theorem bindL_out {kindOf : Str → Option NameKind} {x : Str} : ∀ {binds : List (Str × Value)} {m : Str → Option Value}, (∀ v, (x, v) ∉ binds) → bindL kindOf binds m x = m x
  | [], _, _ => rfl
  | (n, v) :: r, m, h => by
    unfold bindL
    rw [bindL_out fun w hw => h w (List.mem_cons_of_mem _ hw)]
    split
    · have : x ≠ n := by rintro rfl; exact h v List.mem_cons_self
      simp [this]
    · rfl
theorem bindC_out {kindOf : Str → Option NameKind} {x : Str} : ∀ {binds : List (Str × Value)} {m : Str → Option Value}, (∀ v, (x, v) ∉ binds) → bindC kindOf binds m x = m x
  | [], _, _ => rfl
  | (n, v) :: r, m, h => by
    unfold bindC
    rw [bindC_out fun w hw => h w (List.mem_cons_of_mem _ hw)]
    split
    · rfl
    · have : x ≠ n := by rintro rfl; exact h v List.mem_cons_self
      simp [this]
theorem bindL_get {kindOf : Str → Option NameKind} {x : Str} {v : Value} : ∀ {P : List Str} {vs : List Value} {i : Nat} {m : Str → Option Value}, P.Nodup → P[i]? = some x → vs[i]? = some v → kindOf x = some .local →
    bindL kindOf (P.zip vs) m x = some v
  | [], _, _, _, _, h, _, _ => by simp at h
  | _ :: _, [], _, _, _, _, h, _ => by simp at h
  | p :: P, w :: vs, 0, m, nd, h1, h2, hk => by
    simp at h1 h2; subst h1; subst h2
    show bindL kindOf ((p, w) :: P.zip vs) m p = _
    unfold bindL
    rw [bindL_out fun v hv => (List.nodup_cons.mp nd).1 (List.of_mem_zip hv).1, if_pos hk]
    simp
  | p :: P, w :: vs, i + 1, m, nd, h1, h2, hk => by
    show bindL kindOf ((p, w) :: P.zip vs) m x = _
    unfold bindL
    exact bindL_get (i := i) (List.nodup_cons.mp nd).2 (by simpa using h1) (by simpa using h2) hk
theorem bindC_get {kindOf : Str → Option NameKind} {x : Str} {v : Value} : ∀ {P : List Str} {vs : List Value} {i : Nat} {m : Str → Option Value}, P.Nodup → P[i]? = some x → vs[i]? = some v → kindOf x ≠ some .local →
    bindC kindOf (P.zip vs) m x = some v
  | [], _, _, _, _, h, _, _ => by simp at h
  | _ :: _, [], _, _, _, _, h, _ => by simp at h
  | p :: P, w :: vs, 0, m, nd, h1, h2, hk => by
    simp at h1 h2; subst h1; subst h2
    show bindC kindOf ((p, w) :: P.zip vs) m p = _
    unfold bindC
    rw [bindC_out fun v hv => (List.nodup_cons.mp nd).1 (List.of_mem_zip hv).1, if_neg hk]
    simp
  | p :: P, w :: vs, i + 1, m, nd, h1, h2, hk => by
    show bindC kindOf ((p, w) :: P.zip vs) m x = _
    unfold bindC
    exact bindC_get (i := i) (List.nodup_cons.mp nd).2 (by simpa using h1) (by simpa using h2) hk

def start (N : List Str) (vs : List V) : St := vs.map some ++ List.replicate (N.length - vs.length) none

def cxOf (CX : CXT) (P : Program) (w : World) (K : PySem.W.Frag) (mg : Str → Option Value) (base : Heap) (N : List Str) (qual : Str) (scope : Scope) (f : Addr) (cd : Value) (A : Around) (outer : List Env) (s : Shared) (H : Hp) (E : XK) : Cx where
  prog := P
  w := w
  K := K
  mg := mg
  base := base
  A := A.deeper (envOfC qual scope s.heap.objs.size f cd)
  N := N
  s₀ := s
  H₀ := H
  env := envOfC qual scope s.heap.objs.size f cd
  outer := outer
  stack := envOfC qual scope s.heap.objs.size f cd :: outer
  ex := []
  calm := true
  fn := fun _ => true
  pn := []
  xe := fun e s' => wpAny (model P w) (A.deeper (envOfC qual scope s.heap.objs.size f cd)) (leaving (envOfC qual scope s.heap.objs.size f cd) e) (fun _ s'' => CX outer H s E e s'') (fun e' s'' => CX outer H s E e' s'') s'

theorem cell_has {sc : Scope} {n : Nat} {x : Str} (h : sc.names.lookup x = some .cell) : ∃ c, (cellsFrom n sc.names []).lookup x = some c := by
  have q := PySem.W.cellsFrom_some sc.names n [] (.inl h)
  exact Option.isSome_iff_exists.mp q

theorem inv_start {CX : CXT} {P : Program} {w : World} {K : PySem.W.Frag} {mg : Str → Option Value} {base : Heap} {N ps : List Str} {qual : Str} {scope : Scope} {f : Addr} {cd : Value} {A : Around} {outer : List Env} {s s1 : Shared} {H : Hp} {E : XK} {us : List Value} {vs : List V}
    (S : FnScope N ps scope) (hd : A.handled = none) (e0 : Env0 P w K mg base A outer s H) (hl : vs.length = ps.length) (r : Vals vs us)
    (x : InCallC s s.heap.objs.size (bindL (envOfC qual scope s.heap.objs.size f cd).kindOf (ps.zip us) fun _ => none) (cellsFrom (s.heap.objs.size + 1) scope.names []) (bindC (envOfC qual scope s.heap.objs.size f cd).kindOf (ps.zip us) fun _ => none) s1) :
    Inv (cxOf CX P w K mg base N qual scope f cd A outer s H E) [] (start N vs) H s1 := by
  have hpl : ps.length ≤ N.length := by have := congrArg List.length S.pre; rw [List.length_take] at this; omega
  obtain ⟨h1, tk, rfl, hk⟩ := x.done
  have noA : ∀ b : Addr, b ∉ (cxOf CX P w K mg base N qual scope f cd A outer s H E).ex := fun b z => absurd (show b ∈ ([] : List Addr) from z) (by simp)
  refine ⟨⟨e0.mod, S.kind, rfl, rfl, Nat.le_refl _, fun y z c h1 h2 => ?_, fun y hy => ?_, fun y c _ h => ?_, fun _ => hd, Around.frames_deeper e0.frames, .inr ⟨rfl, rfl⟩, fun b z => absurd z (noA b), e0.bs, e0.bsz, fun b _ _ => noA b, fun b z => absurd z (noA b), e0.funs, e0.frf⟩,
    rfl, e0.bare, Un.kept hk, ⟨_, x.toInCall.ns, fun i y v h1 h2 h3 => ?_⟩, fun y c h => ⟨_, x.cell y c h⟩, e0.hok.fresh (Nat.le_refl _), fun y c h => ?_, fun p hp => absurd (show p ∈ ([] : List (Addr × Obj)) from hp) (by simp), e0.hok.kept hk, ?_⟩
  · exact name_of_addr x.apart (PySem.mem_of_lookup h1) (PySem.mem_of_lookup h2)
  · have hy : scope.names.lookup y = some .cell ∨ scope.names.lookup y = some .free := hy
    rcases hy with hy | hy
    · exact cell_has hy
    · exact absurd rfl (S.nofree _ (PySem.mem_of_lookup hy))
  · exact Nat.le_of_lt (x.above y c (PySem.mem_of_lookup h))
  · have hi : i < vs.length := by
      unfold start at h2
      by_cases hi : i < vs.length
      · exact hi
      · rw [List.getElem?_append_right (by simpa using hi)] at h2
        rw [List.getElem?_replicate] at h2
        split at h2 <;> cases h2
    have ha : vs[i]? = some v := by
      unfold start at h2
      rw [List.getElem?_append_left (by simpa using hi), List.getElem?_map] at h2
      cases e : vs[i]? with
      | none => rw [e] at h2; cases h2
      | some a => rw [e] at h2; cases h2; rfl
    obtain ⟨u, hu, rv⟩ := r.get ha
    have hp : ps[i]? = some y := by
      rw [← S.pre, List.getElem?_take_of_lt (by omega)]; exact h1
    have ndP : ps.Nodup := by rw [← S.pre]; exact S.nd.sublist (List.take_sublist _ _)
    refine ⟨u, rv, ?_⟩
    rcases S.par y (List.mem_of_getElem? hp) with k | k
    · exact .inl ⟨k, bindL_get ndP hp hu k⟩
    · obtain ⟨c, e⟩ := cell_has (n := s.heap.objs.size + 1) k
      refine .inr ⟨.inl k, c, e, ?_⟩
      have q := x.cell y c e
      rw [bindC_get ndP hp hu (by show scope.names.lookup y ≠ _; rw [k]; decide)] at q
      exact q
  · exact e0.hok.fresh (Nat.le_of_lt (x.above y c (PySem.mem_of_lookup h)))
  · unfold start
    show _ = N.length
    rw [List.length_append, List.length_map, List.length_replicate]
    omega

theorem fn_of {CX : CXT} {P : Program} {w : World} {K : PySem.W.Frag} {mg : Str → Option Value} {base : Heap} {k : Nat} {f : Addr} {name qual : Str} {params : Arguments} {body : List Stmt} {scope : Scope} {dV kV doc pm cdv ct oc : Value} {an od : Option Addr}
    {osl : Array (Option Value)} {N ps : List Str} {sp : Sp} (lk : K.lookup f = some ⟨oc, od, .func (PySem.W.fnOf name qual params body scope dV kV doc pm an cdv ct), osl⟩) (hcd : PySem.W.codeIn K cdv qual = true) (S : FnScope N ps scope)
    (len : ∀ vs H Q E, sp vs H Q E → vs.length = ps.length)
    (hbody : ∀ (A : Around) (outer : List Env) (s : Shared) (H : Hp) (vs : List V) (Q : VK) (E : XK), Room k (A.deeper (envOfC qual scope s.heap.objs.size f cdv)) → sp vs H Q E →
      ∃ t, PSs (cxOf CX P w K mg base N qual scope f cdv A outer s H E) body t ∧ t { nx := fun _ H' => Q .non H', rt := Q } (start N vs) H) :
    FnOk P w K mg base CX (k + 1) f (PySem.W.fnOf name qual params body scope dV kV doc pm an cdv ct) ps sp := by
  refine ⟨len, fun A outer s H args us vs Q E hr e0 hb r hsp => ?_⟩
  have hl := len _ _ _ _ hsp
  have KX : K.In s.heap := e0.mod.kin.keeps fun b o e => (e0.bs b o e).1
  have lim : s.heap.NoLimit := e0.mod.nolimit.keeps fun b o e => (e0.bs b o e).1
  have hkind : ∀ y ∈ ps.zip us, scope.names.lookup y.1 = some .local ∨ (scope.names.lookup y.1 = some .cell ∧ ((cellsFrom (s.heap.objs.size + 1) scope.names []).lookup y.1).isSome = true) := fun ⟨n, v⟩ hy => by
    rcases S.par n (List.of_mem_zip hy).1 with q | q
    · exact .inl q
    · exact .inr ⟨q, PySem.W.cellsFrom_some _ _ _ (.inl q)⟩
  refine codeAny_call_function hr.depth (KX _ _ lk) rfl S.co S.gen rfl (PySem.W.codeRec_of KX hcd) (hb _ _ _ _ ?_)
  refine wpAny_newFunctionEnv_cells S.kind hkind fun env he s1 x => ?_
  subst he
  refine ⟨lim.keeps x.toInCall.keep, codeAny_func ?_⟩
  obtain ⟨t, ht, hq⟩ := hbody A outer s H vs Q E (hr.deeper _) hsp
  have I : Inv (cxOf CX P w K mg base N qual scope f cdv A outer s H E) [] (start N vs) H s1 := inv_start S hr.hd e0 hl r x
  refine wpAny_mono (ht [] s1 (start N vs) H _ I hq) (fun fl s' hs => ?_) fun e s' hs => hs
  have fin : ∀ {σ' : St} {H' : Hp} {v : V} {u : Value}, Inv (cxOf CX P w K mg base N qual scope f cdv A outer s H E) [] σ' H' s' → RelV v u → Q v H' → CE outer P w H s Q u s' :=
    fun {σ' H' v u} J rv q => ⟨v, H', J.os, J.bare, J.base, J.hok, rv, q⟩
  cases fl with
  | ret u =>
    obtain ⟨v, σ', H', J, rv, q⟩ := hs
    exact fin J rv q
  | next =>
    obtain ⟨σ', H', J, q⟩ := hs
    exact fin (v := V.non) (u := Value.none) J rfl q
  | brk =>
    obtain ⟨_, _, _, q⟩ := hs
    exact False.elim q
  | cont =>
    obtain ⟨_, _, _, q⟩ := hs
    exact False.elim q
end L2

namespace L2
open PySem PySem.Spec PyProof.Rows
section
variable {X : Cx} {x : Str} {p pos : Pos} {e : Expr} {es : List Expr} {t : TA} {id T : String} {r : List V → Hp → VK → Prop}

def tCB (r : List V → Hp → VK → Prop) (t : TA) : TE := fun σ H Q => t σ H fun vs H1 => r vs H1 Q
theorem pe_callB (hc : CallR X (.builtin id) r) (hg : Gl X x) (hm : X.mg x = none) (hv : bootBuiltins x = some (.builtin id)) (ha : PA X (e :: es) t) (hn : x ≠ "__name__" := by decide) (hdb : (x == ("__debug__" : Str)) = false := by decide)
    (he : starEach (e :: es) X.env = (false, eval e X.env) :: starEach es X.env := by rfl) (hpl : (backTo pos (starEach es X.env)).any (·.1) = false := by rfl) : PE X (.Call (.Name x p) (e :: es) [] pos) (tCB r t) := by
  intro pins s σ H Q I h
  refine wpAny_Call_Name_kw (ld_blt I hg hm hv ?_ hn hdb)
  exact PyProof.Rows.callWith_builtin1 (thn (ha pos pins s σ H _ I h) fun us s1 ⟨vs, H1, I1, r1, q1⟩ => hc pins s1 σ H1 vs us Q I1 r1 q1) he hpl
theorem pe_callTy (hc : CallR X (.type T) r) (hg : Gl X x) (hm : X.mg x = none) (hv : bootBuiltins x = some (.type T)) (ha : PA X (e :: es) t) (hn : x ≠ "__name__" := by decide) (hdb : (x == ("__debug__" : Str)) = false := by decide)
    (he : starEach (e :: es) X.env = (false, eval e X.env) :: starEach es X.env := by rfl) (hpl : (backTo pos (starEach es X.env)).any (·.1) = false := by rfl) : PE X (.Call (.Name x p) (e :: es) [] pos) (tCB r t) := by
  intro pins s σ H Q I h
  refine wpAny_Call_Name_kw (ld_blt I hg hm hv ?_ hn hdb)
  exact PyProof.Rows.callWith_type1 (thn (ha pos pins s σ H _ I h) fun us s1 ⟨vs, H1, I1, r1, q1⟩ => hc pins s1 σ H1 vs us Q I1 r1 q1) he hpl
end
end L2

namespace HT
open PySem PyProof.Rows

section
open PySem.SeqAt
open PySem.AutoSeq1 (wpAny_loadPart')
open PySem.MeetsSeq PySem.MeetsSeq2 PySem.MeetsSeq3

end

section
variable {prog : Program} {w : World} {A : Around} {E : Value → Shared → Prop} {s : Shared}

/-- a slice's bound as a place among n (d where it is left out) -/
def sIx (n d : Nat) : Option Int → Nat
  | none => d
  | some v => if v < 0 then (v + (n : Int)).toNat else min v.toNat n
end
end HT

namespace L2
open PySem PySem.Spec PyProof.Rows

abbrev TO := St → Hp → (Option Int → Hp → Prop) → Prop
def PO (X : Cx) (e : Option Expr) (t : TO) : Prop :=
  ∀ (pins : List (Addr × Obj)) (s : Shared) (σ : St) (H : Hp) (Q : Option Int → Hp → Prop), Inv X pins σ H s → t σ H Q →
    wpAny (model X.prog X.w) X.A (evalPart e X.env) (fun u s' => ∃ o H', Inv X pins σ H' s' ∧ IsPart u o ∧ Q o H') X.xe s
def tPart (t : TE) : TO := fun σ H Q => t σ H fun x H1 => ∃ i, x = .int i ∧ Q (some i) H1

section
variable {X : Cx} {e : Expr} {te : TE} {lo hi : Option Expr} {tl th : TO} {pos p2 : Pos}

theorem po_some (h : PE X e te) : PO X (some e) (tPart te) := by
  intro pins s σ H Q I hw
  rw [evalPart_some]
  refine thn (h pins s σ H _ I hw) fun u s1 ⟨x, H1, I1, r1, q1⟩ => ?_
  obtain ⟨i, rfl, q⟩ := q1
  obtain ⟨t, rfl⟩ := r1
  exact ⟨some i, H1, I1, .int i t, q⟩

def SlR (X : Cx) (r : V → Option Int → Option Int → Hp → VK → Prop) : Prop :=
  ∀ (pins : List (Addr × Obj)) (s : Shared) (σ : St) (H : Hp) (x : V) (v vl vu : Value) (lo hi : Option Int) (sl : Addr) (Q : VK), Inv X pins σ H s → RelV x v → s.heap.IsSliceOf sl vl vu .none → IsPart vl lo → IsPart vu hi → r x lo hi H Q →
    ∃ T id, typeLookup (.type T) "__getitem__" = pure (some (.builtin id)) ∧ s.TypeIs v T ∧ wpAny (model X.prog X.w) X.A (getItem v (.ref sl)) (EP X pins σ Q) X.xe s
def tSl (r : V → Option Int → Option Int → Hp → VK → Prop) (te : TE) (tl th : TO) : TE := fun σ H Q => te σ H fun x H1 => tl σ H1 fun l H2 => th σ H2 fun u H3 => r x l u H3 Q
theorem pe_slice {r : V → Option Int → Option Int → Hp → VK → Prop} (hr : SlR X r) (he : PE X e te) (hl : PO X lo tl) (hu : PO X hi th) : PE X (.Subscript e (.Slice lo hi none p2) pos) (tSl r te tl th) := by
  intro pins s σ H Q I h
  refine Subscript_ (thn (he pins s σ H _ I h) fun v s1 ⟨x, H1, I1, r1, q1⟩ => ?_)
  refine wpAny_Slice (thn (hl pins s1 σ H1 _ I1 q1) fun vl s2 ⟨l, H2, I2, pl, q2⟩ => thn (hu pins s2 σ H2 _ I2 q2) fun vu s3 ⟨u, H3, I3, pu, q3⟩ => ?_)
  rw [evalPart_none]
  refine wpAny_pure ?_
  have I4 : Inv X pins σ H3 { s3 with heap := s3.heap.push { cls := .type "slice", data := .fields #[vl, vu, .none] } } := I3.kept (t' := s3.toks) fun b ob q => Heap.get?_push_of_some _ q
  obtain ⟨T, id, hT, ht, hg⟩ := hr pins { s3 with heap := s3.heap.push { cls := .type "slice", data := .fields #[vl, vu, .none] } } σ H3 x v vl vu l u s3.heap.objs.size Q I4 r1 (Heap.IsSliceOf.new ..) pl pu q3
  show wpAny (model X.prog X.w) X.A (subscriptTail e (.Slice lo hi none p2) v (.ref s3.heap.objs.size)) (EP X pins σ Q) X.xe { s3 with heap := s3.heap.push { cls := .type "slice", data := .fields #[vl, vu, .none] } }
  exact tail_any (ops := [.ref s3.heap.objs.size, v]) ht hT hg (by with_unfolding_all rfl)

def cutV (xs : List V) (lo hi : Option Int) : List V := (xs.drop (HT.sIx xs.length 0 lo)).take (HT.sIx xs.length xs.length hi - HT.sIx xs.length 0 lo)
theorem cutV_length (xs : List V) (lo hi : Option Int) : (cutV xs lo hi).length ≤ xs.length := by
  unfold cutV
  rw [List.length_take, List.length_drop]
  omega
end
end L2

namespace L2
open PySem PySem.Spec PyProof.Rows

/-- the place that an index of any sign means -/
def ixN (n : Nat) (i : Int) : Option Nat := if 0 ≤ i then (if i < n then some i.toNat else none) else if -(n : Int) ≤ i then some (i + n).toNat else none
def atI {α : Type} (xs : List α) (i : Int) : Option α := (ixN xs.length i).bind fun j => xs[j]?
theorem ixN_seq {n : Nat} {i : Int} {j : Nat} (h : ixN n i = some j) : seqIndex? i n = some j ∧ j < n ∧ -(n : Int) ≤ i ∧ i < n := by
  unfold ixN at h
  by_cases h0 : 0 ≤ i
  · rw [if_pos h0] at h
    by_cases h1 : i < n
    · rw [if_pos h1] at h
      have e : i.toNat = j := Option.some.inj h
      exact ⟨by rw [seqIndex_of h0 h1, e], by omega, by omega, h1⟩
    · rw [if_neg h1] at h; cases h
  · rw [if_neg h0] at h
    by_cases h1 : -(n : Int) ≤ i
    · rw [if_pos h1] at h
      have e : (i + n).toNat = j := Option.some.inj h
      exact ⟨by rw [seqIndex_neg (by omega) h1, e], by omega, h1, by omega⟩
    · rw [if_neg h1] at h; cases h
theorem atI_get {α : Type} {xs : List α} {i : Int} {v : α} (h : atI xs i = some v) : ∃ j, seqIndex? i xs.length = some j ∧ xs[j]? = some v ∧ j < xs.length ∧ -(xs.length : Int) ≤ i ∧ i < xs.length := by
  unfold atI at h
  cases e : ixN xs.length i with
  | none => rw [e] at h; cases h
  | some j =>
    rw [e] at h
    obtain ⟨h1, h2, h3, h4⟩ := ixN_seq e
    exact ⟨j, h1, h, h2, h3, h4⟩
/-- what stands as an index of a plain subscript -/
def PlainIx (b : Expr) : Prop := ∀ o i, subscripted b false o i = operate [o, i] (getItem o i)
def IxR (X : Cx) (r : R2) : Prop :=
  ∀ (value slice : Expr) (pins : List (Addr × Obj)) (s : Shared) (σ : St) (H : Hp) (x y : V) (v u : Value) (Q : VK), Inv X pins σ H s → RelV x v → RelV y u → r x y H Q →
    subscripted slice false v u = operate [v, u] (getItem v u) → wpAny (model X.prog X.w) X.A (subscriptTail value slice v u) (EP X pins σ Q) X.xe s
def MtR (X : Cx) (id : String) (r : V → List V → Hp → VK → Prop) : Prop :=
  ∀ (pins : List (Addr × Obj)) (s : Shared) (σ : St) (H : Hp) (x : V) (xs : List V) (v : Value) (us : List Value) (Q : VK), Inv X pins σ H s → RelV x v → Vals xs us → r x xs H Q →
    wpAny (model X.prog X.w) X.A (call (.builtin id) (v :: us)) (EP X pins σ Q) X.xe s
section
variable {X : Cx} {a b : Expr} {ta tb : TE} {pos : Pos}
theorem IxR.or {r r' : R2} (h : IxR X r) (h' : IxR X r') : IxR X (fun x y H Q => r x y H Q ∨ r' x y H Q) := by
  intro value slice pins s σ H x y v u Q I rx ry q hs
  rcases q with q | q
  · exact h value slice pins s σ H x y v u Q I rx ry q hs
  · exact h' value slice pins s σ H x y v u Q I rx ry q hs
theorem pe_ix {r : R2} (hr : IxR X r) (ha : PE X a ta) (hb : PE X b tb) (hs : PlainIx b) : PE X (.Subscript a b pos) (tOp r ta tb) := by
  intro pins s σ H Q I h
  exact Subscript_ (binT ha hb I h fun v u s2 x y H2 I2 rx ry q => hr a b pins s2 σ H2 x y v u Q I2 rx ry q (hs _ _))

def rIxL (K : PySem.W.Frag) : R2 := fun x y H Q => ∃ p xs i v, x = .ref p ∧ y = .int i ∧ SqL K H p xs ∧ atI xs i = some v ∧ Q v H
def rIxT (K : PySem.W.Frag) : R2 := fun x y H Q => ∃ p xs i v, x = .ref p ∧ y = .int i ∧ SqT K H p xs ∧ atI xs i = some v ∧ Q v H
theorem ix_list : IxR X (rIxL X.K) := by
  intro value slice pins s σ H x y v u Q I rx ry h hs
  obtain ⟨p, xs, i, z, rfl, rfl, hq, he, q⟩ := h
  cases rx
  obtain ⟨t, rfl⟩ := ry
  obtain ⟨its, r, pl, hz⟩ := I.list hq
  obtain ⟨j, h1, h2, h3, h4, h5⟩ := atI_get he
  obtain ⟨w, ew, rw'⟩ := r.get h2
  have hl := r.length
  have hn := line63
  have fin : EP X pins σ Q w s := ⟨z, H, I, rw', q⟩
  by_cases h0 : 0 ≤ i
  · have hj : i.toNat = j := by
      rw [seqIndex_of h0 h5] at h1
      exact Option.some.inj h1
    exact item_listR pl.isList h0 (by omega) (by rw [hj]; simpa using ew) fin hs
  · have hj : (i + (its.toArray.size : Int)).toNat = j := by
      rw [seqIndex_neg (by omega) h4] at h1
      rw [List.size_toArray, ← hl]
      exact Option.some.inj h1
    exact subscriptTail_builtinR (x := w) pl.isList.typeIs slot_list_getitem.lookup
      (wpAny_getItem_list_neg (Q := fun r s' => r = w ∧ EP X pins σ Q r s') pl.isList (by omega) (by rw [List.size_toArray] <;> omega) (by omega) (by rw [hj]; simpa using ew) ⟨rfl, fin⟩) hs
theorem ix_tup : IxR X (rIxT X.K) := by
  intro value slice pins s σ H x y v u Q I rx ry h hs
  obtain ⟨p, xs, i, z, rfl, rfl, hq, he, q⟩ := h
  cases rx
  obtain ⟨t, rfl⟩ := ry
  obtain ⟨its, r, pl, hz⟩ := I.tuple hq
  obtain ⟨j, h1, h2, h3, h4, h5⟩ := atI_get he
  obtain ⟨w, ew, rw'⟩ := r.get h2
  have hl := r.length
  have hn := line63
  have fin : EP X pins σ Q w s := ⟨z, H, I, rw', q⟩
  exact subscriptTail_builtinR (x := w) pl.typeIs slot_tuple_getitem.lookup
    (getItem_tuple (j := j) (Q := fun r s' => r = w ∧ EP X pins σ Q r s') pl (by omega) (by omega) (by rw [List.size_toArray, ← hl]; exact h1) (by simpa using ew) ⟨rfl, fin⟩) hs
/-- the list's object behind a store -/
theorem mapSeq_set (its : List Value) (n j : Nat) (u : Value) : Obj.mapSeq (·.setIfInBounds j u) { cls := .type "list", data := .seq its.toArray n } = { cls := .type "list", data := .seq (its.set j u).toArray n } := by
  simp [Obj.mapSeq]
theorem Inv.lst {pins : List (Addr × Obj)} {σ : St} {H : Hp} {s : Shared} {p : Addr} {xs : List V} (I : Inv X pins σ H s) (h : H p = some (.lst xs)) :
    ∃ (its : List Value) (n : Nat), Vals xs its ∧ s.heap.get? p = some { cls := .type "list", data := .seq its.toArray n } ∧ xs.length ≤ sizeLine := by
  obtain ⟨z, its, n, r, e⟩ := I.hok p _ h
  exact ⟨its, n, r, e, z⟩
theorem Inv.lstUpd {pins : List (Addr × Obj)} {σ : St} {H : Hp} {s : Shared} {p : Addr} {xs ys : List V} {its its' : List Value} {n n' : Nat} {f : Obj → Obj} (I : Inv X pins σ H s) (h : H p = some (.lst xs))
    (ho : s.heap.get? p = some { cls := .type "list", data := .seq its.toArray n }) (hf : f { cls := .type "list", data := .seq its.toArray n } = { cls := .type "list", data := .seq its'.toArray n' }) (r : Vals ys its') (hz : ys.length ≤ sizeLine) (t : Nat) :
    Inv X pins σ (upd H p (.lst ys)) { s with heap := s.heap.update p f, toks := t } := by
  have e : (s.heap.update p f).get? p = some { cls := .type "list", data := .seq its'.toArray n' } := by
    rw [Heap.get?_update_self f ho (by rw [hf] <;> rfl), hf]
  refine I.write (x := p) (e := p) (by rw [h]; trivial) (.inl rfl) (fun b u hb q => (Heap.get?_update_other _ _ (Ne.symm hb)).trans q) ⟨_, e⟩ ?_
  exact ⟨hz, its', n', r, e⟩
def rSetL : V → V → V → Hp → (Hp → Prop) → Prop := fun o i v H Q => ∃ p xs k j, o = .ref p ∧ i = .int k ∧ H p = some (.lst xs) ∧ ixN xs.length k = some j ∧ Q (upd H p (.lst (xs.set j v)))
theorem set_list : PSet X rSetL := by
  intro pins s σ H o i v ov iv u Q I ro ri rv h
  obtain ⟨p, xs, k, j, rfl, rfl, hp, hj, q⟩ := h
  cases ro
  obtain ⟨t, rfl⟩ := ri
  obtain ⟨its, n, r, ho, hz⟩ := I.lst hp
  obtain ⟨h1, h2, h3, h4⟩ := ixN_seq hj
  have hl := r.length
  have hn := line63
  have I' : Inv X pins σ (upd H p (.lst (xs.set j v))) { s with heap := s.heap.update p (Obj.mapSeq (·.setIfInBounds j u)) } :=
    I.lstUpd hp ho (mapSeq_set its n j u) (r.set rv j) (by rw [List.length_set]; exact hz) s.toks
  by_cases h0 : 0 ≤ k
  · have hk : k.toNat = j := by
      rw [seqIndex_of h0 h4] at h1
      exact Option.some.inj h1
    exact PySem.W.ki_setAt ho h0 (by omega) (by rw [List.size_toArray, ← hl]; exact h4) (by rw [hk]; exact ⟨_, I', q⟩)
  · have hk : (k + (its.toArray.size : Int)).toNat = j := by
      rw [seqIndex_neg (by omega) h3] at h1
      rw [List.size_toArray, ← hl]
      exact Option.some.inj h1
    exact PySem.W.ki_setBack ho (by omega) (by rw [List.size_toArray, ← hl]; exact h3) (by omega) (by rw [hk]; exact ⟨_, I', q⟩)

theorem clip_ix (i : Int) (n : Nat) : max 0 (min (if i < 0 then i + (n : Int) else i) (n : Int)) = ((if i < 0 then (i + (n : Int)).toNat else min i.toNat n : Nat) : Int) := by
  by_cases h : i < 0
  · rw [if_pos h, if_pos h, Int.min_eq_left (by omega), Int.max_comm]
    exact (Int.toNat_eq_max _).symm
  · rw [if_neg h, if_neg h]
    obtain ⟨k, rfl⟩ := Int.eq_ofNat_of_zero_le (Int.not_lt.mp h)
    rw [Int.toNat_natCast, Int.max_eq_right (Int.le_min.mpr ⟨Int.natCast_nonneg _, Int.natCast_nonneg _⟩)]
    by_cases q : k ≤ n
    · rw [Nat.min_eq_left q, Int.min_eq_left (Int.ofNat_le.mpr q)]
    · rw [Nat.min_eq_right (Nat.le_of_not_le q), Int.min_eq_right (Int.ofNat_le.mpr (Nat.le_of_not_le q))]
theorem slice_bounds (lo hi : Option Int) (n : Nat) : (sliceBounds lo hi none n).1 = ((HT.sIx n 0 lo : Nat) : Int) ∧ (sliceBounds lo hi none n).2.1 = ((HT.sIx n n hi : Nat) : Int) ∧ (sliceBounds lo hi none n).2.2 = 1 := by
  refine ⟨?_, ?_, rfl⟩
  · cases lo with
    | none => rfl
    | some i => exact clip_ix i n
  · cases hi with
    | none => rfl
    | some i => exact clip_ix i n
theorem slicePick_cut (its : List Value) (lo hi : Option Int) : slicePick its.toArray lo hi none = ((its.drop (HT.sIx its.length 0 lo)).take (HT.sIx its.length its.length hi - HT.sIx its.length 0 lo)).toArray := by
  obtain ⟨h1, h2, h3⟩ := slice_bounds lo hi its.toArray.size
  unfold slicePick
  rw [h1, h2, h3]
  simp only [sliceRange_one, pick_run, List.size_toArray] <;> rfl
def rSlL (K : PySem.W.Frag) : V → Option Int → Option Int → Hp → VK → Prop := fun x lo hi H Q => ∃ a xs, x = .ref a ∧ SqL K H a xs ∧ ∀ p, H p = none → Q (.ref p) (upd H p (.lst (cutV xs lo hi)))
theorem sl_list : SlR X (rSlL X.K) := by
  intro pins s σ H x v vl vu lo hi sl Q I rx hs pl pu h
  obtain ⟨a, xs, rfl, hx, q⟩ := h
  cases rx
  obtain ⟨its, r, ht, hz⟩ := I.list hx
  have hlen := r.length
  refine ⟨"list", _, slot_list_getitem.lookup, ht.isList.typeIs, ?_⟩
  refine wpAny_getItem_list_slice ht.isList hs pl pu .none (by simp) ?_ (by rw [List.size_toArray] <;> omega)
  rw [slicePick_cut, ← hlen]
  refine ⟨.ref s.heap.objs.size, _, I.laid (t' := s.toks) (o := .lst (cutV xs lo hi)) (fun b ob q => Heap.get?_push_of_some _ q) (Nat.le_refl _) ?_, rfl, q _ (I.hok.fresh (Nat.le_refl _))⟩
  exact ⟨Nat.le_trans (cutV_length xs lo hi) hz, _, 0, (r.drop (HT.sIx xs.length 0 lo)).take (HT.sIx xs.length xs.length hi - HT.sIx xs.length 0 lo), Heap.get?_push_size _ rfl⟩

def flatV : V → Bool
  | .non => true
  | .bl _ => true
  | .int _ => true
  | .str _ => true
  | _ => false
def eqV : V → V → Bool
  | .non, .non => true
  | .bl a, .bl b => a == b
  | .bl a, .int b => (if a then 1 else 0) == b
  | .int a, .bl b => a == (if b then 1 else 0)
  | .int a, .int b => a == b
  | .str a, .str b => a == b
  | _, _ => false
theorem eqAt_V {A : Around} {s : Shared} {y x : V} {u v : Value} (ry : RelV y u) (rx : RelV x v) (fy : flatV y = true) (fx : flatV x = true) : SeqAt.EqAt A s u v (eqV y x) := by
  cases y with
  | non =>
    cases ry
    cases x with
    | non => cases rx; exact SeqAt.EqAt.same _
    | bl b => cases rx; exact SeqAt.EqAt.none_bool b
    | int b => obtain ⟨t, rfl⟩ := rx; exact SeqAt.EqAt.none_int b t
    | str b => obtain ⟨t, rfl⟩ := rx; exact SeqAt.EqAt.none_str b t
    | _ => exact absurd (show false = true from fx) Bool.false_ne_true
  | bl a =>
    cases ry
    cases x with
    | non => cases rx; exact SeqAt.EqAt.bool_none a
    | bl b => cases rx; exact SeqAt.EqAt.bool_bool a b
    | int b => obtain ⟨t, rfl⟩ := rx; exact SeqAt.EqAt.bool_int a b t
    | str b => obtain ⟨t, rfl⟩ := rx; exact SeqAt.EqAt.bool_str a b t
    | _ => exact absurd (show false = true from fx) Bool.false_ne_true
  | int a =>
    obtain ⟨t', rfl⟩ := ry
    cases x with
    | non => cases rx; exact SeqAt.EqAt.int_none a t'
    | bl b => cases rx; exact SeqAt.EqAt.int_bool a t' b
    | int b => obtain ⟨t, rfl⟩ := rx; exact SeqAt.EqAt.int_int a t' b t
    | str b => obtain ⟨t, rfl⟩ := rx; exact SeqAt.EqAt.int_str a t' b t
    | _ => exact absurd (show false = true from fx) Bool.false_ne_true
  | str a =>
    obtain ⟨t', rfl⟩ := ry
    cases x with
    | non => cases rx; exact SeqAt.EqAt.str_none a t'
    | bl b => cases rx; exact SeqAt.EqAt.str_bool a t' b
    | int b => obtain ⟨t, rfl⟩ := rx; exact SeqAt.EqAt.str_int a t' b t
    | str b => obtain ⟨t, rfl⟩ := rx; exact SeqAt.EqAt.str_str a t' b t
    | _ => exact absurd (show false = true from fx) Bool.false_ne_true
  | _ => exact absurd (show false = true from fy) Bool.false_ne_true
def eqU (x : V) (u : Value) : Bool := match u with
  | .none => eqV .non x
  | .bool b => eqV (.bl b) x
  | .int i _ => eqV (.int i) x
  | .str z _ => eqV (.str z) x
  | _ => false
theorem eqU_of {x y : V} {u : Value} (r : RelV y u) (f : flatV y = true) : eqU x u = eqV y x := by
  cases y with
  | non => cases r; rfl
  | bl b => cases r; rfl
  | int i => obtain ⟨t, rfl⟩ := r; rfl
  | str z => obtain ⟨t, rfl⟩ := r; rfl
  | _ => exact absurd (show false = true from f) Bool.false_ne_true
theorem any_eqU {x : V} : ∀ {xs : List V} {us : List Value}, Vals xs us → xs.all flatV = true → us.any (eqU x) = xs.any fun y => eqV y x
  | _, _, .nil, _ => rfl
  | y :: xs, u :: us, .cons r t, f => by
    rw [List.all_cons, Bool.and_eq_true] at f
    rw [List.any_cons, List.any_cons, eqU_of r f.1, any_eqU t f.2]
theorem mem_eqAt {A : Around} {s : Shared} {x : V} {v : Value} (rx : RelV x v) (fx : flatV x = true) : ∀ {xs : List V} {us : List Value}, Vals xs us → xs.all flatV = true → ∀ u ∈ us, SeqAt.EqAt A s u v (eqU x u)
  | _, _, .nil, _ => fun u hu => by cases hu
  | y :: xs, u :: us, .cons r t, f => fun u' hu => by
    rw [List.all_cons, Bool.and_eq_true] at f
    rcases List.mem_cons.mp hu with rfl | hu
    · rw [eqU_of r f.1]; exact eqAt_V r rx f.1 fx
    · exact mem_eqAt rx fx t f.2 u' hu
def inV (x : V) (xs : List V) : Bool := xs.any fun y => eqV y x
def rIn (K : PySem.W.Frag) (neg : Bool) : R2 := fun x y H Q => ∃ p xs, y = .ref p ∧ (SqL K H p xs ∨ SqT K H p xs) ∧ flatV x = true ∧ xs.all flatV = true ∧ Q (.bl (if neg then !inV x xs else inV x xs)) H
theorem op_in_seq : OpR X (compareOp .In) (rIn X.K false) := by
  intro pins s σ H x y v u Q I rx ry h
  obtain ⟨p, xs, rfl, hq, fx, fs, q⟩ := h
  cases ry
  rcases hq with hq | hq
  · obtain ⟨its, r, pl, hz⟩ := I.list hq
    refine SeqAt.in_listAt (eqU x) pl.isList (fun w hw => mem_eqAt rx fx r fs w (by simpa using hw)) ⟨.bl _, H, I, rfl, ?_⟩
    rw [show its.toArray.any (eqU x) = its.any (eqU x) by simp, any_eqU r fs]
    exact q
  · obtain ⟨its, r, pl, hz⟩ := I.tuple hq
    refine SeqAt.in_tupleAt (eqU x) pl (fun w hw => mem_eqAt rx fx r fs w (by simpa using hw)) ⟨.bl _, H, I, rfl, ?_⟩
    rw [show its.toArray.any (eqU x) = its.any (eqU x) by simp, any_eqU r fs]
    exact q
theorem call_len_seq : CallR X (.builtin "len") (fun xs H Q => ∃ p ys, xs = [.ref p] ∧ (SqL X.K H p ys ∨ SqT X.K H p ys) ∧ Q (.int ys.length) H) := by
  intro pins s σ H xs us Q I r h
  obtain ⟨p, ys, rfl, hq, q⟩ := h
  obtain ⟨u, rfl, rx⟩ := vals1 r
  cases rx
  have hn := line63
  rcases hq with hq | hq
  · obtain ⟨its, r', pl, hz⟩ := I.list hq
    have hlen := r'.length
    exact Calls.call_len_list pl.isList (by simp only [List.size_toArray] <;> omega) ⟨.int ys.length, H, I.tok _, ⟨s.toks + 1, by rw [List.size_toArray, hlen]⟩, q⟩
  · obtain ⟨its, r', pl, hz⟩ := I.tuple hq
    have hlen := r'.length
    exact len_tuple pl (by simp only [List.size_toArray] <;> omega) ⟨.int ys.length, H, I.tok _, ⟨s.toks + 1, by rw [List.size_toArray, hlen]⟩, q⟩
theorem call_len_str : CallR X (.builtin "len") (fun xs H Q => ∃ z, xs = [.str z] ∧ z.length ≤ sizeLine ∧ Q (.int z.length) H) := by
  intro pins s σ H xs us Q I r h
  obtain ⟨z, rfl, hz, q⟩ := h
  obtain ⟨u, rfl, t, rfl⟩ := vals1 r
  have hn := line63
  exact len_str (by omega) ⟨.int z.length, H, I.tok _, ⟨_, rfl⟩, q⟩
theorem CallR.or {f : Value} {r r' : List V → Hp → VK → Prop} (h : CallR X f r) (h' : CallR X f r') : CallR X f (fun xs H Q => r xs H Q ∨ r' xs H Q) := by
  intro pins s σ H xs us Q I rs q
  rcases q with q | q
  · exact h pins s σ H xs us Q I rs q
  · exact h' pins s σ H xs us Q I rs q
theorem call_list_of : CallR X (.type "list") (fun xs H Q => ∃ p ys, xs = [.ref p] ∧ (SqL X.K H p ys ∨ SqT X.K H p ys) ∧ ∀ l, H l = none → Q (.ref l) (upd H l (.lst ys))) := by
  intro pins s σ H xs us Q I r h
  obtain ⟨p, ys, rfl, hq, q⟩ := h
  obtain ⟨u, rfl, rx⟩ := vals1 r
  cases rx
  have fin : ∀ (its : List Value), Vals ys its → ys.length ≤ sizeLine → ∀ (h' : Heap) (c' : Nat), (∀ b o', s.heap.get? b = some o' → h'.get? b = some o') →
      h'.get? s.heap.objs.size = some { cls := .type "list", dict := none, data := .seq its.toArray c', slots := #[] } → EP X pins σ Q (.ref s.heap.objs.size) { s with heap := h' } := fun its r' hz h' c' kp e =>
    ⟨.ref s.heap.objs.size, _, I.laid (t' := s.toks) kp (Nat.le_refl _) (show ObjOk X.prog X.w _ h' _ (.lst ys) from ⟨hz, its, c', r', e⟩), rfl, q _ (I.hok.fresh (Nat.le_refl _))⟩
  rcases hq with hq | hq
  · obtain ⟨its, r', pl, hz⟩ := I.list hq
    have hlen := r'.length
    obtain ⟨o, ho, hc, n, hd⟩ := pl.isList
    exact call_list_seq p (.inl rfl) ho hc hd (fun h' c' kp e => fin its r' hz h' c' kp e) (by simp only [List.size_toArray] <;> omega)
  · obtain ⟨its, r', pl, hz⟩ := I.tuple hq
    have hlen := r'.length
    obtain ⟨o, ho, hc, n, hd⟩ := pl
    exact call_list_seq p (.inr rfl) ho hc hd (fun h' c' kp e => fin its r' hz h' c' kp e) (by simp only [List.size_toArray] <;> omega)
/-- the value is of that builtin type -/
def tyV (K : PySem.W.Frag) (T : String) (x : V) (H : Hp) : Prop := match x with
  | .str _ => T = "str"
  | .int _ => T = "int"
  | .ref p => (T = "list" ∧ ∃ xs, SqL K H p xs) ∨ (T = "tuple" ∧ ∃ o, K.lookup p = some o ∧ o.cls = .type "tuple" ∧ o.dict = none) ∨
      (T = "dict" ∧ ((∃ kvs, H p = some (.dK kvs)) ∨ ∃ kvs, H p = some (.dT kvs))) ∨ (T = "set" ∧ ∃ S n, H p = some (.set S n))
  | _ => False
theorem tyV_is {pins : List (Addr × Obj)} {σ : St} {H : Hp} {s : Shared} {T : String} {x : V} {v : Value} (I : Inv X pins σ H s) (r : RelV x v) (ty : tyV X.K T x H) :
    s.TypeIs v T ∧ ∀ a, v = .ref a → ∃ ob, s.heap.get? a = some ob ∧ ob.dict = none := by
  cases x with
  | str z =>
    obtain ⟨t, rfl⟩ := r
    cases (show T = "str" from ty)
    exact ⟨typeIs_str s z t, fun _ e => nomatch e⟩
  | int i =>
    obtain ⟨t, rfl⟩ := r
    cases (show T = "int" from ty)
    exact ⟨typeIs_int s i t, fun _ e => nomatch e⟩
  | ref p =>
    cases r
    rcases ty with ⟨rfl, xs, hq⟩ | ⟨rfl, o, hk, hc, hd⟩ | ⟨rfl, hk⟩ | ⟨rfl, S, n, hk⟩
    · obtain ⟨its, _, pl, _⟩ := I.list hq
      refine ⟨pl.isList.typeIs, fun a e => ?_⟩
      cases e
      obtain ⟨o, n, e, c, hd, _⟩ := pl
      exact ⟨o, e, hd⟩
    · refine ⟨⟨o, I.kIn p o hk, hc⟩, fun a e => ?_⟩
      cases e
      exact ⟨o, I.kIn _ o hk, hd⟩
    · have z : ∃ o, s.heap.get? p = some o ∧ o.ExactDict := by
        rcases hk with ⟨kvs, hk⟩ | ⟨kvs, hk⟩
        · obtain ⟨_, _, _, _, o, _, _, e, ex, _⟩ := I.hok p _ hk
          exact ⟨o, e, ex⟩
        · obtain ⟨_, _, _, _, o, _, _, e, ex, _⟩ := I.hok p _ hk
          exact ⟨o, e, ex⟩
      obtain ⟨o, e, ex⟩ := z
      refine ⟨⟨o, e, ex.1⟩, fun a e2 => ?_⟩
      cases e2
      exact ⟨o, e, ex.2.1⟩
    · obtain ⟨o, _, _, _, e, ex, _⟩ := I.hok p _ hk
      refine ⟨⟨o, e, ex.1⟩, fun a e2 => ?_⟩
      cases e2
      exact ⟨o, e, ex.2.1⟩
  | _ => exact False.elim ty
variable {o e : Expr} {es : List Expr} {to : TE} {t : TA} {name : Str} {apos cpos : Pos} {T id : String} {r : V → List V → Hp → VK → Prop}
/- xs.append(e), list.index on a module's tuple .. are MtR facts of 06m -/
end
end L2

namespace L2
open PySem PySem.Spec PyProof.Rows

def MtM (X : Cx) (id : String) (r : V → List V → Hp → VK → Prop) : Prop :=
  ∀ (pins : List (Addr × Obj)) (s : Shared) (σ : St) (H : Hp) (x : V) (xs : List V) (v : Value) (us : List Value) (Q : VK), Inv X pins σ H s → RelV x v → Vals xs us → r x xs H Q →
    wpAny (model X.prog X.w) X.A (call (.builtin id) (v :: us)) (EP X pins σ Q) X.xe s

theorem Vals.one : ∀ {x : V} {us : List Value}, Vals [x] us → ∃ u, us = [u] ∧ RelV x u
  | _, _, .cons r .nil => ⟨_, rfl, r⟩
theorem Vals.eraseIdx : ∀ {xs : List V} {us : List Value} (i : Nat), Vals xs us → Vals (xs.eraseIdx i) (us.eraseIdx i)
  | _, _, _, .nil => .nil
  | _, _, 0, .cons _ t => t
  | _, _, i + 1, .cons r t => .cons r (Vals.eraseIdx i t)
theorem Vals.rep {xs : List V} {us : List Value} (h : Vals xs us) : ∀ k : Nat, Vals (List.replicate k xs).flatten (List.replicate k us).flatten
  | 0 => .nil
  | k + 1 => by
    rw [List.replicate_succ, List.replicate_succ, List.flatten_cons, List.flatten_cons]
    exact Vals.append h (Vals.rep h k)
theorem len_erase {α : Type} : ∀ (l : List α) (i : Nat), (l.eraseIdx i).length ≤ l.length
  | [], _ => Nat.le_refl _
  | _ :: _, 0 => Nat.le_succ _
  | _ :: r, i + 1 => Nat.succ_le_succ (len_erase r i)
theorem foldl_rep (its : List Value) : ∀ (k : Nat) (acc : List Value),
    List.foldl (fun x1 x2 => x1 ++ x2) acc.toArray (List.replicate k its.toArray) = (acc ++ (List.replicate k its).flatten).toArray
  | 0, acc => by simp
  | k + 1, acc => by
    have e : acc.toArray ++ its.toArray = (acc ++ its).toArray := by simp
    have e2 : (acc ++ its) ++ (List.replicate k its).flatten = acc ++ (List.replicate (k + 1) its).flatten := by
      rw [List.replicate_succ, List.flatten_cons, List.append_assoc]
    rw [← e2, ← foldl_rep its k (acc ++ its), ← e, List.replicate_succ, List.foldl_cons]

section
variable {X : Cx} {pins : List (Addr × Obj)} {σ : St} {H : Hp} {s : Shared} {l b : Addr} {xs ys zs : List V}

theorem Inv.lset {its its' : List Value} {n : Nat} {f : Array Value → Array Value} {t' : Nat} (I : Inv X pins σ H s) (hH : H l = some (.lst xs))
    (e : s.heap.get? l = some { cls := .type "list", data := .seq its.toArray n }) (hf : f its.toArray = its'.toArray) (hv : Vals ys its') (hz : ys.length ≤ sizeLine) :
    Inv X pins σ (upd H l (.lst ys)) { s with heap := s.heap.update l (Obj.mapSeq f), toks := t' } := by
  have q := PySem.IsL.update e f
  rw [hf] at q
  refine I.write (x := l) (e := l) (by rw [hH]; exact trivial) (.inl rfl) (fun b' u hb hu => (Heap.get?_update_other s.heap (Obj.mapSeq f) (Ne.symm hb)).trans hu) ⟨_, q⟩ ?_
  exact ⟨hz, its', _, hv, q⟩
theorem Inv.lnew {its : List Value} {t' : Nat} (I : Inv X pins σ H s) (hv : Vals ys its) (hz : ys.length ≤ sizeLine) :
    Inv X pins σ (upd H s.heap.objs.size (.lst ys)) { s with heap := s.heap.push { cls := .type "list", data := .seq its.toArray }, toks := t' } :=
  I.laid (fun _ _ q => Heap.get?_push_of_some _ q) (Nat.le_refl _) ⟨hz, its, 0, hv, Heap.get?_push_size _ rfl⟩
theorem Inv.fresh (I : Inv X pins σ H s) : H s.heap.objs.size = none := I.hok.fresh (Nat.le_refl _)
theorem Inv.lstM (I : Inv X pins σ H s) (hH : H l = some (.lst xs)) : xs.length ≤ sizeLine ∧ ∃ (its : List Value) (n : Nat), Vals xs its ∧ xs.length = its.length ∧ s.heap.get? l = some { cls := .type "list", data := .seq its.toArray n } := by
  obtain ⟨z, its, n, r, e⟩ := I.hok l _ hH
  exact ⟨z, its, n, r, r.length, e⟩

theorem notLongL {n : Nat} (h : n ≤ sizeLine) : Builtin.List.listTooLong n = false := by
  unfold Builtin.List.listTooLong
  exact decide_eq_false (by omega)
end

section
variable {X : Cx}

def rAppend : V → List V → Hp → VK → Prop := fun x vs H Q => ∃ l xs y, x = .ref l ∧ vs = [y] ∧ H l = some (.lst xs) ∧ xs.length < sizeLine ∧ Q .non (upd H l (.lst (xs ++ [y])))
theorem mt_append : MtM X "list.append" rAppend := by
  intro pins s σ H x vs v us Q I rx rv h
  obtain ⟨l, xs, y, rfl, rfl, hH, hz, q⟩ := h
  cases rx
  obtain ⟨u, rfl, ru⟩ := rv.one
  obtain ⟨z, its, n, r, hl, e⟩ := I.lstM hH
  refine call_meets F.slot_list_append ⟨_, e, rfl⟩ F.entry_list_append (F.args_list_append_2 _ _) (PySem.list_append l its.toArray n u (by rw [List.size_toArray]; omega)) ⟨e, ?_⟩
  refine ⟨.non, _, I.lset (its' := its ++ [u]) hH e (by simp) (r.append (.cons ru .nil)) ?_, rfl, q⟩
  rw [List.length_append, List.length_singleton]
  omega

def rExtend : V → List V → Hp → VK → Prop := fun x vs H Q => ∃ l b xs zs, x = .ref l ∧ vs = [.ref b] ∧ H l = some (.lst xs) ∧ H b = some (.lst zs) ∧ xs.length + zs.length ≤ sizeLine ∧ Q .non (upd H l (.lst (xs ++ zs)))
theorem mt_extend : MtM X "list.extend" rExtend := by
  intro pins s σ H x vs v us Q I rx rv h
  obtain ⟨l, b, xs, zs, rfl, rfl, hH, hB, hz, q⟩ := h
  cases rx
  obtain ⟨u, rfl, ru⟩ := rv.one
  cases ru
  obtain ⟨z, its, n, r, hl, e⟩ := I.lstM hH
  obtain ⟨z2, its2, n2, r2, hl2, e2⟩ := I.lstM hB
  have hsz : its.toArray.size + its2.toArray.size ≤ sizeLine := by rw [List.size_toArray, List.size_toArray]; omega
  have hlong : ¬ (!its.toArray.isEmpty && Builtin.List.listTooLong (its.toArray.size + its2.toArray.size)) = true := by
    rw [notLongL hsz, Bool.and_false]
    exact Bool.false_ne_true
  refine call_meets F.slot_list_extend ⟨_, e, rfl⟩ F.entry_list_extend (F.args_list_extend_2 _ _)
    (AutoSeq1.list_extend_list_list_0 l its.toArray n b its2.toArray n2 hlong (by rw [List.size_toArray]; omega) (by omega)) ⟨e, e2, ?_⟩
  refine ⟨.non, _, I.lset (its' := its ++ its2) hH e (by simp) (r.append r2) ?_, rfl, q⟩
  rw [List.length_append]
  omega

def rPopAt : V → List V → Hp → VK → Prop := fun x vs H Q => ∃ l xs i k y, x = .ref l ∧ vs = [.int i] ∧ H l = some (.lst xs) ∧ -(2 ^ 63) ≤ i ∧ i < 2 ^ 63 ∧ seqIndex? i xs.length = some k ∧ xs[k]? = some y ∧ Q y (upd H l (.lst (xs.eraseIdx k)))
theorem mt_popAt : MtM X "list.pop" rPopAt := by
  intro pins s σ H x vs v us Q I rx rv h
  obtain ⟨l, xs, i, k, y, rfl, rfl, hH, h1, h2, hk, hy, q⟩ := h
  cases rx
  obtain ⟨u, rfl, ru⟩ := rv.one
  obtain ⟨t, rfl⟩ := ru
  obtain ⟨z, its, n, r, hl, e⟩ := I.lstM hH
  obtain ⟨w, hw, rw'⟩ := r.get hy
  refine call_meets F.slot_list_pop ⟨_, e, rfl⟩ F.entry_list_pop (F.args_list_pop_2 _ _)
    (MeetsSeq.list_pop_at l its.toArray n i t k w (fitsIndex_both h1 h2) (by rw [List.size_toArray, ← hl]; exact hk) (by rw [← Array.getElem?_toList]; exact hw) (by rw [List.size_toArray]; omega)) ⟨e, ?_⟩
  refine ⟨y, _, I.lset (its' := its.eraseIdx k) hH e ?_ (r.eraseIdx k) ?_, rw', q⟩
  · show its.toArray.eraseIdxIfInBounds k = (its.eraseIdx k).toArray
    rw [List.eraseIdxIfInBounds_toArray]
  · have := len_erase xs k
    omega

def rCat : R2 := fun x y H Q => ∃ l b xs zs, x = .ref l ∧ y = .ref b ∧ H l = some (.lst xs) ∧ H b = some (.lst zs) ∧ xs.length + zs.length ≤ sizeLine ∧ ∀ p, H p = none → Q (.ref p) (upd H p (.lst (xs ++ zs)))
theorem op_cat : OpR X (binaryOp .Add) rCat := by
  intro pins s σ H x y v u Q I rx ry h
  obtain ⟨l, b, xs, zs, rfl, rfl, hH, hB, hz, q⟩ := h
  cases rx
  cases ry
  obtain ⟨z, its, n, r, hl, e⟩ := I.lstM hH
  obtain ⟨z2, its2, n2, r2, hl2, e2⟩ := I.lstM hB
  refine PySem.P.add_list e e2 ?_ (by rw [List.size_toArray, List.size_toArray]; omega)
  have ea : its.toArray ++ its2.toArray = (its ++ its2).toArray := by simp
  rw [ea]
  exact ⟨.ref _, _, I.lnew (t' := s.toks) (r.append r2) (by rw [List.length_append]; omega), rfl, q _ I.fresh⟩
def rRep : R2 := fun x y H Q => ∃ l k xs, x = .ref l ∧ y = .int k ∧ H l = some (.lst xs) ∧ -(2 ^ 63) ≤ k ∧ k < 2 ^ 63 ∧ xs.length * k.toNat ≤ sizeLine ∧
  ∀ p, H p = none → Q (.ref p) (upd H p (.lst (List.replicate k.toNat xs).flatten))
theorem len_rep {α : Type} (xs : List α) (k : Nat) : (List.replicate k xs).flatten.length = k * xs.length := by
  induction k with
  | zero => simp
  | succ k ih => rw [List.replicate_succ, List.flatten_cons, List.length_append, ih, Nat.succ_mul, Nat.add_comm]
theorem op_rep : OpR X (binaryOp .Mult) rRep := by
  intro pins s σ H x y v u Q I rx ry h
  obtain ⟨l, k, xs, rfl, rfl, hH, h1, h2, hz, q⟩ := h
  cases rx
  obtain ⟨t, rfl⟩ := ry
  obtain ⟨z, its, n, r, hl, e⟩ := I.lstM hH
  have hlen : its.toArray.size * k.toNat ≤ sizeLine := by rw [List.size_toArray, ← hl]; exact hz
  have hcap : ¬ its.toArray.size * k.toNat > (2 ^ 63 - 1) / 8 := by
    have : (sizeLine : Nat) ≤ (2 ^ 63 - 1) / 8 := by decide
    omega
  have hfit : ¬ (!Builtin.List.listFitsIndex k) = true := by
    rw [fitsIndex_both h1 h2]
    exact Bool.false_ne_true
  have hlong : ¬ Builtin.List.listTooLong (its.toArray.size * k.toNat) = true := by
    rw [notLongL hlen]
    exact Bool.false_ne_true
  have hnew : List.foldl (fun x1 x2 => x1 ++ x2) #[] (List.replicate (if its.toArray.isEmpty = true then 0 else k.toNat) its.toArray) = (List.replicate k.toNat its).flatten.toArray := by
    have f0 : ∀ m : Nat, List.foldl (fun x1 x2 => x1 ++ x2) #[] (List.replicate m its.toArray) = (List.replicate m its).flatten.toArray := fun m => by
      have := foldl_rep its m []
      rw [List.nil_append] at this
      exact this
    rw [f0]
    cases its with
    | nil => simp
    | cons a r' => rw [if_neg (by simp)]
  refine wpAny_binaryOp_repeat_ref (T := "list") (U := "int") (by decide) ⟨_, e, rfl⟩ (fun s' => typeIs_int s' k t) noFill_list_mul F.fills_int_mul F.slot_int_rmul repeat_list F.slot_int_index.lookup
    (call_meets F.slot_int_rmul (typeIs_int s k t) F.entry_int_rmul (F.args_int_rmul_2 _ _) (int___rmul___int_list k t l its.toArray n)
      ⟨e, rfl, ⟨_, e, rfl⟩, call_meets F.slot_list_mul ⟨_, e, rfl⟩ F.entry_list_mul (F.args_list_mul_2 _ _) (AutoListH.list___mul___list_int_3 l its.toArray n k t hfit hcap hlong) ⟨e, ?_⟩⟩)
  rw [hnew]
  exact ⟨.ref _, _, I.lnew (t' := s.toks) (r.rep k.toNat) (by rw [len_rep, Nat.mul_comm]; exact hz), rfl, q _ I.fresh⟩

end

section
variable {prog : Program} {w : World} {A : Around} {E : Value → Shared → Prop} {s : Shared}
end

section
variable {X : Cx}
end
end L2

namespace Att
open PySem PySem.W PySem.Calls PyProof.Rows

theorem ints_of_wellAll {P : Params} {h : Heap} : ∀ (ns : List Int) (vs : List Value), WellAll P h vs (ns.map WData.int) → IntsAre vs ns := by
  intro ns
  induction ns with
  | nil =>
    intro vs w
    rw [List.map_nil] at w
    cases w
    exact .nil
  | cons n ns ih =>
    intro vs w
    rw [List.map_cons] at w
    cases w with
    | cons a b =>
      cases a
      exact .cons _ _ (ih _ b)

theorem script_of {l : OpenLaw} {n : Nat} (hn : l.most = some n) {P : Params} {h : Heap} {args : List WData} {vals : List Value}
    (hpre : l.row.toRowW.claim.pre args = true) (hwl : WellAll P h vals args) :
    ∃ a vs ns, vals = [Value.ref a] ∧ args = [WData.list (ns.map WData.int)] ∧ h.get? a = some { cls := .type "list", data := .seq vs.toArray } ∧ IntsAre vs ns ∧ ns.length ≤ n := by
  have hsh : WShape.hasAll [] args [.list .int] = true := (pre_splitW hpre).1
  have hc : l.pre.holds [] { args := args } = true := (pre_splitW hpre).2
  obtain ⟨d, r, rfl, h1, h2⟩ := hasAllW_cons hsh
  obtain rfl := hasAllW_nil h2
  obtain ⟨xs, rfl, h3⟩ := hasW_list h1
  obtain ⟨ns, rfl⟩ := items_int h3
  have hlen : ns.length ≤ n := by
    unfold OpenLaw.pre at hc
    have h4 : (WTm.not (.lt (.lit (.int (n : Int))) (.len (.arg 0)))).holds [] { args := [.list (ns.map .int)] } = true := by
      have h4 := (holds_andW hc).1
      rw [hn] at h4
      exact h4
    have h5 := condW_of h4 (w_not (w_lt w_lit (w_len_list (w_arg rfl))))
    rw [List.length_map] at h5
    refine Nat.le_of_not_lt fun q => ?_
    have q' : (n : Int) < ((ns.length : Nat) : Int) := by omega
    first
      | (rw [decide_eq_true q'] at h5; exact absurd h5 (by decide))
      | (simp at h5; omega)
  cases hwl with
  | cons w1 w2 =>
    cases w2
    cases w1 with
    | list ho hall => exact ⟨_, _, ns, rfl, rfl, ho, ints_of_wellAll ns _ hall, hlen⟩

theorem post_true (l : OpenLaw) (args : List WData) : l.row.toRowW.claim.post args (.bool true) args = true :=
  postW_of (r := l.row.toRowW) (X := (true == true))
    (show WShape.has [] (.bool true) .bool = true by first | rfl | decide | simp [WShape.has, WShape.arms, WShape.armsAll])
    (show (WTm.eq .res (.lit (.bool true))).value [] { args := args, res := some (.bool true), after := args } = some (.bool (true == true)) from w_eq_bool (w_res rfl) w_lit) rfl

theorem attach_call {l : OpenLaw} {n : Nat} {q : Program} {loose : List Str} {XP : (Str → Option Value) → Heap → Prop} {YP : World → Heap → Prop} {d : DefRec}
    (hn : l.most = some n) (hdf : d.params.defaults = [])
    (call : ∀ (w : World) (s₀ s₁ : Shared) (mg mb : Str → Option Value) (fa : Addr) (o : Obj) (pm cd doc : Value) (a : Addr) (vs : List Value) (ns : List Int),
      Ground q loose [] XP w s₀ mg mb s₁.heap → YP w s₁.heap →
      s₁.heap.get? fa = some o → o.data = .func (docDef d.name d.params d.body d.scope pm cd doc) → s₁.heap.CodeRec cd d.name → mg d.name = some (.ref fa) →
      s₁.heap.get? a = some { cls := .type "list", data := .seq vs.toArray } → IntsAre vs ns → ns.length ≤ n → s₁.gens = #[] →
      codeAny (model l.prog w) callerA (.call (.ref fa) ⟨[.ref a], []⟩) (fun r s' => r = .ok (.ret (.bool true)) ∧ OldK s₁.heap s'.heap ∧ s'.os = s₁.os ∧ AllBare s'.gens) s₁) :
    WalkO q loose XP YP l.row.toRowW d [] (fun f vs => PySem.call f vs) := by
  intro w s₀ s₁ mg mb G Y fa o pm cd doc dV kV ho hd hcd hD hmg hg args vals as hpre hlay hrd hwl hlo
  obtain rfl : dV = .none := Dflts.none hD hdf
  obtain rfl : kV = .none := Dflts.noKw hD
  obtain ⟨a, vs, ns, rfl, rfl, hobj, hints, hlen⟩ := script_of hn hpre hwl
  refine enter_call (codeAny_mono (call w s₀ s₁ mg mb fa o pm cd doc a vs ns G Y ho (fd_plain hd) hcd hmg hobj hints hlen hg) fun r s' hq => ?_)
  obtain ⟨rfl, h2, h3, h4⟩ := hq
  exact ⟨.inl ⟨.bool true, .bool true, [], rfl, fun _ => rfl, .bool true, post_true l _, fun _ => ⟨List.Pairwise.nil, fun _ hm => (nomatch hm)⟩⟩, h2, h3, h4⟩

section
variable {prog : Program} {w : World} {A : Around} {E : Value → Shared → Prop} {s : Shared} {K : Frag}

def ledger (h : Heap) (L d : Addr) : List (Addr × Obj) := (List.range h.objs.size).filterMap fun a => if a = L ∨ a = d then none else (h.get? a).map fun o => (a, o)
end
end Att

namespace L2
open PySem PySem.Spec PyProof.Rows

theorem vals_ints : ∀ {vs : List Value} {ns : List Int}, IntsAre vs ns → Vals (ns.map V.int) vs
  | _, _, .nil => .nil
  | _, _, .cons n t h => .cons ⟨t, rfl⟩ (vals_ints h)

def Only (H : Hp) : Prop := ∀ b, H b = none ∨ ∃ o xs, H b = some (.frz o (.lst xs))

theorem law_call {P : Program} {w : World} {K : PySem.W.Frag} {mg mb : Str → Option Value} {CX : CXT} {k : Nat} {fa a : Addr} {fd : FuncData} {x : Str} {sp : Sp} {s₁ : Shared} {vs : List Value} {ns : List Int}
    (KX : K.In s₁.heap) (hns : s₁.heap.Ns mainGlobals mg) (hb : s₁.heap.Ns builtinsNs mb) (hbb : ∀ x : Str, x ≠ "__name__" → mb x = bootBuiltins x) (hlim : s₁.heap.NoLimit) (hg : s₁.gens = #[])
    (ha : s₁.heap.get? a = some { cls := .type "list", data := .seq vs.toArray }) (hi : IntsAre vs ns) (hl : ns.length ≤ sizeLine) (hr : Room k callerA)
    (F : ∀ base : Heap, K.In base → base.Ns mainGlobals mg → FnOk P w K mg base CX k fa fd [x] sp) (hbind : ∀ (s : Shared) (u : Value), BindsTo s fd ⟨[u], []⟩ [(x, u)])
    (hsp : ∀ H : Hp, Only H → SqL K H a (ns.map V.int) → sp [.ref a] H (fun v _ => v = .bl true) fun _ _ _ => False)
    (hCX : ∀ H e s', CX [] H s₁ (fun _ _ _ => False) e s' → False) :
    codeAny (model P w) callerA (.call (.ref fa) ⟨[.ref a], []⟩) (fun r s' => r = .ok (.ret (.bool true)) ∧ OldK s₁.heap s'.heap ∧ s'.os = s₁.os ∧ AllBare s'.gens) s₁ := by
  have rv := vals_ints hi
  have lenV := hi.length
  -- from an abstract heap in which nothing but the script may be tracked
  have core : ∀ H : Hp, Only H → SqL K H a (ns.map V.int) → HOk P w H s₁.heap → (∀ b, H b ≠ none → b = a) → (H a ≠ none → K.lookup a = none) →
      codeAny (model P w) callerA (.call (.ref fa) ⟨[.ref a], []⟩) (fun r s' => r = .ok (.ret (.bool true)) ∧ OldK s₁.heap s'.heap ∧ s'.os = s₁.os ∧ AllBare s'.gens) s₁ := by
    intro H hO hS hok hA hK
    have base_of : ∀ {b : Addr} {o : Obj}, s₁.heap.get? b = some o → H b = none → (hidT s₁.heap H).get? b = some o := fun e n => hidT_get e n
    have noA : ∀ {b : Addr} {o : Obj} {es : Array DictEntry} {ep : Nat}, s₁.heap.get? b = some o → o.data = .dict es ep → H b = none := fun {b o es ep} e d => by
      cases q : H b with
      | none => rfl
      | some u =>
        have e' : b = a := hA b (by rw [q]; simp)
        subst e'
        rw [ha] at e; cases e
        have d' : Data.seq vs.toArray _ = Data.dict es ep := d
        cases d'
    have nsK : ∀ {b : Addr} {m : Str → Option Value}, s₁.heap.Ns b m → (hidT s₁.heap H).Ns b m := fun {b m} ⟨o, es, ep, e, d, r⟩ => ⟨o, es, ep, base_of e (noA e d), d, r⟩
    have hKb : K.In (hidT s₁.heap H) := fun b o e => base_of (KX b o e) (by
      cases q : H b with
      | none => rfl
      | some u =>
        have e' : b = a := hA b (by rw [q]; simp)
        subst e'
        rw [hK (by rw [q]; simp)] at e; cases e)
    have hM : Mod K mg (hidT s₁.heap H) := ⟨hKb, nsK hns, ⟨mb, nsK hb, hbb⟩, let ⟨mc, h1, h2⟩ := hlim; ⟨mc, nsK h1, h2⟩⟩
    have e0 : Env0 P w K mg (hidT s₁.heap H) callerA [] s₁ H := ⟨rfl, hM, fun b o e => of_hidT e, Nat.le_of_eq (hidT_size _ _), trivial, fun b hb => absurd (show b ∈ ([] : List Addr) from hb) (by simp), hok, .of_eq hg⟩
    refine codeAny_mono ((F _ hKb (nsK hns)).run callerA [] s₁ H ⟨[.ref a], []⟩ [.ref a] [.ref a] _ _ hr e0 (hbind s₁ (.ref a)) (.cons rfl .nil) (hsp H hO hS)) fun r s' h => ?_
    cases r with
    | error e => exact (hCX H e s' h).elim
    | ok fl =>
      cases fl with
      | next => exact False.elim h
      | brk => exact False.elim h
      | cont => exact False.elim h
      | ret u =>
        obtain ⟨v, H', os, bare, un, hok', r', q⟩ := h
        have q' : v = .bl true := q
        subst q'
        obtain rfl : u = Value.bool true := r'
        refine ⟨rfl, OldK.of_keep fun b o e => ?_, os, bare⟩
        cases q : H b with
        | none => exact un.keep b o e q (by intro z; exact absurd (show b ∈ ([] : List Addr) from z) (by simp)) (by simp)
        | some u =>
          rcases hO b with z | ⟨ob, xs, z⟩
          · rw [q] at z; cases z
          · have z2 := un.frzs b ob _ z
            obtain ⟨e1, _⟩ := hok b _ z
            obtain ⟨e2, _⟩ := hok' b _ z2
            rw [e] at e1; cases e1
            exact e2
  cases hk : K.lookup a with
  | some o =>
    -- the script is one of the module's own objects
    have e := KX a o hk
    rw [ha] at e
    cases e
    refine core (fun _ => none) (fun _ => .inl rfl) (.inr ⟨_, vs.toArray, _, hk, rfl, rfl, rfl, by rw [List.size_toArray, lenV]; exact hl, by simpa using rv⟩) (fun b u z => by have z' : (none : Option HO) = some u := z; cases z') (fun b z => absurd rfl z) fun z => absurd rfl z
  | none =>
    refine core (fun b => if b = a then some (.frz { cls := .type "list", data := .seq vs.toArray } (.lst (ns.map V.int))) else none) (fun b => ?_) (.inl (.inr ⟨{ cls := .type "list", data := .seq vs.toArray }, if_pos rfl⟩)) (fun b u z => ?_) (fun b z => ?_) fun _ => hk
    · by_cases hb : b = a
      · exact .inr ⟨_, _, if_pos hb⟩
      · exact .inl (if_neg hb)
    · by_cases hb : b = a
      · have z' := (if_pos hb).symm.trans z
        cases z'
        subst hb
        exact ⟨ha, by rw [List.length_map]; exact hl, vs, _, rv, ha⟩
      · have z' := (if_neg hb).symm.trans z
        cases z'
    · by_cases hb : b = a
      · exact hb
      · exact absurd (if_neg hb) z
end L2

namespace L2
open PySem PySem.Spec PyProof.Rows

abbrev KOf {K : PySem.W.Frag} {h : Heap} (_ : K.In h) : PySem.W.Frag := K

theorem walk_of {l : PySem.W.OpenLaw} {n k : Nat} {q : Program} {loose : List Str} {XP : (Str → Option Value) → Heap → Prop} {YP : World → Heap → Prop} {d : DefRec} {K : Params → PySem.W.Frag} {CX : World → CXT} {sp : World → Sp} {x : Str}
    (hn : l.most = some n) (hn2 : n ≤ sizeLine) (hdf : d.params.defaults = []) (hr : Room k callerA)
    (hY : ∀ (w : World) (h : Heap), YP w h → (K w.params).In h)
    (F : ∀ (w : World) (mg : Str → Option Value) (fa : Addr) (h : Heap), (K w.params).In h → h.Ns mainGlobals mg → mg d.name = some (.ref fa) →
      ∃ fd : FuncData, (∀ (s : Shared) (u : Value), BindsTo s fd ⟨[u], []⟩ [(x, u)]) ∧
        ∀ base : Heap, (K w.params).In base → base.Ns mainGlobals mg → FnOk l.prog w (K w.params) mg base (CX w) k fa fd [x] (sp w))
    (hsp : ∀ (w : World) (H : Hp) (a : Addr) (ns : List Int), ns.length ≤ n → Only H → SqL (K w.params) H a (ns.map V.int) → sp w [.ref a] H (fun v _ => v = .bl true) fun _ _ _ => False)
    (hCX : ∀ (w : World) (H : Hp) (s : Shared) (e : Value) (s' : Shared), CX w [] H s (fun _ _ _ => False) e s' → False) :
    PySem.W.WalkO q loose XP YP l.row.toRowW d [] (fun f vs => PySem.call f vs) := by
  refine Att.attach_call hn hdf fun w s₀ s₁ mg mb fa o pm cd doc a vs ns G Y ho hd hcd hmg hobj hints hlen hg => ?_
  have KX := hY w _ Y
  obtain ⟨fd, hb, hF⟩ := F w mg fa _ KX G.T.g hmg
  exact law_call KX G.T.g G.T.b G.T.builtins G.T.nolimit hg hobj hints (Nat.le_trans hlen hn2) hr hF hb (fun H hO hS => hsp w H a ns hlen hO hS) fun H e s' => hCX w H s₁ e s'
end L2

/- THE LAST THEOREM (shape; LID, My.* are yours):
   My.Adr: a structure of the addresses that your layer names (classes, functions); My.Txt K t: a structure (Prop) of the equations over K;
   My.txt_mk : {K} {implicit addresses ..} (e1 : nsIn K mainGlobals "law" = some (some (.ref f))) (e2 : K.lookup f = some ⟨oc, od, .func (fnOf "law" "law" params body scope dV kV doc pm an cdv ct), sl⟩) (e3 : codeIn K cdv "law" = true) .. : ∃ t, My.Txt K t

set_option maxRecDepth 100000 in
set_option maxHeartbeats 0 in
theorem PySem.Challenge.cw_LID_holds : PySem.Challenge.rw_LID.Holds := by
  w_on; o_law; k_head; (case hw => w_witness2)
  k_fill
  refine L2.walk_of (l := PySem.Challenge.rw_LID) (n := 63) (k := 40) (x := "script") (CX := fun w => ..) (sp := fun _ => My.sp_law) rfl (by decide) rfl ⟨rfl, by decide, by decide⟩ (fun w h Y => PySem.W.kIn_of Y) ?F ?S ?C
  case F =>
    intro w mg fa h KX G hmg
    have T : ∃ t, My.Txt (L2.KOf KX) t := by
      dsimp only [L2.KOf]                          -- K must stand as «<heap const> w.params» for k_is
      refine' My.txt_mk ?e1 ?e2 ?e3 ..
      (case e1 => PySem.W.k_is)                    -- in the order: a name -> its address -> its object -> its parts
      (case e2 => PySem.W.k_is)
      ..
    obtain ⟨t, T⟩ := T
    have e0 := hmg.symm.trans (PySem.W.mg_of KX G T.law)
    cases e0                                       -- fa is the law's own address
    exact ⟨_, fun s u => .of_eq rfl, fun base kb nb => My.law_fn T kb nb⟩     -- if «.of_eq rfl» comes too early: refine' ⟨_, ?b, fun base kb nb => My.law_fn T kb nb⟩; exact fun s u => .of_eq rfl
  case S => exact fun w H a ns hl hO hS => ..
  case C => exact ..
(the tactic k_is has no namespace: write k_is) -/

namespace L2
open PySem PySem.Spec PyProof.Rows

/-- the j-th statement of a class's body -/
def inClass (s : Stmt) (j : Nat) : Stmt := match s with
  | .ClassDef _ _ _ body _ _ _ _ _ _ _ => body.getD j (.Pass ⟨0, 0, 0, 0⟩)
  | _ => .Pass ⟨0, 0, 0, 0⟩
def defArgs (s : Stmt) : Arguments := match s with
  | .FunctionDef _ a _ _ _ _ _ _ _ _ => a
  | _ => { posonlyargs := [], args := [], vararg := none, kwonlyargs := [], kw_defaults := [], kwarg := none, defaults := [] }
def defBody (s : Stmt) : List Stmt := match s with
  | .FunctionDef _ _ b _ _ _ _ _ _ _ => b
  | _ => []
def defScope (s : Stmt) : Scope := match s with
  | .FunctionDef _ _ _ _ _ _ sc _ _ _ => sc
  | _ => { kind := .function, names := [], isGenerator := false, isCoroutine := false }

structure Fun (K : PySem.W.Frag) (x qual : Str) (st : Stmt) (f : Addr) (fd : FuncData) : Prop where
  ex : ∃ (oc : Value) (od : Option Addr) (kV doc pm : Value) (an : Option Addr) (cdv ct : Value) (osl : Array (Option Value)),
    fd = PySem.W.fnOf x qual (defArgs st) (defBody st) (defScope st) .none kV doc pm an cdv ct ∧ K.lookup f = some ⟨oc, od, .func fd, osl⟩ ∧ PySem.W.codeIn K cdv qual = true
  kp : PySem.W.keepIn K (.ref f) = true
section
variable {P : Program} {w : World} {K : PySem.W.Frag} {mg : Str → Option Value} {base : Heap}
theorem Fun.binds {x qual : Str} {st : Stmt} {f : Addr} {fd : FuncData} {ps : List Str} (F : Fun K x qual st f fd)
    (h : ∀ (kV doc pm : Value) (an : Option Addr) (cdv ct : Value) (us : List Value), us.length = ps.length → bindArgs (PySem.W.fnOf x qual (defArgs st) (defBody st) (defScope st) .none kV doc pm an cdv ct) ⟨us, []⟩ = pure (ps.zip us)) : Binds K fd ps [] := by
  obtain ⟨oc, od, kV, doc, pm, an, cdv, ct, osl, rfl, lk, hcd⟩ := F.ex
  exact .all (h kV doc pm an cdv ct)
theorem fun_mk {x qual : Str} {st : Stmt} {f : Addr} {oc : Value} {od an : Option Addr} {osl : Array (Option Value)} {kV doc pm cdv ct : Value} (l : K.lookup f = some ⟨oc, od, .func (PySem.W.fnOf x qual (defArgs st) (defBody st) (defScope st) .none kV doc pm an cdv ct), osl⟩)
    (c : PySem.W.codeIn K cdv qual = true) (k : PySem.W.keepIn K (.ref f) = true) : Fun K x qual st f (PySem.W.fnOf x qual (defArgs st) (defBody st) (defScope st) .none kV doc pm an cdv ct) := ⟨⟨oc, od, kV, doc, pm, an, cdv, ct, osl, rfl, l, c⟩, k⟩
end
theorem hu_of {A : Around} {k : Nat} (hr : Room k A) : A.units + 1 < cLine := Nat.lt_of_le_of_lt (Nat.add_le_add_left (by decide : 1 ≤ 64) _) hr.units
section
variable {X : Cx}
end

/-- all that was tracked is as it was -/
def Same (H H' : Hp) : Prop := ∀ b o, H b = some o → H' b = some o
theorem Same.refl (H : Hp) : Same H H := fun _ _ h => h
theorem Same.trans {H H1 H2 : Hp} (a : Same H H1) (b : Same H1 H2) : Same H H2 := fun c o h => b c o (a c o h)
theorem Same.seq {K : PySem.W.Frag} {H H' : Hp} {a : Addr} {xs : List V} (e : Same H H') (h : SqL K H a xs) : SqL K H' a xs := by
  rcases h with (h | ⟨o, h⟩) | h
  · exact .inl (.inl (e _ _ h))
  · exact .inl (.inr ⟨o, e _ _ h⟩)
  · exact .inr h

end L2

set_option Elab.async false
set_option linter.all false
set_option maxRecDepth 100000
-- CHANGE: your row's module here, as the last of these rows
set_option Elab.async false
set_option linter.all false
set_option maxRecDepth 100000
namespace L2
open PySem PySem.Spec PyProof.Rows

end L2

namespace L2
open PySem PySem.Spec PyProof.Rows

section
variable (P : Program) (w : World)
end

section
variable {P : Program} {w : World} {H H' : Hp} {h h' : Heap} {a : Addr} {o : HO}
end

section
variable {P : Program} {w : World} {H : Hp} {h h' : Heap} {x e : Addr} {o' : HO}
end

section
variable {fs fs' ex ex' : List Addr} {H H1 H2 : Hp} {h h1 h2 h' : Heap} {a x e : Addr} {o : HO}
end

end L2

namespace L2
open PySem PySem.Spec PyProof.Rows

section
variable {X : Cx} {pins : List (Addr × Obj)} {σ : List (Option V)} {H H' : Hp} {s : Shared} {h' : Heap}

end

end L2

namespace L2
open PySem PySem.Spec PyProof.Rows
section
variable {X : Cx}

variable {a b : Expr} {ta tb : TE} {pos : Pos}
variable {tA tB' : TT} {rest : List Expr}
end
end L2

namespace L2
open PySem PySem.Spec PyProof.Rows

section
variable {X : Cx} {pins : List (Addr × Obj)} {σ : St} {H : Hp} {s : Shared} {a : Addr} {xs ys : List V}
end

section
variable {X : Cx} {pins : List (Addr × Obj)} {σ : St} {H : Hp} {s : Shared} {E : Value → Shared → Prop}
end

section
variable {X : Cx} {st : Stmt} {rest : List Stmt} {t u : TS} {e : Expr} {te : TE} {pos : Pos}
end

section
variable {X : Cx} {pos : Pos}
end

section
variable {X : Cx} {pos : Pos}
end

end L2

namespace L2
open PySem PySem.Spec PyProof.Rows
section
variable {X : Cx} {tg : Expr}
end

end L2

namespace L2
open PySem PySem.Spec PyProof.Rows

section
variable {X : Cx} {a b c : Expr} {ta tb tc : TE} {pos : Pos}

end

section
variable {X : Cx} {a b c : Expr} {ta tb tc : TE} {pos : Pos}
end
end L2

namespace L2
open PySem PySem.Spec PyProof.Rows

section
variable {prog : Program} {w : World} {A : Around} {E : Value → Shared → Prop} {s : Shared} {K : PySem.W.Frag} {x dx C f : Addr} {mA : Str → Option Value} {name : Str} {v : Value}

end

section
variable {P : Program} {w : World} {H H' : Hp} {h h' : Heap} {a C dx : Addr} {fs fs' : List (Str × V)}
end

section
variable {X : Cx} {pins : List (Addr × Obj)} {σ : St} {H : Hp} {s : Shared} {a C dx : Addr} {fs : List (Str × V)} {f : Str} {v : V} {A : Around} {E : Value → Shared → Prop}

end

section
variable {X : Cx} {o e value : Expr} {f : Str} {pos pos' tpos : Pos} {ta tv : TE}
end

section
variable {X : Cx} {pins : List (Addr × Obj)} {σ : St} {H : Hp} {s : Shared} {A : Around} {E : Value → Shared → Prop} {Q : Value → Shared → Prop} {c : Value} {b : Bool}
end
end L2

namespace L2
open PySem PySem.Spec PyProof.Rows

section
variable {X : Cx} {e : Expr} {es : List Expr} {te : TE} {t : TA} {pos : Pos}
end

section
variable {X : Cx} {pins : List (Addr × Obj)} {σ : St} {H : Hp} {s s' : Shared}
end

section
variable {X : Cx} {CX : CXT} {k : Nat} {f C : Addr} {fd : FuncData} {ps : List Str} {sp : Sp} {dvs : List V} {ds : List Value} {E : XK} {x m : Str} {p pos apos : Pos} {e o : Expr} {es : List Expr} {ta : TE} {t : TA}

end

section
variable {X : Cx} {CX : CXT} {k : Nat} {f C : Addr} {fd : FuncData} {ps ks : List Str} {sp : Sp} {E : XK} {x m : Str} {p pos apos kpos : Pos} {e o : Expr} {es : List Expr} {kws : List Keyword} {te ta : TE} {t tk : TA} {nm : Option Str}
variable {g : List Value → List Value → List Value} {gV : List V → List V → List V}
end

end L2

namespace L2
open PySem PySem.Spec PyProof.Rows
section
variable {X : Cx} {x : Str} {p pos : Pos} {e : Expr} {es : List Expr} {t : TA} {id T : String} {r : List V → Hp → VK → Prop}

end
end L2

namespace L2
open PySem PySem.Spec PyProof.Rows

section
variable {κ : Type} [DecidableEq κ]
def valV (kvs : List (κ × V)) (k : κ) : Option V := (kvs.find? fun kv => decide (kv.1 = k)).map (·.2)
def putK (kvs : List (κ × V)) (k : κ) (v : V) : List (κ × V) :=
  if (kvs.any fun kv => decide (kv.1 = k)) = true then kvs.map (fun kv => if kv.1 = k then (kv.1, v) else kv) else kvs ++ [(k, v)]
def dropK (kvs : List (κ × V)) (k : κ) : List (κ × V) := kvs.filter fun kv => decide (kv.1 ≠ k)

theorem valV_pos {p : κ × V} {r : List (κ × V)} {k : κ} (e : p.1 = k) : valV (p :: r) k = some p.2 := by simp [valV, List.find?_cons, e]
theorem valV_neg {p : κ × V} {r : List (κ × V)} {k : κ} (e : ¬ p.1 = k) : valV (p :: r) k = valV r k := by simp [valV, List.find?_cons, e]
theorem valV_any (k : κ) : ∀ kvs : List (κ × V), (kvs.any fun kv => decide (kv.1 = k)) = (valV kvs k).isSome
  | [] => rfl
  | p :: r => by
    rw [List.any_cons]
    by_cases e : p.1 = k
    · simp only [valV_pos e, decide_eq_true e, Bool.true_or, Option.isSome_some]
    · rw [valV_neg e, decide_eq_false e, Bool.false_or]; exact valV_any k r
theorem length_putK (kvs : List (κ × V)) (k : κ) (v : V) : (putK kvs k v).length ≤ kvs.length + 1 := by
  unfold putK
  split
  · rw [List.length_map]; omega
  · rw [List.length_append, List.length_cons, List.length_nil]; omega
theorem RelO.isSome_eq {o : Option V} {u : Option Value} (r : RelO o u) : o.isSome = u.isSome := by
  cases o with
  | none => cases u with
    | none => rfl
    | some _ => exact (show False from r).elim
  | some _ => cases u with
    | none => exact (show False from r).elim
    | some _ => rfl
theorem KV.val {kvs : List (κ × V)} {vs : List (κ × Value)} (r : KV kvs vs) (k : κ) : RelO (valV kvs k) (valueAt vs k) := by
  unfold KV at r
  induction r with
  | nil => exact True.intro
  | @cons p q ps qs h t ih =>
    obtain ⟨h1, h2⟩ := h
    by_cases e : p.1 = k
    · have e' : q.1 = k := h1.symm.trans e
      have b : valueAt (q :: qs) k = some q.2 := by simp [valueAt, List.find?_cons, e']
      rw [valV_pos e, b]; exact h2
    · have e' : ¬ q.1 = k := fun z => e (h1.trans z)
      have b : valueAt (q :: qs) k = valueAt qs k := by simp [valueAt, List.find?_cons, e']
      rw [valV_neg e, b]; exact ih
theorem KV.any {kvs : List (κ × V)} {vs : List (κ × Value)} (r : KV kvs vs) (k : κ) : (kvs.any fun kv => decide (kv.1 = k)) = vs.any fun kv => decide (kv.1 = k) := by
  unfold KV at r
  induction r with
  | nil => rfl
  | cons h t ih => rw [List.any_cons, List.any_cons, ih, h.1]
theorem KV.repl {kvs : List (κ × V)} {vs : List (κ × Value)} (r : KV kvs vs) (k : κ) {y : V} {u : Value} (ry : RelV y u) :
    KV (kvs.map fun kv => if kv.1 = k then (kv.1, y) else kv) (vs.map fun kv => if kv.1 = k then (kv.1, u) else kv) := by
  unfold KV at r ⊢
  induction r with
  | nil => exact .nil
  | @cons p q ps qs h t ih =>
    rw [List.map_cons, List.map_cons]
    refine .cons ?_ ih
    obtain ⟨h1, h2⟩ := h
    by_cases e : p.1 = k
    · rw [if_pos e, if_pos (h1.symm.trans e)]; exact ⟨h1, ry⟩
    · rw [if_neg e, if_neg (fun z => e (h1.trans z))]; exact ⟨h1, h2⟩
theorem KV.put {kvs : List (κ × V)} {vs : List (κ × Value)} (r : KV kvs vs) (k : κ) {y : V} {u : Value} (ry : RelV y u) : KV (putK kvs k y) (stored vs k u) := by
  unfold putK stored
  rw [r.any k]
  by_cases e : (vs.any fun kv => decide (kv.1 = k)) = true
  · rw [if_pos e, if_pos e]; exact r.repl k ry
  · rw [if_neg e, if_neg e]; exact Paired.snoc r ⟨rfl, ry⟩
theorem KV.drop {kvs : List (κ × V)} {vs : List (κ × Value)} (r : KV kvs vs) (k : κ) : KV (dropK kvs k) (without vs k) := by
  unfold KV at r ⊢
  unfold dropK without
  induction r with
  | nil => exact .nil
  | @cons p q ps qs h t ih =>
    obtain ⟨h1, h2⟩ := h
    rw [List.filter_cons, List.filter_cons]
    by_cases e : p.1 = k
    · have a : ¬ decide (p.1 ≠ k) = true := by simp [e]
      have b : ¬ decide (q.1 ≠ k) = true := by simp [h1.symm.trans e]
      rw [if_neg a, if_neg b]; exact ih
    · have e' : ¬ q.1 = k := fun z => e (h1.trans z)
      have a : decide (p.1 ≠ k) = true := by simp [e]
      have b : decide (q.1 ≠ k) = true := by simp [e']
      rw [if_pos a, if_pos b]; exact .cons ⟨h1, h2⟩ ih
theorem KV.length {kvs : List (κ × V)} {vs : List (κ × Value)} (r : KV kvs vs) : kvs.length = vs.length := Paired.length r
theorem dropK_le (kvs : List (κ × V)) (k : κ) : (dropK kvs k).length ≤ kvs.length := List.length_filter_le _ _
end


theorem kV_is {P : Program} {w : World} {k : Key} {u : Value} (r : RelV (kV k) u) : (mixKind P w).is k u = true := by
  cases k with
  | inl i => obtain ⟨t, e⟩ := (show ∃ t, u = Value.int i t from r); subst e; exact mixKind_int P w i t
  | inr x => obtain ⟨t, e⟩ := (show ∃ t, u = Value.str x t from r); subst e; exact mixKind_str P w x t
theorem items_are {P : Program} {w : World} : ∀ {ks : List Key} {us : List Value}, Vals (ks.map kV) us → ItemsAre (mixKind P w) ks us
  | [], _, r => by rw [List.map_nil] at r; cases r; exact .nil
  | k :: ks, _, r => by
    rw [List.map_cons] at r
    cases r with
    | cons h t => exact .cons (kV_is h) (items_are t)

abbrev KT (H : Hp) : List (List Key × V) → List (List Key × Addr × Value) → Prop := Paired fun p q => p.1 = q.1 ∧ H q.2.1 = some (.tup (p.1.map kV)) ∧ RelV p.2 q.2.2
theorem KT.val {H : Hp} {kvs : List (List Key × V)} {xs : List (List Key × Addr × Value)} (r : KT H kvs xs) (k : List Key) : RelO (valV kvs k) ((atKey xs k).map (·.2)) := by
  induction r with
  | nil => exact True.intro
  | @cons p q ps qs h t ih =>
    obtain ⟨h1, _, h2⟩ := h
    by_cases e : p.1 = k
    · have e' : q.1 = k := h1.symm.trans e
      have b : atKey (q :: qs) k = some q.2 := by simp [atKey, List.find?_cons, e']
      rw [valV_pos e, b]; exact h2
    · have e' : ¬ q.1 = k := fun z => e (h1.trans z)
      have b : atKey (q :: qs) k = atKey qs k := by simp [atKey, List.find?_cons, e']
      rw [valV_neg e, b]; exact ih
theorem KT.repl {H : Hp} {kvs : List (List Key × V)} {xs : List (List Key × Addr × Value)} (r : KT H kvs xs) (k : List Key) {y : V} {u : Value} (ry : RelV y u) :
    KT H (kvs.map fun kv => if kv.1 = k then (kv.1, y) else kv) (xs.map (putAt k u)) := by
  induction r with
  | nil => exact .nil
  | @cons p q ps qs h t ih =>
    rw [List.map_cons, List.map_cons]
    refine .cons ?_ ih
    obtain ⟨h1, h2, h3⟩ := h
    unfold putAt
    by_cases e : p.1 = k
    · rw [if_pos e, if_pos (h1.symm.trans e)]; exact ⟨h1, h2, ry⟩
    · rw [if_neg e, if_neg (fun z => e (h1.trans z))]; exact ⟨h1, h2, h3⟩
theorem KT.put {H : Hp} {kvs : List (List Key × V)} {xs : List (List Key × Addr × Value)} (r : KT H kvs xs) (k : List Key) {b : Addr} {y : V} {u : Value} (hb : H b = some (.tup (k.map kV))) (ry : RelV y u) :
    KT H (putK kvs k y) (storedH xs k b u) := by
  have e : (kvs.any fun kv => decide (kv.1 = k)) = (atKey xs k).isSome := by
    rw [valV_any, (r.val k).isSome_eq, Option.isSome_map]
  unfold putK storedH
  rw [e]
  by_cases q : (atKey xs k).isSome = true
  · rw [if_pos q, if_pos q]; exact r.repl k ry
  · rw [if_neg q, if_neg q]; exact Paired.snoc r ⟨rfl, hb, ry⟩
theorem KT.keeps {H H' : Hp} {kvs : List (List Key × V)} {xs : List (List Key × Addr × Value)} (r : KT H kvs xs) (ht : ∀ b ys, H b = some (.tup ys) → H' b = some (.tup ys)) : KT H' kvs xs :=
  Paired.mapP r fun _ _ z => ⟨z.1, ht _ _ z.2.1, z.2.2⟩

section
variable {P : Program} {w : World} {H : Hp} {h : Heap} {a : Addr}
theorem rd_of {u : HO} (ok : HOk P w H h) (e : Rd H a u) : ObjOk P w H h a u := e.ok ok
theorem dk_rd {kvs : List (Key × V)} (ok : HOk P w H h) (e : Rd H a (.dK kvs)) : kvs.length ≤ sizeLine ∧ (a == sysModules) = false ∧ ∃ vs, KV kvs vs ∧ h.DictOf (mixKind P w) a vs :=
  show ObjOk P w H h a (.dK kvs) from rd_of ok e
theorem dk_of {kvs : List (Key × V)} (ok : HOk P w H h) (e : H a = some (.dK kvs)) : kvs.length ≤ sizeLine ∧ (a == sysModules) = false ∧ ∃ vs, KV kvs vs ∧ h.DictOf (mixKind P w) a vs := dk_rd ok (.inl e)
theorem key_of {ks : List Key} (ok : HOk P w H h) (e : H a = some (.tup (ks.map kV))) : (tupleKind (mixKind P w)).is h ks a := by
  obtain ⟨_, its, r, o, h1, h2, n, h3⟩ := (show ObjOk P w H h a (.tup (ks.map kV)) from ok a _ e)
  exact ⟨o, its.toArray, n, h1, h2, h3, by simpa using items_are r⟩
theorem dt_rd {kvs : List (List Key × V)} (ok : HOk P w H h) (e : Rd H a (.dT kvs)) : kvs.length ≤ sizeLine ∧ (a == sysModules) = false ∧
    ∃ xs, KT H kvs xs ∧ h.DictOfH (tupleKind (mixKind P w)) a xs := by
  obtain ⟨z, y, xs, r, o, es, ep, h1, h2, h3, h4, h5⟩ := (show ObjOk P w H h a (.dT kvs) from rd_of ok e)
  refine ⟨z, y, xs, r, o, es, ep, h1, h2, h3, h4, fun x hx => ?_, h5⟩
  have all : ∀ {l : List (List Key × V)} {m : List (List Key × Addr × Value)}, KT H l m → ∀ x ∈ m, (tupleKind (mixKind P w)).is h x.1 x.2.1 := by
    intro l m q
    induction q with
    | nil => intro x hx; exact nomatch hx
    | @cons p q ps qs hq t ih =>
      intro x hx
      rcases List.mem_cons.mp hx with e | hx
      · subst e
        exact key_of ok (by rw [← hq.1]; exact hq.2.1)
      · exact ih x hx
  exact all r x hx
theorem dt_of {kvs : List (List Key × V)} (ok : HOk P w H h) (e : H a = some (.dT kvs)) : kvs.length ≤ sizeLine ∧ (a == sysModules) = false ∧
    ∃ xs, KT H kvs xs ∧ h.DictOfH (tupleKind (mixKind P w)) a xs := dt_rd ok (.inl e)
end

def DGet (H : Hp) (a : Addr) (y : V) (r : Option V) : Prop :=
  (∃ kvs k, Rd H a (.dK kvs) ∧ y = kV k ∧ r = valV kvs k) ∨ ∃ kvs k b, Rd H a (.dT kvs) ∧ y = .ref b ∧ H b = some (.tup (k.map kV)) ∧ r = valV kvs k
def DPut (H : Hp) (a : Addr) (y v : V) (H' : Hp) : Prop :=
  (∃ kvs k, H a = some (.dK kvs) ∧ y = kV k ∧ kvs.length < sizeLine ∧ H' = upd H a (.dK (putK kvs k v))) ∨
  ∃ kvs k b, H a = some (.dT kvs) ∧ y = .ref b ∧ H b = some (.tup (k.map kV)) ∧ kvs.length < sizeLine ∧ H' = upd H a (.dT (putK kvs k v))
section
variable {X : Cx} {pins : List (Addr × Obj)} {σ : St} {H : Hp} {s : Shared} {a : Addr} {y v : V} {u r : Value} {o : Option V} {A : Around} {E : Value → Shared → Prop}

theorem Inv.big (I : Inv X pins σ H s) : sysModules < s.heap.objs.size := by
  have h : mainGlobals < s.heap.objs.size := (I.mod.glob.keeps I.bk).lt
  exact Nat.lt_trans (by decide) h

theorem d_getItem {Q : Value → Shared → Prop} (hu : A.units + 1 < cLine) (I : Inv X pins σ H s) (g : DGet H a y (some v)) (ry : RelV y u) (h : ∀ w' s', Inv X pins σ H s' → RelV v w' → Q w' s') :
    wpAny (model X.prog X.w) A (getItem (.ref a) u) Q E s := by
  rcases g with ⟨kvs, k, e, ey, l⟩ | ⟨kvs, k, b, e, ey, eb, l⟩
  · subst ey
    obtain ⟨z, hd, vs, rel, dd⟩ := dk_rd I.hok e
    obtain ⟨w', hw, rw'⟩ := RelO.some_of (v := v) (o := valueAt vs k) (by rw [l]; exact rel.val k)
    exact wpAny_getItem_of (kV_is ry) dd.mapOf hw (h w' _ (I.tok _) rw')
  · subst ey
    cases (show u = Value.ref b from ry)
    obtain ⟨z, hd, xs, rel, dd⟩ := dt_rd I.hok e
    obtain ⟨w', hw, rw'⟩ := RelO.some_of (v := v) (o := (atKey xs k).map (·.2)) (by rw [l]; exact rel.val k)
    obtain ⟨p, hp, hp2⟩ := Option.map_eq_some_iff.mp hw
    refine wpAny_getItem_heap (tupleKind_room_in1 hu) (key_of I.hok eb) dd hp ?_
    rw [hp2]
    exact h w' _ (I.tok _) rw'
theorem d_notIn {Q : Value → Shared → Prop} (hu : A.units + 1 < cLine) (I : Inv X pins σ H s) (g : DGet H a y o) (ry : RelV y u) (h : ∀ s', Inv X pins σ H s' → Q (.bool (!o.isSome)) s') :
    wpAny (model X.prog X.w) A (compareOp .NotIn u (.ref a)) Q E s := by
  rcases g with ⟨kvs, k, e, ey, l⟩ | ⟨kvs, k, b, e, ey, eb, l⟩
  · subst ey
    obtain ⟨z, hd, vs, rel, dd⟩ := dk_rd I.hok e
    refine wpAny_notIn_of (kV_is ry) hd dd.mapOf ?_
    rw [← (rel.val k).isSome_eq, ← l]
    exact h _ (I.tok _)
  · subst ey
    cases (show u = Value.ref b from ry)
    obtain ⟨z, hd, xs, rel, dd⟩ := dt_rd I.hok e
    refine wpAny_notIn_heap (tupleKind_room_in1 hu) (key_of I.hok eb) hd dd ?_
    have q := (rel.val k).isSome_eq
    rw [Option.isSome_map] at q
    rw [← q, ← l]
    exact h _ (I.tok _)
theorem d_write {h' : Heap} {t' : Nat} {ob : HO} (I : Inv X pins σ H s) (mu : Mut (H a)) (hs : Heap.SameBut a s.heap h') (he : ∃ q, h'.get? a = some q) (new : ObjOk X.prog X.w (upd H a ob) h' a ob) :
    Inv X pins σ (upd H a ob) { s with heap := h', toks := t' } :=
  I.write (x := a) (e := a) mu (.inl rfl) (fun b q hb z => (hs.2 b hb).trans z) he new
theorem dk_new {P : Program} {w : World} {H' : Hp} {h' : Heap} {kvs : List (Key × V)} {vs : List (Key × Value)} (z : kvs.length ≤ sizeLine) (hd : (a == sysModules) = false) (rel : KV kvs vs) (dd : h'.DictOf (mixKind P w) a vs) :
    ObjOk P w H' h' a (.dK kvs) := ⟨z, hd, vs, rel, dd⟩
theorem d_setItem {H' : Hp} {Q : Unit → Shared → Prop} (hu : A.units + 1 < cLine) (I : Inv X pins σ H s) (g : DPut H a y v H') (ry : RelV y u) (rv : RelV v r) (h : ∀ s', Inv X pins σ H' s' → Q () s') :
    wpAny (model X.prog X.w) A (setItem (.ref a) u r) Q E s := by
  rcases g with ⟨kvs, k, e, ey, l, eH⟩ | ⟨kvs, k, b, e, ey, eb, l, eH⟩
  · subst ey eH
    obtain ⟨z, hd, vs, rel, dd⟩ := dk_of I.hok e
    have hz : vs.length ≤ sizeLine := by rw [← rel.length]; exact z
    have hl : (putK kvs k v).length ≤ sizeLine := by have := length_putK kvs k v; omega
    refine wpAny_setItem_pairs (hsz := hz) (kV_is ry) dd fun h' dd' hs => h _ ?_
    have he : ∃ q, h'.get? a = some q := let ⟨q, _, _, hq, _⟩ := dd'; ⟨q, hq⟩
    exact d_write I (by rw [e]; exact True.intro) hs he (dk_new hl hd (rel.put k rv) dd')
  · subst ey eH
    cases (show u = Value.ref b from ry)
    obtain ⟨z, hd, xs, rel, dd⟩ := dt_of I.hok e
    have hz : xs.length ≤ sizeLine := by rw [← Paired.length rel]; exact z
    have hl : (putK kvs k v).length ≤ sizeLine := by have := length_putK kvs k v; omega
    refine wpAny_setItem_heap (hsz := hz) (tupleKind_room_in1 hu) (key_of I.hok eb) dd fun h' dd' hs => h _ ?_
    obtain ⟨q, es, ep, hq, h2, h3, h4, _, h5⟩ := dd'
    refine d_write I (by rw [e]; exact True.intro) hs ⟨q, hq⟩ ⟨hl, hd, _, (rel.put k eb rv).keeps fun c ys ec => ?_, q, es, ep, hq, h2, h3, h4, h5⟩
    rw [upd_ne (ne_of ec e (fun z => nomatch z))]
    exact ec
end

section
variable {X : Cx} {pins : List (Addr × Obj)} {σ : St} {H : Hp} {s : Shared} {a : Addr} {kvs : List (Key × V)} {k : Key} {u : Value} {A : Around} {E : Value → Shared → Prop}
theorem d_delItem {Q : Unit → Shared → Prop} (I : Inv X pins σ H s) (e : H a = some (.dK kvs)) (ry : RelV (kV k) u) (l : (valV kvs k).isSome = true) (h : ∀ s', Inv X pins σ (upd H a (.dK (dropK kvs k))) s' → Q () s') :
    wpAny (model X.prog X.w) A (delItem (.ref a) u) Q E s := by
  obtain ⟨z, hd, vs, rel, dd⟩ := dk_of I.hok e
  refine wpAny_delItem_slot dd.typeIs (by decide) PySem.F.slot_dict_delitem
    (call_meetsIn PySem.F.slot_dict_delitem dd.typeIs PySem.F.entry_dict_delitem (PySem.F.args_dict_delitem_2 _ _) (meets_dict_delitem_pairs (mixKind X.prog X.w) a (kV_is ry)) ⟨vs, dd, by rw [← rel.length]; exact z, by rw [← (rel.val k).isSome_eq]; exact l, fun h' dd' hs => h _ ?_⟩)
  have he : ∃ q, h'.get? a = some q := let ⟨q, _, _, hq, _⟩ := dd'; ⟨q, hq⟩
  exact d_write I (by rw [e]; exact True.intro) hs he (dk_new (Nat.le_trans (dropK_le kvs k) z) hd (rel.drop k) dd')
theorem d_pop {v : V} {more : List Value} {Q : Value → Shared → Prop} (I : Inv X pins σ H s) (e : H a = some (.dK kvs)) (ry : RelV (kV k) u) (l : valV kvs k = some v) (hm : more = [] ∨ ∃ x, more = [x])
    (h : ∀ w' s', Inv X pins σ (upd H a (.dK (dropK kvs k))) s' → RelV v w' → Q w' s') : wpAny (model X.prog X.w) A (call (.builtin "dict.pop") (.ref a :: u :: more)) Q E s := by
  obtain ⟨z, hd, vs, rel, dd⟩ := dk_of I.hok e
  obtain ⟨w', hw, rw'⟩ := RelO.some_of (v := v) (o := valueAt vs k) (by rw [← l]; exact rel.val k)
  have hp : (keyPart u).isSome = true := by
    cases k with
    | inl i => obtain ⟨t, q⟩ := (show ∃ t, u = Value.int i t from ry); subst q; rfl
    | inr x => obtain ⟨t, q⟩ := (show ∃ t, u = Value.str x t from ry); subst q; rfl
  have ha : argsOk "dict.pop" ⟨.ref a :: u :: more, []⟩ := by
    rcases hm with q | ⟨x, q⟩
    · subst q; exact PySem.F.args_dict_pop_2 _ _
    · subst q; exact PySem.F.args_dict_pop_3 _ _ _
  refine call_meetsIn PySem.F.slot_dict_pop dd.typeIs PySem.F.entry_dict_pop ha (meets_dict_pop_there (mixKind X.prog X.w) a (kV_is ry) more hm hp)
    ⟨vs, w', dd, by rw [← rel.length]; exact z, hw, fun h' dd' hs => h w' _ ?_ rw'⟩
  have he : ∃ q, h'.get? a = some q := let ⟨q, _, _, hq, _⟩ := dd'; ⟨q, hq⟩
  exact d_write I (by rw [e]; exact True.intro) hs he (dk_new (Nat.le_trans (dropK_le kvs k) z) hd (rel.drop k) dd')
theorem d_len {Q : Value → Shared → Prop} (I : Inv X pins σ H s) (e : Rd H a (.dK kvs)) (h : ∀ t s', Inv X pins σ H s' → Q (.int kvs.length t) s') : wpAny (model X.prog X.w) A (call (.builtin "len") [.ref a]) Q E s := by
  obtain ⟨z, hd, vs, rel, dd⟩ := dk_rd I.hok e
  refine call_len_dict hd dd (by rw [← rel.length]; rw [sizeLine_eq] at z; omega) ?_
  rw [← rel.length]
  exact h _ _ (I.tok _)
end


/-- the element of a subscription, not a slice -/
def NoSl (i : Expr) : Prop := ∀ ov iv, subscripted i false ov iv = operate [ov, iv] (getItem ov iv)
theorem subD_of {prog : Program} {w : World} {A : Around} {E : Value → Shared → Prop} {s : Shared} {env : Env} {value slice : Expr} {pos : Pos} {T id : String} {Q : Value → Shared → Prop}
    (hl : typeLookup (.type T) "__getitem__" = pure (some (.builtin id))) (hs : NoSl slice)
    (h : wpAny (model prog w) A (eval value env) (fun o s₁ => wpAny (model prog w) A (eval slice env) (fun i s₂ => s₂.TypeIs o T ∧ wpAny (model prog w) A (getItem o i) Q E s₂) E s₁) E s) :
    wpAny (model prog w) A (eval (.Subscript value slice pos) env) Q E s := by
  refine Subscript_ (wpAny_mono h (fun o s₁ h₁ => wpAny_mono h₁ (fun i s₂ h₂ => ?_) fun _ _ x => x) fun _ _ x => x)
  obtain ⟨hT, h₂⟩ := h₂
  unfold subscriptTail
  refine wpAny_bind ?_
  rw [getitemInPython_of_ne hT.not_modules]
  refine wpAny_bind (wpAny_specialOf hT hl ?_)
  have fin : wpAny (model prog w) A (subscripted slice false o i) (fun r s₃ => wpAny (model prog w) A (letTemporaryGo value o r >>= fun _ => pure r) Q E s₃) E s₂ := by
    rw [hs o i]
    exact wpAny_operating (wpAny_mono h₂ (fun r s₃ h₃ => wpAny_bind (wpAny_letTemporaryGo (wpAny_pure h₃))) fun _ _ x => x)
  first
    | exact wpAny_pure (wpAny_bind fin)
    | exact wpAny_bind (wpAny_pure (wpAny_bind fin))
    | exact wpAny_bind fin

theorem dict_typeIs {X : Cx} {pins : List (Addr × Obj)} {σ : St} {H : Hp} {s : Shared} {a : Addr} {y : V} {o : Option V} (I : Inv X pins σ H s) (g : DGet H a y o) : s.TypeIs (.ref a) "dict" := by
  rcases g with ⟨kvs, k, e, _, _⟩ | ⟨kvs, k, b, e, _, _, _⟩
  · obtain ⟨_, _, vs, _, dd⟩ := dk_rd I.hok e
    exact dd.typeIs
  · obtain ⟨_, _, xs, _, dd⟩ := dt_rd I.hok e
    exact dd.typeIs
section
variable {X : Cx} {o i e value : Expr} {pos pos' tpos : Pos} {td ty tv : TE}
end


theorem dk_empty {P : Program} {w : World} {H : Hp} (h : Heap) (hb : sysModules < h.objs.size) : ObjOk P w H (h.push { cls := .type "dict", data := .dict #[] }) h.objs.size (.dK []) :=
  ⟨Nat.zero_le _, beq_eq_false_iff_ne.mpr (Ne.symm (Nat.ne_of_lt hb)), [], .nil, Heap.DictOf.new h⟩
def tDNewK : TE := fun _ H Q => ∀ p, H p = none → Q (.ref p) (upd H p (.dK []))
section
variable {X : Cx} {pos : Pos}
theorem pe_dnewK : PE X (.Dict [] [] pos) tDNewK := fun pins s σ H Q I h =>
  wpAny_Dict_empty ⟨.ref s.heap.objs.size, _, I.laid (a := s.heap.objs.size) (o := .dK []) (t' := s.toks) (fun _ _ q => Heap.get?_push_of_some _ q) (Nat.le_refl _) (dk_empty s.heap I.big), rfl, h _ (I.hok.fresh (Nat.le_refl _))⟩
end

def tPairs : List (TE × TE) → St → Hp → (List (V × V) → Hp → Prop) → Prop
  | [], _, H, Q => Q [] H
  | (tk, tv) :: r, σ, H, Q => tk σ H fun x H1 => tv σ H1 fun y H2 => tPairs r σ H2 fun ps H3 => Q ((x, y) :: ps) H3
abbrev VV : List (V × V) → List (Value × Value) → Prop := Paired fun p q => RelV p.1 q.1 ∧ RelV p.2 q.2
def PPs (X : Cx) (pos : Pos) (keys : List (Option Expr)) (values : List Expr) (trs : List (TE × TE)) : Prop :=
  ∀ (pins : List (Addr × Obj)) (s : Shared) (σ : St) (H : Hp) (Q : List (V × V) → Hp → Prop), Inv X pins σ H s → tPairs trs σ H Q →
    wpAny (model X.prog X.w) X.A (evalPairs (pairTrees keys values X.env pos)) (fun vs s' => ∃ ps H', Inv X pins σ H' s' ∧ VV ps vs ∧ Q ps H') X.xe s
theorem pps_nil {X : Cx} {pos : Pos} : PPs X pos [] [] [] := fun pins s σ H Q I h => pairTrees_nil_walk ⟨[], H, I, .nil, h⟩
theorem pps_cons {X : Cx} {pos : Pos} {k v : Expr} {ks : List (Option Expr)} {vs : List Expr} {tk tv : TE} {trs : List (TE × TE)} (hk : PE X k tk) (hv : PE X v tv) (hr : PPs X pos ks vs trs) :
    PPs X pos (some k :: ks) (v :: vs) ((tk, tv) :: trs) := fun pins s σ H Q I h =>
  pairTrees_cons_walk (thn (hk pins s σ H _ I h) fun u s1 ⟨x, H1, I1, rx, q1⟩ => thn (hv pins s1 σ H1 _ I1 q1) fun w2 s2 ⟨y, H2, I2, ry, q2⟩ =>
    thn (hr pins s2 σ H2 _ I2 q2) fun ws s3 ⟨ps, H3, I3, rel, q3⟩ => ⟨(x, y) :: ps, H3, I3, .cons ⟨rx, ry⟩ rel, q3⟩)

def mergeK (kvs more : List (Key × V)) : List (Key × V) := more.foldl (fun acc kv => putK acc kv.1 kv.2) kvs
theorem KV.merge : ∀ {more : List (Key × V)} {rs : List (Key × Value)} {kvs : List (Key × V)} {vs : List (Key × Value)}, KV more rs → KV kvs vs → KV (mergeK kvs more) (merged vs rs) := by
  intro more rs kvs vs r
  unfold KV at r
  induction r generalizing kvs vs with
  | nil => intro q; exact q
  | @cons p q ps qs h t ih =>
    intro r0
    have e : KV (putK kvs p.1 p.2) (stored vs q.1 q.2) := by
      have := r0.put p.1 h.2
      rw [← h.1]; exact this
    exact ih e
theorem length_mergeK : ∀ (more kvs : List (Key × V)), (mergeK kvs more).length ≤ kvs.length + more.length
  | [], kvs => by show kvs.length ≤ kvs.length + 0; omega
  | p :: r, kvs => by
    have h1 := length_mergeK r (putK kvs p.1 p.2)
    have h2 := length_putK kvs p.1 p.2
    show (mergeK (putK kvs p.1 p.2) r).length ≤ _
    rw [List.length_cons]; omega
theorem carries_of {P : Program} {w : World} : ∀ {kvs : List (Key × V)} {ws : List (Value × Value)}, VV (kvs.map fun kv => (kV kv.1, kv.2)) ws → ∃ rs, Carries (mixKind P w) ws rs ∧ KV kvs rs
  | [], _, r => by rw [List.map_nil] at r; cases r; exact ⟨[], True.intro, .nil⟩
  | p :: kvs, _, r => by
    rw [List.map_cons] at r
    cases r with
    | @cons a b as bs h t =>
      obtain ⟨rs, c, q⟩ := carries_of (P := P) (w := w) t
      obtain ⟨b1, b2⟩ := b
      exact ⟨(p.1, b2) :: rs, ⟨kV_is h.1, rfl, c⟩, .cons ⟨rfl, h.2⟩ q⟩
def tDisp (trs : List (TE × TE)) : TE := fun σ H Q => ∀ p, H p = none → tPairs trs σ (upd H p (.dK [])) fun ps H2 => H2 p = some (.dK []) ∧ ∃ kvs : List (Key × V), ps = kvs.map (fun kv => (kV kv.1, kv.2)) ∧ kvs.length ≤ 15 ∧ Q (.ref p) (upd H2 p (.dK (mergeK [] kvs)))
theorem pe_disp {X : Cx} {pos : Pos} {keys : List (Option Expr)} {values : List Expr} {trs : List (TE × TE)} (h : PPs X pos keys values trs) (hall : keys.all (·.isSome) = true) (hl : keys.length = values.length) (h0 : keys ≠ [])
    (h15 : keys.length ≤ 15) : PE X (.Dict keys values pos) (tDisp trs) := by
  intro pins s σ H Q I q
  have hn := I.hok.fresh (Nat.le_refl s.heap.objs.size)
  have I1 := I.laid (a := s.heap.objs.size) (o := .dK []) (h' := s.heap.push { cls := .type "dict", data := .dict #[] }) (t' := s.toks) (fun _ _ q => Heap.get?_push_of_some _ q) (Nat.le_refl _) (dk_empty s.heap I.big)
  refine wpAny_Dict_walk (knd := mixKind X.prog X.w) hall hl h0 h15 (thn (h pins _ σ _ _ I1 (q _ hn)) fun ws s2 ⟨ps, H2, I2, rel, e, kvs, ep, lk, q2⟩ => ?_)
  subst ep
  obtain ⟨rs, c, rk⟩ := carries_of (P := X.prog) (w := X.w) rel
  obtain ⟨z, hd, vs0, r0, dd⟩ := dk_of I2.hok e
  cases r0
  refine ⟨rs, c, dd, fun h' dd' hs => ⟨.ref s.heap.objs.size, _, ?_, rfl, q2⟩⟩
  have hz : (mergeK [] kvs).length ≤ sizeLine := by
    have h1 := length_mergeK kvs []
    rw [List.length_nil] at h1
    rw [sizeLine_eq]; omega
  have he : ∃ q, h'.get? s.heap.objs.size = some q := let ⟨q, _, _, hq, _⟩ := dd'; ⟨q, hq⟩
  exact d_write I2 (by rw [e]; exact True.intro) hs he (dk_new hz hd (rk.merge .nil) dd')


/-- a method call o.m(e) of a built-in, with one argument: what must be seen of the text -/
structure M1 (X : Cx) (o : Expr) (m : Str) (apos : Pos) (e : Expr) (cpos : Pos) : Prop where
  base : attributeBase o m X.env (eval o X.env) = eval o X.env
  few : ((backTo cpos (starEach [e] X.env)).all (fun x => !x.1) && (backToKw cpos (keywordEach [] X.env)).all (fun x => x.1.isSome)
    && decide (([e] : List Expr).length + ([] : List Keyword).length + (if ([] : List Keyword).isEmpty then 0 else 1) < 30)) = true
  line : (apos.endLine == cpos.line) = true
  trees : backTo cpos (starEach [e] X.env) = [(false, eval e X.env)]
def IsD (H : Hp) (a : Addr) : Prop := (∃ kvs, Rd H a (.dK kvs)) ∨ ∃ kvs, Rd H a (.dT kvs)
theorem isD_at {X : Cx} {pins : List (Addr × Obj)} {σ : St} {H : Hp} {s : Shared} {a : Addr} (I : Inv X pins σ H s) (d : IsD H a) :
    s.TypeIs (.ref a) "dict" ∧ (∀ b, Value.ref a = .ref b → ∃ ob, s.heap.get? b = some ob ∧ ob.dict = none) ∧ (a == sysModules) = false := by
  rcases d with ⟨kvs, e⟩ | ⟨kvs, e⟩
  · obtain ⟨_, hd, vs, _, dd⟩ := dk_rd I.hok e
    refine ⟨dd.typeIs, fun b q => ?_, hd⟩
    cases q
    obtain ⟨ob, _, _, h1, h2, _⟩ := dd
    exact ⟨ob, h1, h2.2.1⟩
  · obtain ⟨_, hd, xs, _, dd⟩ := dt_rd I.hok e
    refine ⟨dd.typeIs, fun b q => ?_, hd⟩
    cases q
    obtain ⟨ob, _, _, h1, h2, _⟩ := dd
    exact ⟨ob, h1, h2.2.1⟩

section
variable {X : Cx} {pins : List (Addr × Obj)} {σ : St} {H : Hp} {s : Shared} {a : Addr} {y d : V} {u r : Value} {o : Option V} {A : Around} {E : Value → Shared → Prop}
end

section
variable {X : Cx} {o e f : Expr} {apos cpos : Pos} {td ty tx : TE}
end

section
variable {X : Cx} {pins : List (Addr × Obj)} {σ : St} {H : Hp} {s : Shared} {a : Addr} {kvs : List (Key × V)} {A : Around} {E : Value → Shared → Prop}
end


section
variable {X : Cx} {pins : List (Addr × Obj)} {σ : St} {H : Hp} {s : Shared} {a : Addr} {y : V} {u : Value} {A : Around} {E : Value → Shared → Prop}
end
end L2

namespace Att
open PySem PySem.W PySem.Calls PyProof.Rows

section
variable {prog : Program} {w : World} {A : Around} {E : Value → Shared → Prop} {s : Shared} {K : Frag}

end
end Att

namespace L2
open PySem PySem.Spec PyProof.Rows

end L2

namespace L2
open PySem PySem.Spec PyProof.Rows

end L2

namespace L2
open PySem PySem.Spec PyProof.Rows

section
variable {P : Program} {w : World} {K : PySem.W.Frag} {mg : Str → Option Value} {base : Heap}
end
section
variable {X : Cx}
theorem call_lenD : CallR X (.builtin "len") (fun xs H Q => ∃ a kvs, xs = [V.ref a] ∧ H a = some (.dK kvs) ∧ Q (.int kvs.length) H) := by
  intro pins s σ H xs us Q I r h
  obtain ⟨a, kvs, rfl, ha, q⟩ := h
  obtain ⟨u, rfl, ru⟩ := vals1 r
  cases ru
  exact d_len I (.inl ha) fun t s' I' => ⟨.int kvs.length, H, I', ⟨t, rfl⟩, q⟩
end

section
variable {κ : Type} [DecidableEq κ]
end
end L2

set_option Elab.async false
set_option linter.all false
set_option maxRecDepth 100000
namespace LX
open PySem PySem.Spec PyProof.Rows L2

structure FlyAt (h : Heap) (e T : Addr) (cls fl : Value) : Prop where
  ne : T ≠ e
  ex : ∃ (oe : Obj) (vs : Array Value) (a0 : Value), h.get? e = some oe ∧ oe.cls = cls ∧ oe.data = .fields vs ∧ vs[0]? = some a0 ∧ vs[1]? = some (.ref T)
  tr : ∃ (oT : Obj) (ts : Array Value), h.get? T = some oT ∧ oT.data = .fields ts ∧ ts[3]? = some fl
abbrev Fly (h : Heap) (e T : Addr) (cls : Value) : Prop := FlyAt h e T cls .none

theorem FlyAt.of {h B : Heap} {e : Addr} {cls a0 fl : Value} (x : h.TracedAtW B e cls a0 fl) : ∃ T, FlyAt h e T cls fl ∧ B.get? T = none := by
  obtain ⟨oe, vs, T, oT, ts, he, ⟨hc, h0⟩, hd, h1, hn, hne, hT, hdT, h3⟩ := x
  exact ⟨T, ⟨hne, ⟨oe, vs, a0, he, hc, hd, h0, h1⟩, ⟨oT, ts, hT, hdT, h3⟩⟩, hn⟩
theorem FlyAt.to {h B : Heap} {e T : Addr} {cls fl : Value} (x : FlyAt h e T cls fl) (hn : B.get? T = none) : ∃ a0, h.TracedAtW B e cls a0 fl := by
  obtain ⟨hne, ⟨oe, vs, a0, he, hc, hd, h0, h1⟩, ⟨oT, ts, hT, hdT, h3⟩⟩ := x
  exact ⟨a0, oe, vs, T, oT, ts, he, ⟨hc, h0⟩, hd, h1, hn, hne, hT, hdT, h3⟩

def CXe (P : Program) (w : World) : CXT := fun outer H s E e s' => ∃ (ea T : Addr) (cls : Value) (H' : Hp), e = .ref ea ∧ s'.os = s.os ∧ AllBare s'.gens ∧ Un (frs outer) [] H H' s.heap s'.heap ∧ HOk P w H' s'.heap ∧
  s.heap.get? ea = none ∧ s.heap.get? T = none ∧ H' ea = none ∧ H' T = none ∧ Fly s'.heap ea T cls ∧ E cls none H'

theorem there {P : Program} {w : World} {H : Hp} {h : Heap} {a : Addr} {o : HO} (x : ObjOk P w H h a o) : ∃ u, h.get? a = some u := by
  cases o with
  | lst xs => obtain ⟨_, _, _, _, e⟩ := x; exact ⟨_, e⟩
  | tup xs => obtain ⟨_, _, _, o, e, _⟩ := x; exact ⟨_, e⟩
  | dK kvs => obtain ⟨_, _, _, _, o, _, _, e, _⟩ := x; exact ⟨_, e⟩
  | dT kvs => obtain ⟨_, _, _, _, o, _, _, e, _⟩ := x; exact ⟨_, e⟩
  | set S n => obtain ⟨o, _, _, _, e, _⟩ := x; exact ⟨_, e⟩
  | ins C dx fs => obtain ⟨_, _, _, e, _⟩ := x; exact ⟨_, e⟩
  | own y => exact x
  | xd fs => obtain ⟨_, ⟨_, _, _, e, _⟩, _⟩ := x; exact ⟨_, e⟩
  | rng lo hi => obtain ⟨_, _, _, e⟩ := x; exact ⟨_, e⟩
  | frz ob u => obtain ⟨e, _⟩ := x; exact ⟨_, e⟩
  | tbl ps => exact ⟨_, (show h.get? a = some _ from x)⟩
  | met f y => exact ⟨_, (show h.get? a = some _ from x)⟩
  | ext φ => obtain ⟨_, e, _⟩ := x; exact e

section
variable {X : Cx} {pins : List (Addr × Obj)} {σ : L2.St} {H : Hp} {s : Shared}

structure Loose (X : Cx) (pins : List (Addr × Obj)) (H : Hp) (a : Addr) : Prop where
  new : X.s₀.heap.get? a = none
  free : H a = none
  loc : a ≠ X.env.locals
  cell : ∀ x c, X.env.cells.lookup x = some c → c ≠ a
  pin : ∀ p ∈ X.pn ++ pins, p.1 ≠ a

theorem loose_of (I : Inv X pins σ H s) (hex : X.ex = []) {a : Addr} (h : s.heap.get? a = none) : Loose X pins H a where
  new := by
    cases q : X.s₀.heap.get? a with
    | none => rfl
    | some o =>
      obtain ⟨o', e⟩ := I.base.there a o q (by rw [hex]; exact fun z => nomatch z)
      rw [h] at e; cases e
  free := by
    cases q : H a with
    | none => rfl
    | some u =>
      obtain ⟨o, e⟩ := there (I.hok a u q)
      rw [h] at e; cases e
  loc := fun z => by
    obtain ⟨m, ⟨o, es, ep, ho, _⟩, _⟩ := I.loc
    rw [z, ho] at h; cases h
  cell := fun x c e z => by
    obtain ⟨v, o, ho, _⟩ := I.cell x c e
    rw [z, h] at ho; cases ho
  pin := fun p hp z => by
    have e := (I.pin p hp).1
    rw [z, h] at e; cases e

theorem Loose.mono {H' : Hp} {a : Addr} (l : Loose X pins H a) (h : H' a = none) : Loose X pins H' a := ⟨l.new, h, l.loc, l.cell, l.pin⟩

theorem left_ok {h' : Heap} {xs : List Addr} (I : Inv X pins σ H s) (hex : X.ex = [])
    (h1 : ∀ a ∈ xs, X.s₀.heap.get? a = none ∧ H a = none)
    (kB : ∀ b o, s.heap.get? b = some o → b ∉ xs ++ frs X.stack → h'.get? b = some o)
    (kS : ∀ b o, s.heap.get? b = some o → (∀ vs, o.data ≠ .fields vs) → ∃ sl, h'.get? b = some { o with slots := sl }) :
    Un X.fs [] X.H₀ H X.s₀.heap h' ∧ HOk X.prog X.w H h' := by
  have base : Un X.fs [] X.H₀ H X.s₀.heap s.heap := by have := I.base; rw [hex] at this; exact this
  have nx : ∀ b o, X.s₀.heap.get? b = some o → b ∉ xs := fun b o e hb => by
    have := (h1 b hb).1; rw [this] at e; cases e
  have nL : ∀ b o, X.s₀.heap.get? b = some o → b ≠ X.env.locals := fun b o e => Nat.ne_of_lt (Nat.lt_of_lt_of_le (Heap.lt_size e) I.ok.above)
  have ns : ∀ b o, X.s₀.heap.get? b = some o → b ∉ X.fs → b ∉ xs ++ frs X.stack := fun b o e hb hm =>
    (List.mem_append.mp hm).elim (nx b o e) fun z => (List.mem_cons.mp (I.stkSub b z)).elim (nL b o e) hb
  refine ⟨⟨fun b o e n hb hx => kB b o (base.keep b o e n hb hx) (ns b o e hb), fun b o e n hb hx => ?_, base.free, fun b o e hx => ?_, base.tups, base.frzs, base.tbls⟩, fun a o e => ?_⟩
  · obtain ⟨sl, e1⟩ := base.slot b o e n hb hx
    obtain ⟨_, o2, ho2, hnf⟩ := I.funs.mem hb
    rw [e1] at ho2; cases ho2
    obtain ⟨sl', e2⟩ := kS b _ e1 hnf
    exact ⟨sl', e2⟩
  · obtain ⟨o1, e1⟩ := base.there b o e hx
    by_cases hb : b ∈ X.fs
    · obtain ⟨_, o2, ho2, hnf⟩ := I.funs.mem hb
      obtain ⟨sl', e2⟩ := kS b o2 ho2 hnf
      exact ⟨_, e2⟩
    · exact ⟨o1, kB b o1 e1 (ns b o e hb)⟩
  · refine (I.hok a o e).stay (fun b u hb q => kB b u q fun hm => ?_) (fun _ q => q) fun _ _ q => q
    have tb : ∃ v, H b = some v := by
      rcases hb with z | z
      · exact ⟨o, z ▸ e⟩
      · exact ⟨_, z⟩
    obtain ⟨v, hv⟩ := tb
    rcases List.mem_append.mp hm with z | z
    · have := (h1 b z).2; rw [hv] at this; cases this
    · have := I.stkFree b z; rw [hv] at this; cases this

theorem held_ok {h' : Heap} {xs : List Addr} (I : Inv X pins σ H s) (hex : X.ex = []) (h1 : ∀ a ∈ xs, Loose X pins H a)
    (kB : ∀ b o, s.heap.get? b = some o → b ∉ xs ++ frs X.stack → h'.get? b = some o)
    (kS : ∀ b o, s.heap.get? b = some o → (∀ vs, o.data ≠ .fields vs) → ∃ sl, h'.get? b = some { o with slots := sl }) : Inv X pins σ H { s with heap := h' } := by
  obtain ⟨un, hok⟩ := left_ok I hex (fun a ha => ⟨(h1 a ha).new, (h1 a ha).free⟩) kB kS
  have cellK : ∀ c v, s.heap.IsCell c v → h'.IsCell c v := fun c v ⟨o, ho, hd⟩ => by
    obtain ⟨sl, e⟩ := kS c o ho fun vs z => by rw [hd] at z; cases z
    exact ⟨_, e, hd⟩
  refine ⟨I.ok, I.os, I.bare, by rw [hex]; exact un, ?_, fun x c e => ?_, I.free, I.freeC, fun p hp => ?_, hok, I.len⟩
  · obtain ⟨m, ⟨o, es, ep, ho, hd, r⟩, hl⟩ := I.loc
    obtain ⟨sl, e⟩ := kS _ o ho fun vs z => by rw [hd] at z; cases z
    refine ⟨m, ⟨_, es, ep, e, hd, r⟩, fun i x v e1 e2 e3 => ?_⟩
    obtain ⟨u, ru, l⟩ := hl i x v e1 e2 e3
    refine ⟨u, ru, ?_⟩
    rcases l with l | ⟨k, c, e, z⟩
    · exact .inl l
    · exact .inr ⟨k, c, e, cellK c _ z⟩
  · obtain ⟨v, z⟩ := I.cell x c e
    exact ⟨v, cellK c v z⟩
  · obtain ⟨e, n, ne, nf, d⟩ := I.pin p hp
    refine ⟨kB p.1 p.2 e fun hm => ?_, n, ne, nf, d⟩
    rcases List.mem_append.mp hm with z | z
    · exact (h1 _ z).pin p hp rfl
    · exact (List.mem_cons.mp (I.stkSub _ z)).elim ne nf

theorem newT {h' : Heap} {xs : List Addr} {T : Addr} {oT : Obj} {ts : Array Value} (I : Inv X pins σ H s) (hex : X.ex = []) (h1 : ∀ a ∈ xs, Loose X pins H a)
    (kS : ∀ b o, s.heap.get? b = some o → (∀ vs, o.data ≠ .fields vs) → ∃ sl, h'.get? b = some { o with slots := sl })
    (nT : (PySem.W.hideAll s.heap (xs ++ frs X.stack)).get? T = none) (hT : h'.get? T = some oT) (hd : oT.data = .fields ts) : Loose X pins H T := by
  cases q : s.heap.get? T with
  | none => exact loose_of I hex q
  | some o =>
    have hm : T ∈ xs ++ frs X.stack := Classical.byContradiction fun hm => by rw [PySem.W.hideAll_get _ q hm] at nT; cases nT
    rcases List.mem_append.mp hm with z | z
    · exact h1 _ z
    · obtain ⟨_, o2, ho2, hnf⟩ := I.stack.mem z
      obtain ⟨sl, e3⟩ := kS T o2 ho2 hnf
      rw [e3] at hT
      cases hT
      exact absurd hd (hnf ts)

theorem stack_hide (I : Inv X pins σ H s) (xs : List Addr) : s.heap.FunFrames (PySem.W.hideAll s.heap (xs ++ frs X.stack)) X.stack :=
  PySem.W.funFrames_hide I.stack fun env he a ha => List.mem_append_right _ (List.mem_filterMap.mpr ⟨env, he, ha⟩)

structure Own (X : Cx) : Prop where
  ex : X.ex = []
  stk : X.stack = X.env :: X.outer
  fr : X.env.frame = some X.env.locals

inductive Exc (X : Cx) (pins : List (Addr × Obj)) (H : Hp) (h : Heap) (ea : Addr) (cls : Value) : Prop where
  | new (lo : Loose X pins H ea) (oe : Obj) (vs : Array Value) (a0 : Value) (he : h.get? ea = some oe) (hc : oe.cls = cls) (hd : oe.data = .fields vs) (h0 : vs[0]? = some a0) (h1 : vs[1]? = some .none)
  | fly (lo : Loose X pins H ea) (T : Addr) (lT : Loose X pins H T) (f : FlyAt h ea T cls .none)
  | held (lo : Loose X pins H ea) (T : Addr) (lT : Loose X pins H T) (f : FlyAt h ea T cls (rawInt X.env.locals))
theorem Exc.lo {h : Heap} {ea : Addr} {cls : Value} (x : Exc X pins H h ea cls) : Loose X pins H ea := by cases x <;> assumption

theorem two {a b c : Addr} (h : c ∈ [a, b]) : c = a ∨ c = b := by simpa using h
theorem loose2 {ea T : Addr} (l1 : Loose X pins H ea) (l2 : Loose X pins H T) : ∀ a ∈ [ea, T], Loose X pins H a := fun a ha => by
  rcases two ha with rfl | rfl
  · exact l1
  · exact l2
theorem loose1 {ea : Addr} (l1 : Loose X pins H ea) : ∀ a ∈ [ea], Loose X pins H a := fun a ha => by
  have e : a = ea := by simpa using ha
  subst e; exact l1

theorem note {M : Model} {E : Value → Shared → Prop} {Q : Unit → Shared → Prop} {ea : Addr} {cls : Value} (O : Own X) (I : Inv X pins σ H s) (x : Exc X pins H s.heap ea cls)
    (k : ∀ h' T, Inv X pins σ H { s with heap := h' } → Loose X pins H T → FlyAt h' ea T cls (rawInt X.env.locals) → Q () { s with heap := h' }) : wpAny M X.A (noteFrame (.ref ea) X.env) Q E s := by
  have fr : X.A.frames = some (X.env :: X.outer) := by rw [← O.stk]; exact I.ok.frames
  cases x with
  | new lo oe vs a0 he hc hd h0 h1 =>
    unfold noteFrame
    simp only [O.fr]
    refine wpAny_bind (wpAny_field he hd h1 ?_)
    rw [if_neg (by decide)]
    have F := stack_hide I [ea]
    have F' := F
    rw [O.stk] at F
    refine wpAny_entryW fr F O.fr he (fun b o q => PySem.W.of_hideAll _ q) (PySem.W.hideAll_none _ (by simp)) hd (Array.getElem?_eq_some_iff.mp h1).1 h0 fun h' hN => ?_
    obtain ⟨k1, k2, k3, k4⟩ := hN
    rw [O.stk.symm] at k1 k3
    rw [hc] at k3
    obtain ⟨T, f, nT⟩ := FlyAt.of k3
    obtain ⟨oT, ts, hT, hdT, _⟩ := f.tr
    exact k h' T (held_ok (xs := [ea]) I O.ex (loose1 lo) (fun b o e hb => k1 b o (PySem.W.hideAll_get _ e hb)) k4) (newT (xs := [ea]) I O.ex (loose1 lo) k4 nT hT hdT) f
  | fly lo T lT f =>
    obtain ⟨a0, tr⟩ := f.to (B := PySem.W.hideAll s.heap ([ea, T] ++ frs X.stack)) (PySem.W.hideAll_none _ (by simp))
    have F := stack_hide I [ea, T]
    rw [O.stk] at F tr
    refine wpAny_noteFrame_onW fr F O.fr tr (fun b o q => PySem.W.of_hideAll _ q) (PySem.W.hideAll_none _ (by simp)) fun h' hN => ?_
    obtain ⟨k1, k2, k3, k4⟩ := hN
    rw [O.stk.symm] at k1 k3
    obtain ⟨T', f', nT⟩ := FlyAt.of k3
    obtain ⟨oT, ts, hT, hdT, _⟩ := f'.tr
    exact k h' T' (held_ok (xs := [ea, T]) I O.ex (loose2 lo lT) (fun b o e hb => k1 b o (PySem.W.hideAll_get _ e hb)) k4) (newT (xs := [ea, T]) I O.ex (loose2 lo lT) k4 nT hT hdT) f'
  | held lo T lT f =>
    obtain ⟨a0, tr⟩ := f.to (B := PySem.W.hideAll s.heap ([ea, T] ++ frs X.stack)) (PySem.W.hideAll_none _ (by simp))
    exact wpAny_noteFrame_againW O.fr tr (k s.heap T I lT f)

theorem mark {M : Model} {A : Around} {E : Value → Shared → Prop} {Q : Unit → Shared → Prop} {ea T : Addr} {cls fl : Value} (fl' : Option Addr) (O : Own X) (I : Inv X pins σ H s) (lo : Loose X pins H ea) (lT : Loose X pins H T) (f : FlyAt s.heap ea T cls fl)
    (k : ∀ h', Inv X pins σ H { s with heap := h' } → FlyAt h' ea T cls (fl'.elim Value.none fun f => rawInt f) → Q () { s with heap := h' }) : wpAny M A (setFlight (.ref ea) fl') Q E s := by
  obtain ⟨hne, ⟨oe, vs, a0, he, hc, hd, h0, h1⟩, ⟨oT, ts, hT, hdT, h3⟩⟩ := f
  have hsz3 : 3 < ts.size := (Array.getElem?_eq_some_iff.mp h3).1
  have other : ∀ b, b ≠ T → (s.heap.update T (Obj.mapFields (·.setIfInBounds 3 (fl'.elim Value.none fun f => rawInt f)))).get? b = s.heap.get? b :=
    fun b hb => Heap.get?_update_other _ _ (Ne.symm hb)
  unfold setFlight
  refine wpAny_bind (wpAny_field he hd h1 ?_)
  rw [if_pos (show (Value.ref T != Value.none) = true from by simp)]
  refine wpAny_setField hT hdT hsz3 (k _ ?_ ?_)
  · refine held_ok (xs := [ea, T]) I O.ex (loose2 lo lT) (fun b o e hb => (other b fun z => hb (by simp [z])).trans e) fun b o e hnf => ⟨o.slots, (other b fun z => ?_).trans e⟩
    rw [z, hT] at e
    cases e
    exact hnf ts hdT
  · exact ⟨hne, ⟨oe, vs, a0, (other ea (Ne.symm hne)).trans he, hc, hd, h0, h1⟩, ⟨_, _, Heap.get?_update_self _ hT (Obj.isFreed_of_fields (Obj.data_mapFields hdT _)), Obj.data_mapFields hdT _, by simp [hsz3]⟩⟩

theorem leave {M : Model} {E' : Value → Shared → Prop} {ea : Addr} {cls : Value} {E : XK} (O : Own X) (I : Inv X pins σ H s) (x : Exc X pins H s.heap ea cls) (he : E cls none H) :
    wpAny M X.A (leaving X.env (.ref ea)) (fun _ s'' => CXe X.prog X.w X.outer X.H₀ X.s₀ E (.ref ea) s'') E' s := by
  unfold leaving
  refine wpAny_bind (note O I x fun h' T I' lT f => ?_)
  refine mark none O I' x.lo lT f fun h'' I'' f'' => ?_
  obtain ⟨un, hok⟩ := left_ok (xs := []) (h' := h'') I'' O.ex (fun _ z => nomatch z) (fun b o e _ => e) fun b o e _ => ⟨o.slots, e⟩
  exact ⟨ea, T, cls, H, rfl, I.os, I.bare, un, hok, x.lo.new, lT.new, x.lo.free, lT.free, f'', he⟩
end

def XE (X : Cx) (E : L2.St → XK) : Value → Shared → Prop := fun e s' => ∃ (ea : Addr) (cls : Value) (pins : List (Addr × Obj)) (σ : L2.St) (H : Hp), e = .ref ea ∧ Inv X pins σ H s' ∧ Exc X pins H s'.heap ea cls ∧ E σ cls none H
def wish (X : Cx) (xe : Value → Shared → Prop) : Cx := { X with xe := xe }
theorem ok_wish {X : Cx} {xe : Value → Shared → Prop} (o : X.Ok) : (wish X xe).Ok :=
  ⟨o.mod, o.kind, o.glob, o.blt, o.above, o.inj, o.has, o.cab, o.hd, o.frames, o.stk, o.exf, o.bs, o.bsz, o.noex, o.exfs, o.funs, o.frf⟩
theorem to_wish {X : Cx} {xe : Value → Shared → Prop} {pins : List (Addr × Obj)} {σ : L2.St} {H : Hp} {s : Shared} (I : Inv X pins σ H s) : Inv (wish X xe) pins σ H s :=
  ⟨ok_wish I.ok, I.os, I.bare, I.base, I.loc, I.cell, I.free, I.freeC, I.pin, I.hok, I.len⟩
theorem of_wish {X : Cx} {xe : Value → Shared → Prop} {pins : List (Addr × Obj)} {σ : L2.St} {H : Hp} {s : Shared} (I : Inv (wish X xe) pins σ H s) : Inv X pins σ H s :=
  have o := I.ok
  ⟨⟨o.mod, o.kind, o.glob, o.blt, o.above, o.inj, o.has, o.cab, o.hd, o.frames, o.stk, o.exf, o.bs, o.bsz, o.noex, o.exfs, o.funs, o.frf⟩, I.os, I.bare, I.base, I.loc, I.cell, I.free, I.freeC, I.pin, I.hok, I.len⟩
theorem pss_wish {X : Cx} {xe : Value → Shared → Prop} {b : List Stmt} {t : TS} (h : PSs (wish X xe) b t) (hx : ∀ e s, xe e s → X.xe e s) : PSs X b t := fun pins s σ H D I q =>
  wpAny_mono (h pins s σ H D (to_wish I) q) (fun f s' z => by
    cases f with
    | next => obtain ⟨σ', H', J, q⟩ := z; exact ⟨σ', H', of_wish J, q⟩
    | brk => obtain ⟨σ', H', J, q⟩ := z; exact ⟨σ', H', of_wish J, q⟩
    | cont => obtain ⟨σ', H', J, q⟩ := z; exact ⟨σ', H', of_wish J, q⟩
    | ret u => obtain ⟨v, σ', H', J, r, q⟩ := z; exact ⟨v, σ', H', of_wish J, r, q⟩) hx

def PassesX (CX : CXT) (X : Cx) (E : L2.St → XK) : Prop := ∀ (pins : List (Addr × Obj)) (σ : L2.St) (H : Hp) (s : Shared) (e : Value) (s' : Shared), Inv X pins σ H s → CX X.stack H s (E σ) e s' → X.xe e s'
def RaisesX (X : Cx) (E : L2.St → XK) : Prop := ∀ (pins : List (Addr × Obj)) (σ : L2.St) (H : Hp) (s : Shared) (h' : Heap) (ea : Addr) (cls : Value) (vs : List Value), Inv X pins σ H s → Heap.MadeExcOf s.heap h' ea cls vs → E σ cls none H → X.xe (.ref ea) { s with heap := h' }

section
variable {X : Cx} {E : L2.St → XK}
theorem passX (O : Own X) : PassesX (CXe X.prog X.w) (wish X (XE X E)) E := by
  intro pins σ H1 s1 e s2 I hx
  obtain ⟨ea, T, cls, H2, rfl, os, bare, un, hok, n1, n2, n3, n4, fl, he⟩ := hx
  have I1 := of_wish I
  have I2 := I1.call' (ch := []) os un hok bare (fun b z => nomatch z)
  exact ⟨ea, cls, pins, σ, H2, rfl, I2, .fly ((loose_of I1 O.ex n1).mono n3) T ((loose_of I1 O.ex n2).mono n4) fl, he⟩
theorem raiseX (O : Own X) : RaisesX (wish X (XE X E)) E := by
  intro pins σ H1 s1 h' ea cls vs I hx he
  obtain ⟨t, hea, hnt, htup⟩ := hx.there
  have I1 := of_wish I
  have I2 : Inv X pins σ H1 { s1 with heap := h' } := I1.kept (t' := s1.toks) hx.keeps
  exact ⟨ea, cls, pins, σ, H1, rfl, I2, .new (loose_of I1 O.ex hx.new) _ _ _ hea rfl rfl rfl rfl, he⟩
theorem ownX (O : Own X) {M : Model} : PassesOwn M X.A X.env (XE X E) := by
  rintro e s' ⟨ea, cls, pins, σ, H, rfl, I, x, he⟩
  refine note O I x fun h' T I' lT f => ?_
  obtain ⟨hne, ⟨oe, vs, a0, hoe, hc, hd, h0, h1⟩, tr⟩ := id f
  refine wpAny_bind (wpAny_field hoe hd h1 ?_)
  rw [if_neg (show ¬ ((Value.ref T == Value.none) = true) from by simp)]
  rw [O.fr]
  exact mark (some X.env.locals) O I' x.lo lT f fun h'' I'' f'' => ⟨ea, cls, pins, σ, H, rfl, I'', .held x.lo T lT f'', he⟩
end

section
variable {P : Program} {w : World} {K : PySem.W.Frag} {mg : Str → Option Value} {base : Heap} {N : List Str} {qual : Str} {scope : Scope} {f : Addr} {cd : Value} {A : Around} {outer : List Env} {s : Shared} {H : Hp} {E : XK}
theorem own_cx {CX : CXT} : Own (cxOf CX P w K mg base N qual scope f cd A outer s H E) := ⟨rfl, rfl, rfl⟩
theorem leave_cx : ∀ e s', XE (cxOf (CXe P w) P w K mg base N qual scope f cd A outer s H E) (fun _ => E) e s' → (cxOf (CXe P w) P w K mg base N qual scope f cd A outer s H E).xe e s' := by
  rintro e s' ⟨ea, cls, pins, σ, H1, rfl, I, x, he⟩
  exact leave own_cx I x he
end

open PySem.W in
theorem exc_of_in {K : Frag} {h₀ : Heap} {C : Addr} {bmB : List Value} {newId : String} (X : K.In h₀) (q : excIn K C bmB newId = true) :
    ∃ bm N nm qn bs hdct sn sub ab col dd k0 k1 k2 k3 k5 mN, h₀.get? C = some (excClassObj nm qn C N bs bm hdct sn sub ab col dd k0 k1 k2 k3 k5 newId) ∧ h₀.Ns N mN ∧ mN "__init__" = none ∧ OwnTail h₀ bmB bm := by
  unfold excIn at q
  split at q
  · rename_i dd cd sl ho
    split at q
    · rename_i C' bm k0 k1 k2 k3 n k5 hm hs
      simp only [Bool.and_eq_true, beq_iff_eq, Bool.not_eq_true'] at q
      obtain ⟨⟨⟨⟨⟨rfl, rfl⟩, hdel⟩, ht⟩, hok⟩, hni⟩ := q
      obtain ⟨nm, bs, mro, ns, qn, hd, sn, sub, ab, col, del⟩ := cd
      dsimp only at hm hdel hok hni
      subst hm hdel
      have hsl : sl = #[k0, k1, k2, k3, some (.builtin n), k5] := by
        obtain ⟨l⟩ := sl
        simp only at hs
        rw [hs]
      subst hsl
      exact ⟨bm, ns, nm, qn, bs, hd, sn, sub, ab, col, dd, k0, k1, k2, k3, k5, _, X _ _ ho, .of_isNs (isNs_of_in X hok), nsMap_none_of_in X hok hni, tail_of_in X ht⟩
    · cases q
  · cases q

section
variable {X : Cx} {x : Str} {np cpos pos : Pos} {e : Expr} {es : List Expr} {t : TA} {C : Addr} {B newId initId : String} {bm : List Value}
def tRaise (E : L2.St → XK) (C : Addr) (ta : TA) : TS := fun _ σ H => ta σ H fun vs H1 => vs.length ≤ sizeLine ∧ E σ (.ref C) none H1
theorem ps_raise {E : L2.St → XK} (R : RaisesX X E) (hc : X.calm = true) (hx : PySem.W.excIn X.K C bm newId = true) (FB : ExcBaseFacts B newId initId bm) (hg : Gl X x) (hm : X.mg x = some (.ref C)) (ha : PA X (e :: es) t) (hdb : (x == ("__debug__" : Str)) = false := by decide)
    (he : starEach (e :: es) X.env = (false, eval e X.env) :: starEach es X.env := by rfl) (hpl : (backTo cpos (starEach es X.env)).any (·.1) = false := by rfl) :
    PS X (.Raise (some (.Call (.Name x np) (e :: es) [] cpos)) none pos) (tRaise E C t) := by
  intro pins s σ H D I h
  obtain ⟨tl, N, nm, q, bs, hdct, sn, sub, ab, col, dd, k0, k1, k2, k3, k5, mN, hC, hN, hni, T⟩ := exc_of_in I.ok.mod.kin hx
  refine wpAny_Raise_call_subT (C := C) (nm := nm) (q := q) (N := N) (bs := bs) (bm := tl) (hdct := hdct) (sn := sn) (sub := sub) (ab := ab) (col := col) (dd := dd) (k0 := k0) (k1 := k1) (k2 := k2) (k3 := k3) (k5 := k5)
    FB (mN := mN) (T.hasType FB.hasBase) (I.ok.hd hc) (by rw [he]; show (false || (backTo cpos (starEach es X.env)).any (·.1)) = false; rw [hpl]; rfl) hni (ld_glob I hg hm ⟨rfl, ?_⟩ hdb)
  have w1 := ha cpos pins s σ H _ I h
  rw [he] at w1 ⊢
  exact Calls.evalArgs_plain (thn w1 fun us s1 ⟨vs, H1, I1, r, z, q⟩ => ⟨rfl, by rw [← r.length]; exact z, I1.bk _ _ hC, hN.keeps I1.bk, T.keeps I1.bk, fun h' ea hm => R pins σ H1 s1 h' ea _ _ I1 hm q⟩)
end

def tCallX (sp : Sp) (dvs : List V) (E : L2.St → XK) (t : TA) : TE := fun σ H Q => t σ H fun vs H1 => sp (vs ++ dvs) H1 Q (E σ)
def tMakeX (C : Addr) (sp : Sp) (dvs : List V) (E : L2.St → XK) (t : TA) : TE := fun σ H Q => t σ H fun vs H1 => ∀ x dx, H1 x = none → H1 dx = none → dx ≠ x →
  sp (.ref x :: (vs ++ dvs)) (upd (upd H1 dx (.own x)) x (.ins C dx [])) (fun v H2 => v = .non ∧ Q (.ref x) H2) (E σ)

section
variable {X : Cx} {CX : CXT} {k : Nat} {f C : Addr} {fd : FuncData} {ps : List Str} {sp : Sp} {dvs : List V} {ds : List Value} {E : L2.St → XK} {x m : Str} {p pos apos : Pos} {e o : Expr} {es : List Expr} {ta : TE} {t : TA}

theorem run_fnX {pins : List (Addr × Obj)} {σ : L2.St} {H : Hp} {s : Shared} {Q : VK} {us : List Value} {vs : List V} (F : FnOk X.prog X.w X.K X.mg X.base CX k f fd ps sp) (hr : Room k X.A) (hb : Binds X.K fd ps ds) (hd : Vals dvs ds) (hx : PassesX CX X E)
    (I : Inv X pins σ H s) (r : Vals vs us) (h : sp (vs ++ dvs) H Q (E σ)) : wpAny (model X.prog X.w) X.A (call (.ref f) us) (EP X pins σ Q) X.xe s := by
  have r2 : Vals (vs ++ dvs) (us ++ ds) := r.append hd
  have hl : (us ++ ds).length = ps.length := by rw [← r2.length]; exact F.len _ _ _ _ h
  refine wpAny_call (codeAny_mono (F.run X.A X.stack s H ⟨us, []⟩ (us ++ ds) (vs ++ dvs) Q (E σ) hr I.env0 (hb s us I.kIn hl) r2 h) fun r s' hq => ?_)
  cases r with
  | error e => exact hx pins σ H s e s' I hq
  | ok fl =>
    cases fl with
    | ret u => exact I.after hq
    | next => exact False.elim hq
    | brk => exact False.elim hq
    | cont => exact False.elim hq

theorem pe_callX (F : FnOk X.prog X.w X.K X.mg X.base CX k f fd ps sp) (hr : Room k X.A) (hg : Gl X x) (hm : X.mg x = some (.ref f)) (hk : PySem.W.keepIn X.K (.ref f) = true) (hb : Binds X.K fd ps ds) (hd : Vals dvs ds) (hx : PassesX CX X E)
    (ha : PA X (e :: es) t) (hdb : (x == ("__debug__" : Str)) = false := by decide) (he : starEach (e :: es) X.env = (false, eval e X.env) :: starEach es X.env := by rfl) (hpl : (backTo pos (starEach es X.env)).any (·.1) = false := by rfl) :
    PE X (.Call (.Name x p) (e :: es) [] pos) (tCallX sp dvs E t) := by
  intro pins s σ H Q I h
  refine wpAny_Call_Name_kw (ld_glob I hg hm ?_ hdb)
  refine PySem.W.callWith_K (h₀ := X.base) I.ok.mod.kin hk (thn (ha pos pins s σ H _ I h) fun us s1 ⟨vs, H1, I1, r, q⟩ => ⟨I1.kIn, ?_⟩) he hpl
  exact run_fnX F hr hb hd hx I1 r q
theorem run_makeX {pins : List (Addr × Obj)} {σ : L2.St} {H : Hp} {s : Shared} {Q : VK} {us : List Value} {vs : List V} (M : Mk X.K C f) (F : FnOk X.prog X.w X.K X.mg X.base CX k f fd ps sp) (hr : Room (k + 1) X.A) (hb : Binds X.K fd ps ds) (hd : Vals dvs ds)
    (hx : PassesX CX X E) (I : Inv X pins σ H s) (r : Vals vs us)
    (h : ∀ x dx, H x = none → H dx = none → dx ≠ x → sp (.ref x :: (vs ++ dvs)) (upd (upd H dx (.own x)) x (.ins C dx [])) (fun v H2 => v = .non ∧ Q (.ref x) H2) (E σ)) :
    wpAny (model X.prog X.w) X.A (call (.ref C) us) (EP X pins σ Q) X.xe s := by
  have hq := h (s.heap.objs.size + 1) s.heap.objs.size (I.hok.fresh (Nat.le_succ _)) (I.hok.fresh (Nat.le_refl _)) (Nat.ne_of_lt (Nat.lt_succ_self _))
  have I2 := Inv.made (C := C) I
  have r2 : Vals (V.ref (s.heap.objs.size + 1) :: (vs ++ dvs)) (Value.ref (s.heap.objs.size + 1) :: (us ++ ds)) := .cons rfl (r.append hd)
  have hl : (Value.ref (s.heap.objs.size + 1) :: us ++ ds).length = ps.length := by
    have e := r2.length
    rw [F.len _ _ _ _ hq] at e
    exact e.symm
  refine wpAny_call (make_map (f := f) I.kIn M.makes M.init (beq_iff_eq.mp M.fn) (codeAny_mono (F.run _ X.stack _ _ ⟨Value.ref (s.heap.objs.size + 1) :: us, []⟩ (Value.ref (s.heap.objs.size + 1) :: (us ++ ds)) _ _ (E σ) (hr.make C us [])
    (I2.env0.make C us []) (hb _ (Value.ref (s.heap.objs.size + 1) :: us) I2.kIn hl) r2 hq) fun r s' hq' => ?_))
  cases r with
  | error e => exact hx pins σ _ _ e s' I2 hq'
  | ok fl =>
    cases fl with
    | ret u =>
      obtain ⟨v, H', I3, rv, ev, q3⟩ := I2.after hq'
      subst ev
      exact ⟨rv, ⟨V.ref (s.heap.objs.size + 1), H', I3, rfl, q3⟩⟩
    | next => exact False.elim hq'
    | brk => exact False.elim hq'
    | cont => exact False.elim hq'
theorem pe_makeX (M : Mk X.K C f) (F : FnOk X.prog X.w X.K X.mg X.base CX k f fd ps sp) (hr : Room (k + 1) X.A) (hg : Gl X x) (hm : X.mg x = some (.ref C)) (hb : Binds X.K fd ps ds) (hd : Vals dvs ds) (hx : PassesX CX X E)
    (ha : PA X (e :: es) t) (hdb : (x == ("__debug__" : Str)) = false := by decide) (he : starEach (e :: es) X.env = (false, eval e X.env) :: starEach es X.env := by rfl) (hpl : (backTo pos (starEach es X.env)).any (·.1) = false := by rfl) :
    PE X (.Call (.Name x p) (e :: es) [] pos) (tMakeX C sp dvs E t) := by
  intro pins s σ H Q I h
  refine wpAny_Call_Name_kw (ld_glob I hg hm ?_ hdb)
  refine PySem.W.callWith_K (h₀ := X.base) I.ok.mod.kin M.kp (thn (ha pos pins s σ H _ I h) fun us s1 ⟨vs, H1, I1, r, q⟩ => ⟨I1.kIn, ?_⟩) he hpl
  exact run_makeX M F hr hb hd hx I1 r q
end

section
variable {P : Program} {w : World} {K : PySem.W.Frag} {mg : Str → Option Value} {base : Heap}
def bodyCx (P : Program) (w : World) (K : PySem.W.Frag) (mg : Str → Option Value) (base : Heap) (N : List Str) (qual : Str) (scope : Scope) (f : Addr) (cd : Value) (A : Around) (outer : List Env) (s : Shared) (H : Hp) (E : XK) : Cx :=
  wish (cxOf (CXe P w) P w K mg base N qual scope f cd A outer s H E) (XE (cxOf (CXe P w) P w K mg base N qual scope f cd A outer s H E) fun _ => E)
theorem okX {x qual : Str} {st : Stmt} {f : Addr} {fd : FuncData} {N ps : List Str} {k : Nat} {sp : Sp} (F : Fun K x qual st f fd) (S : FnScope N ps (defScope st)) (len : ∀ vs H Q E, sp vs H Q E → vs.length = ps.length)
    (hbody : ∀ (cdv : Value) (A : Around) (outer : List Env) (s : Shared) (H : Hp) (vs : List V) (Q : VK) (E : XK), Room k (A.deeper (envOfC qual (defScope st) s.heap.objs.size f cdv)) → sp vs H Q E →
      ∃ t, PSs (bodyCx P w K mg base N qual (defScope st) f cdv A outer s H E) (defBody st) t ∧ t { nx := fun _ H' => Q .non H', rt := Q } (start N vs) H) : FnOk P w K mg base (CXe P w) (k + 1) f fd ps sp := by
  obtain ⟨oc, od, kV, doc, pm, an, cdv, ct, osl, rfl, lk, hcd⟩ := F.ex
  refine fn_of lk hcd S len fun A outer s H vs Q E hr hsp => ?_
  obtain ⟨t, h, q⟩ := hbody cdv A outer s H vs Q E hr hsp
  exact ⟨t, pss_wish h leave_cx, q⟩
end
end LX

set_option Elab.async false
set_option linter.all false
set_option maxRecDepth 100000
namespace LX
open PySem PySem.Spec PyProof.Rows L2

section
variable {M : Model} {A : Around} {E : Value → Shared → Prop} {s : Shared}
end

section
variable {X : Cx} {pins : List (Addr × Obj)} {σ : L2.St} {H : Hp} {s : Shared}
end

/-- within an except suite: e is being handled, its object is oe -/
def markCx (X : Cx) (ea : Addr) (oe : Obj) (xe : Value → Shared → Prop) : Cx := { X with A := X.A.mark (some (.ref ea)), calm := false, pn := X.pn ++ [(ea, oe)], xe := xe }
section
variable {X : Cx} {pins : List (Addr × Obj)} {σ : L2.St} {H : Hp} {s : Shared} {ea : Addr} {oe : Obj} {xe : Value → Shared → Prop}
end

def PH (X : Cx) (hs : List ExceptHandler) (th : Value → TS) : Prop := ∀ (pins : List (Addr × Obj)) (σ : L2.St) (H : Hp) (s : Shared) (ea T : Addr) (cls : Value) (D : Ends), Inv X pins σ H s → Loose X pins H ea → Loose X pins H T → FlyAt s.heap ea T cls .none → th cls D σ H →
  wpAny (model X.prog X.w) X.A (handleBy (.ref ea) X.env hs) (SP X pins D) X.xe s
section
variable {X : Cx} {c n : Str} {np pos : Pos} {b₀ : Stmt} {suite : List Stmt} {rest : List ExceptHandler} {C : Addr} {ts : TS} {tr : Value → TS}
end

def pinCx (X : Cx) (pins : List (Addr × Obj)) : Cx := { X with pn := X.pn ++ pins }
def tryCx (X : Cx) (pins : List (Addr × Obj)) (E : L2.St → XK) : Cx := wish (pinCx X pins) (XE (pinCx X pins) E)
section
variable {X : Cx} {pins pins' : List (Addr × Obj)} {σ : L2.St} {H : Hp} {s : Shared}
end
end LX

set_option Elab.async false
set_option linter.all false
set_option maxRecDepth 100000
namespace LX
open PySem PySem.Spec PyProof.Rows L2

section
variable {X : Cx} {pins : List (Addr × Obj)} {σ : L2.St} {H : Hp} {s : Shared}
theorem track {D : Addr} {o : HO} (I : Inv X pins σ H s) (l : Loose X pins H D) (new : ObjOk X.prog X.w (upd H D o) s.heap D o) : Inv X pins σ (upd H D o) s := by
  have hn := l.free
  refine ⟨I.ok, I.os, I.bare, ⟨I.base.keep, I.base.slot, fun b ob e n hx => ?_, I.base.there, fun b xs e => ?_, fun b ob u e => ?_, fun b ps e => ?_⟩, I.loc, I.cell, ?_, fun x c e => ?_, fun p hp => ?_, fun b u e => ?_, I.len⟩
  · rw [upd_ne (fun z => by rw [z, l.new] at e; cases e)]; exact I.base.free b ob e n hx
  · have e' := I.base.tups b xs e; rw [upd_ne (ne_of_none e' hn)]; exact e'
  · have e' := I.base.frzs b ob u e; rw [upd_ne (ne_of_none e' hn)]; exact e'
  · obtain ⟨m, e'⟩ := I.base.tbls b ps e; exact ⟨m, by rw [upd_ne (ne_of_none e' hn)]; exact e'⟩
  · rw [upd_ne (Ne.symm l.loc)]; exact I.free
  · rw [upd_ne (l.cell x c e)]; exact I.freeC x c e
  · obtain ⟨e, n, r⟩ := I.pin p hp
    exact ⟨e, by rw [upd_ne (l.pin p hp)]; exact n, r⟩
  · by_cases hb : b = D
    · subst hb; rw [upd_same] at e; cases e; exact new
    · rw [upd_ne hb] at e
      exact (I.hok b u e).stay (fun c v _ q => q) (fun c q => by rw [upd_ne (ne_of_none q hn)]; exact q) fun c xs q => by rw [upd_ne (ne_of_none q hn)]; exact q
end

def compOk (scope : Scope) (x : Str) (fv : List Str) (sc : Scope) : Bool :=
  (scope.kind == .function) && (scope.names.lookup x == some .local) && scope.names.all (fun y => y.2 != .cell && (y.2 != .local || scope.names.lookup y.1 == some .local) && (y.2 != .free || sc.names.lookup y.1 == some .cell || sc.names.lookup y.1 == some .free)) &&
  fv.all (fun y => scope.names.contains (y, .free) && scope.names.lookup y == some .free)
structure CompOk (scope : Scope) (x : Str) (fv : List Str) (sc : Scope) : Prop where
  kind : scope.kind = .function
  var : scope.names.lookup x = some .local
  nocell : ∀ y ∈ scope.names, y.2 ≠ .cell
  loc : ∀ y ∈ scope.names, y.2 = .local → scope.names.lookup y.1 = some .local
  free : ∀ y ∈ scope.names, y.2 = .free → sc.names.lookup y.1 = some .cell ∨ sc.names.lookup y.1 = some .free
  fv : ∀ y ∈ fv, (y, .free) ∈ scope.names ∧ scope.names.lookup y = some .free
theorem compOk_of {scope : Scope} {x : Str} {fv : List Str} {sc : Scope} (h : compOk scope x fv sc = true) : CompOk scope x fv sc := by
  unfold compOk at h
  simp only [Bool.and_eq_true, beq_iff_eq, List.all_eq_true, Bool.or_eq_true, bne_iff_ne, ne_eq, List.contains_iff_mem] at h
  obtain ⟨⟨⟨h1, h2⟩, h3⟩, h4⟩ := h
  refine ⟨h1, h2, fun y hy => (h3 y hy).1.1, fun y hy e => ?_, fun y hy e => ?_, fun y hy => h4 y hy⟩
  · rcases (h3 y hy).1.2 with z | z
    · exact absurd e z
    · exact z
  · rcases (h3 y hy).2 with (z | z) | z
    · exact absurd e z
    · exact .inl z
    · exact .inr z

theorem closure_of {scope : Scope} {env : Env} (h : ∀ y ∈ scope.names, y.2 = .free → ∃ c, env.cells.lookup y.1 = some c) :
    ∃ cl, closureFor scope env = pure cl ∧ (∀ y c, cl.lookup y = some c → env.cells.lookup y = some c) ∧ ∀ y, (y, NameKind.free) ∈ scope.names → cl.lookup y = env.cells.lookup y := by
  have go : ∀ (names : List (Str × NameKind)) (cs : List (Str × Addr)), (∀ y ∈ names, y.2 = .free → ∃ c, env.cells.lookup y.1 = some c) → (∀ y c, cs.lookup y = some c → env.cells.lookup y = some c) →
      ∃ cl, (forIn (m := Sem) names cs fun (x : Str × NameKind) r => if (x.2 == NameKind.free) = true then (do let c ← cellOf env x.1; pure (ForInStep.yield ((x.1, c) :: r))) else pure (ForInStep.yield r)) = pure cl ∧
        (∀ y c, cl.lookup y = some c → env.cells.lookup y = some c) ∧ (∀ y c, cs.lookup y = some c → (cl.lookup y).isSome = true) ∧ ∀ y, (y, NameKind.free) ∈ names → (cl.lookup y).isSome = true := by
    intro names
    induction names with
    | nil => intro cs _ hc; exact ⟨cs, rfl, hc, fun y c e => by rw [e]; rfl, fun y z => nomatch z⟩
    | cons p r ih =>
      intro cs hn hc
      obtain ⟨n, k⟩ := p
      rw [List.forIn_cons]
      by_cases hk : k = .free
      · subst hk
        obtain ⟨c, e⟩ := hn (n, .free) List.mem_cons_self rfl
        have e : env.cells.lookup n = some c := e
        have hc' : ∀ y d, ((n, c) :: cs).lookup y = some d → env.cells.lookup y = some d := fun y d z => by
          rw [List.lookup_cons] at z
          cases hy : y == n with
          | true => rw [hy] at z; cases z; rw [beq_iff_eq.mp hy]; exact e
          | false => rw [hy] at z; exact hc y d z
        obtain ⟨cl, q1, q2, q3, q4⟩ := ih ((n, c) :: cs) (fun y hy => hn y (List.mem_cons_of_mem _ hy)) hc'
        refine ⟨cl, ?_, q2, fun y d z => ?_, fun y hy => ?_⟩
        · show ((do let c ← cellOf env n; pure (ForInStep.yield ((n, c) :: cs)) : Sem (ForInStep (List (Str × Addr)))) >>= _) = _
          unfold cellOf
          rw [e]
          exact q1
        · cases hy : y == n with
          | true => exact q3 y c (by rw [List.lookup_cons, hy])
          | false => exact q3 y d (by rw [List.lookup_cons, hy]; exact z)
        · rcases List.mem_cons.mp hy with z | z
          · cases z; exact q3 n c (by rw [List.lookup_cons]; simp)
          · exact q4 y z
      · have hb : (k == NameKind.free) = false := by simpa using hk
        obtain ⟨cl, q1, q2, q3, q4⟩ := ih cs (fun y hy => hn y (List.mem_cons_of_mem _ hy)) hc
        refine ⟨cl, ?_, q2, q3, fun y hy => ?_⟩
        · simp only [hb, Bool.false_eq_true, if_false]
          exact q1
        · rcases List.mem_cons.mp hy with z | z
          · cases z; exact absurd rfl hk
          · exact q4 y z
  obtain ⟨cl, q1, q2, _, q4⟩ := go scope.names [] h (fun y c e => nomatch e)
  refine ⟨cl, ?_, q2, fun y hy => ?_⟩
  · refine Eq.trans (b := ((forIn (m := Sem) scope.names [] fun (x : Str × NameKind) r => if (x.2 == NameKind.free) = true then (do let c ← cellOf env x.1; pure (ForInStep.yield ((x.1, c) :: r))) else pure (ForInStep.yield r)) >>= fun s => pure s)) rfl ?_
    rw [q1]
    rfl
  · obtain ⟨c, e⟩ := Option.isSome_iff_exists.mp (q4 y hy)
    rw [e, q2 y c e]

theorem relabel_free {env : Env} : ∀ {names : List (Str × NameKind)} {x : Str}, names.lookup x = some .free →
    (names.map fun (n, k) => if (k == NameKind.free && env.scope.kind == .function && env.kindOf n == some .cell) then (n, NameKind.cell) else (n, k)).lookup x = some .cell ∨
    (names.map fun (n, k) => if (k == NameKind.free && env.scope.kind == .function && env.kindOf n == some .cell) then (n, NameKind.cell) else (n, k)).lookup x = some .free
  | [], _, h => by simp at h
  | (n, k) :: r, x, h => by
    have ih := @relabel_free env r x
    show List.lookup x ((if (k == NameKind.free && env.scope.kind == .function && env.kindOf n == some .cell) = true then (n, NameKind.cell) else (n, k)) :: _) = _ ∨ List.lookup x ((if (k == NameKind.free && env.scope.kind == .function && env.kindOf n == some .cell) = true then (n, NameKind.cell) else (n, k)) :: _) = _
    cases hx : x == n with
    | true =>
      simp only [List.lookup_cons, hx] at h
      cases h
      by_cases hc : (NameKind.free == NameKind.free && env.scope.kind == .function && env.kindOf n == some .cell) = true
      · rw [if_pos hc]; left; simp only [List.lookup_cons, hx]
      · rw [if_neg hc]; right; simp only [List.lookup_cons, hx]
    | false =>
      simp only [List.lookup_cons, hx] at h
      by_cases hc : (k == NameKind.free && env.scope.kind == .function && env.kindOf n == some .cell) = true
      · rw [if_pos hc]; simp only [List.lookup_cons, hx]; exact ih h
      · rw [if_neg hc]; simp only [List.lookup_cons, hx]; exact ih h

theorem relabel_from {env : Env} : ∀ {names : List (Str × NameKind)} {x : Str} {q : NameKind}, (∀ y ∈ names, y.2 ≠ .cell) → (names.map fun (n, k) => if (k == NameKind.free && env.scope.kind == .function && env.kindOf n == some .cell) then (n, NameKind.cell) else (n, k)).lookup x = some q →
    (q = .cell ∨ q = .free) → (x, NameKind.free) ∈ names
  | [], _, _, _, h, _ => by simp at h
  | (n, k) :: r, x, q, hn, h, hq => by
    have ih := @relabel_from env r x q (fun y hy => hn y (List.mem_cons_of_mem _ hy))
    have hk : k ≠ .cell := hn (n, k) List.mem_cons_self
    have h : List.lookup x ((if (k == NameKind.free && env.scope.kind == .function && env.kindOf n == some .cell) = true then (n, NameKind.cell) else (n, k)) :: _) = some q := h
    cases hx : x == n with
    | true =>
      have e := beq_iff_eq.mp hx
      subst e
      by_cases hc : (k == NameKind.free && env.scope.kind == .function && env.kindOf x == some .cell) = true
      · simp only [Bool.and_eq_true, beq_iff_eq] at hc
        rw [hc.1.1]; exact List.mem_cons_self
      · rw [if_neg hc] at h
        simp only [List.lookup_cons, hx] at h
        cases h
        rcases hq with z | z
        · exact absurd z hk
        · rw [z]; exact List.mem_cons_self
    | false =>
      refine List.mem_cons_of_mem _ (ih ?_ hq)
      by_cases hc : (k == NameKind.free && env.scope.kind == .function && env.kindOf n == some .cell) = true
      · rw [if_pos hc] at h; simp only [List.lookup_cons, hx] at h; exact h
      · rw [if_neg hc] at h; simp only [List.lookup_cons, hx] at h; exact h

def blkCx (X : Cx) (scope : Scope) (cl : List (Str × Addr)) (C : Addr) (N : List Str) (s : Shared) (H : Hp) (fp : List Addr) : Cx where
  prog := X.prog
  w := X.w
  K := X.K
  mg := X.mg
  base := X.base
  A := X.A
  N := N
  s₀ := s
  H₀ := H
  env := compEnvC scope cl C X.env
  outer := X.stack
  stack := X.stack
  ex := fp
  fn := fun _ => false
  calm := X.calm
  pn := []
  xe := fun _ _ => False

section
variable {prog : Program} {w : World} {A : Around} {E : Value → Shared → Prop} {R : Result → Shared → Prop} {s : Shared}
theorem compLoopX {elt target iter : Expr} {ifs : List Expr} {scope : Scope} {pos : Pos} {it acc : Value} {env : Env} (I : Nat → Shared → Prop)
    (turn : ∀ n s, I n s → wpAny (model prog w) A (pyNext it) (fun r s₁ => match r with
      | none => R (.ok .next) s₁
      | some v => wpAny (model prog w) A (letOwnedTupleGo target it v) (fun _ s₁' => wpAny (model prog w) A (assign target env v) (fun _ s₂ =>
          wpAny (model prog w) A (forIn ifs true fun c r => if r = true then do let ok ← isTrue c env (eval c env); pure (ForInStep.yield ok) else pure (ForInStep.yield r)) (fun ok s₃ =>
            if ok = true then wpAny (model prog w) A (eval elt env) (fun x s₄ =>
              wpAny (model prog w) A (call (.builtin "list.append") [acc, x]) (fun _ s₅ => ∃ m, m < n ∧ I m s₅) (fun _ _ => False) s₄) (fun _ _ => False) s₃
            else ∃ m, m < n ∧ I m s₃) (fun _ _ => False) s₂) (fun _ _ => False) s₁') (fun _ _ => False) s₁) (fun _ _ => False) s)
    (n : Nat) (h : I n s) :
    codeAny (model prog w) A (.compLoop (.ListComp elt [⟨target, iter, ifs, 0⟩] scope pos) 0 it acc env) R s := by
  refine codeAny_loop rfl I (fun n s hI => ?_) n h
  show wpAny _ A ((compTurn (.ListComp elt [⟨target, iter, ifs, 0⟩] scope pos) 0 it acc env).onRaise (fun x => do noteFrame x env; theTreesLotGoes x)) _ _ s
  refine wpAny_noted ?_
  rw [compTurn_list]
  refine wpAny_bind (wpAny_standAt (wpAny_bind (wpAny_mono (turn n s hI) (fun r s₁ h₁ => ?_) fun _ _ h' => h'.elim)))
  cases r with
  | none => exact wpAny_pure h₁
  | some v =>
    refine wpAny_bind (wpAny_mono h₁ (fun _ s₁' h₁' => ?_) fun _ _ h' => h'.elim)
    refine wpAny_bind (wpAny_mono h₁' (fun _ s₂ h₂ => wpAny_bind (wpAny_mono h₂ (fun ok s₃ h₃ => ?_) fun _ _ h' => h'.elim)) fun _ _ h' => h'.elim)
    cases ok with
    | false => exact wpAny_pure ⟨rfl, h₃⟩
    | true =>
      exact wpAny_bind (wpAny_bind (wpAny_mono h₃ (fun x s₄ h₄ => wpAny_bind (wpAny_mono h₄ (fun _ s₅ h₅ => wpAny_pure (wpAny_pure ⟨rfl, h₅⟩)) fun _ _ h' => h'.elim)) fun _ _ h' => h'.elim))
end

def PIf (X : Cx) (ifs : List Expr) (t : TT) : Prop := ∀ (pins : List (Addr × Obj)) (s : Shared) (σ : L2.St) (H : Hp) (Q : Bool → Hp → Prop), Inv X pins σ H s → t σ H Q →
  wpAny (model X.prog X.w) X.A (forIn ifs true fun c r => if r = true then do let ok ← isTrue c X.env (eval c X.env); pure (ForInStep.yield ok) else pure (ForInStep.yield r)) (TP X pins σ Q) X.xe s
def tAll : TT := fun _ H Q => Q true H
theorem pif_nil {X : Cx} : PIf X [] tAll := fun _ _ _ H _ I h => wpAny_tests_nil ⟨H, I, h⟩
theorem pif_one {X : Cx} {c : Expr} {t : TT} (h : PT X c t) : PIf X [c] t := fun pins s σ H Q I q => wpAny_tests_one (h pins s σ H Q I q)

def fvals (ixs : List Nat) (σ : L2.St) : L2.St := ixs.map fun j => (σ[j]?).join
def CompW (J : It) (fv : L2.St) (tif : TT) (te : TE) (Q : List V → Hp → Prop) (H1 : Hp) : Prop := ∃ W : Nat → Nat → List V → Hp → Prop, (∃ m, W 0 m [] H1) ∧ ∀ i m acc H, W i m acc H →
  (J.stop i H ∧ acc.length ≤ sizeLine ∧ Q acc H) ∨ (J.go i H ∧ acc.length < sizeLine ∧ ∀ x H', J.yld i H x H' → tif (some x :: fv) H' fun b H2 => if b = true then te (some x :: fv) H2 fun v H3 => ∃ m', m' < m ∧ W (i + 1) m' (acc ++ [v]) H3 else ∃ m', m' < m ∧ W (i + 1) m' acc H2)
def tComp (wi : TI) (ixs : List Nat) (tif : TT) (te : TE) : TE := fun σ H Q => wi σ H fun J H1 => CompW J (fvals ixs σ) tif te (fun acc H2 => ∀ D, H2 D = none → Q (.ref D) (upd H2 D (.lst acc))) H1

section
variable {X : Cx} {pins : List (Addr × Obj)} {σ : L2.St} {H : Hp} {s : Shared}
theorem loose_ge (I : Inv X pins σ H s) {a : Addr} (h : s.heap.objs.size ≤ a) {H' : Hp} (hn : H' a = none) : Loose X pins H' a where
  new := Heap.get?_none_of_le (Nat.le_trans I.sz h)
  free := hn
  loc := Nat.ne_of_gt (Nat.lt_of_lt_of_le I.lt h)
  cell := fun x c e z => by
    obtain ⟨v, q⟩ := I.cell x c e
    exact absurd (Nat.lt_of_lt_of_le q.lt (by rw [z]; exact h)) (Nat.lt_irrefl _)
  pin := fun p hp z => absurd (Nat.lt_of_lt_of_le (Heap.lt_size (I.pin p hp).1) (by rw [z]; exact h)) (Nat.lt_irrefl _)
theorem loose_turn {h' : Heap} {it : Addr} {t' : Nat} (I : Inv X pins σ H s) (l : Loose X pins H it) (hs : X.s₀.heap.objs.size ≤ it) (k : ∀ b o, b ≠ it → s.heap.get? b = some o → h'.get? b = some o) : Inv X pins σ H { s with heap := h', toks := t' } :=
  I.turned (it := it) k l.free l.loc (.inr hs) l.cell l.pin
end

section
variable {X : Cx} {pins : List (Addr × Obj)} {σ : L2.St} {scope : Scope} {x : Str} {px pos : Pos} {fv : List Str} {ixs : List Nat} {elt iter : Expr} {ifs : List Expr} {tif : TT} {te : TE} {cl : List (Str × Addr)}

theorem blk_start {H2 : Hp} {s2 : Shared} {fp : List Addr} {h1 : Heap} {tk : Nat} {D C : Addr} {m : Str → Option Value} {dobj : Obj} (ok : CompOk scope x fv X.env.scope) (hix : ixs.map (fun k => X.N[k]?) = fv.map some)
    (hcl1 : ∀ y c, cl.lookup y = some c → X.env.cells.lookup y = some c) (hcl2 : ∀ y, (y, NameKind.free) ∈ scope.names → cl.lookup y = X.env.cells.lookup y)
    (I2 : Inv X pins σ H2 s2) (f2 : ∀ b ∈ fp, FpOk X pins H2 b) (fo : ∀ b ∈ fp, ∃ o, s2.heap.get? b = some o) (hD : s2.heap.objs.size ≤ D) (hC : s2.heap.objs.size ≤ C) (hDC : D ≠ C)
    (k1 : ∀ b o, s2.heap.get? b = some o → h1.get? b = some o) (hd : h1.get? D = some dobj) (hdd : ∀ v, dobj.data ≠ .cell v) (hm : h1.Ns C m) :
    Inv (blkCx X scope cl C (x :: fv) s2 H2 fp) [(D, dobj)] (none :: fvals ixs σ) H2 { s2 with heap := h1, toks := tk } := by
  have o := I2.ok
  have fresh : ∀ a, s2.heap.objs.size ≤ a → H2 a = none := fun a ha => I2.hok.fresh ha
  have lenf : fv.length = ixs.length := by have := congrArg List.length hix; simpa using this.symm
  refine ⟨⟨o.mod, ok.kind, o.glob, o.blt, hC, fun y z c e1 e2 => o.inj y z c (hcl1 y c e1) (hcl1 z c e2), fun y hy => ?_, fun y c h => (nomatch (show false = true from h)), o.hd, o.frames, .inl rfl, fun b hb => ?_, I2.bs, Nat.le_trans o.bsz I2.sz, fun b ob e hb => ?_, fun b hb hs => ?_, I2.stack, I2.stkFree⟩,
    rfl, I2.bare, Un.kept k1, ⟨m, hm, fun i y v e1 e2 e3 => ?_⟩, fun y c e => ?_, fresh C hC, fun y c e => I2.freeC y c (hcl1 y c e), fun p hp => ?_, I2.hok.kept k1, ?_⟩
  · have hy' : (relabel scope X.env).names.lookup y = some .cell ∨ (relabel scope X.env).names.lookup y = some .free := hy
    have hmem : (y, NameKind.free) ∈ scope.names := by
      rcases hy' with z | z
      · exact relabel_from ok.nocell z (.inl rfl)
      · exact relabel_from ok.nocell z (.inr rfl)
    obtain ⟨c, e⟩ := o.has y (ok.free _ hmem rfl)
    exact ⟨c, by rw [show (blkCx X scope cl C (x :: fv) s2 H2 fp).env.cells = cl from rfl, hcl2 y hmem]; exact e⟩
  · obtain ⟨ob, e⟩ := fo b hb
    exact ⟨Nat.ne_of_lt (Nat.lt_of_lt_of_le (Heap.lt_size e) hC), fun y c z => (f2 b hb).2.2.2.2.1 y c (hcl1 y c z)⟩
  · rcases (f2 b hb).2.2.2.1 with z | z
    · exact o.noex b ob e z
    · exact absurd (Nat.lt_of_lt_of_le (Heap.lt_size e) (Nat.le_trans o.bsz z)) (Nat.lt_irrefl _)
  · exact (List.mem_cons.mp (I2.stkSub b hs)).elim (f2 b hb).2.1 (f2 b hb).2.2.1
  · cases i with
    | zero => cases e2
    | succ i =>
      have e1' : fv[i]? = some y := by simpa [blkCx] using e1
      have e2' : (fvals ixs σ)[i]? = some (some v) := by simpa using e2
      have hi : i < ixs.length := by rw [← lenf]; exact (List.getElem?_eq_some_iff.mp e1').1
      have hk : X.N[ixs[i]]? = some y := by
        have := congrArg (fun l => l[i]?) hix
        simp only [List.getElem?_map] at this
        rw [e1', List.getElem?_eq_getElem hi] at this
        simpa using this
      have hv : σ[ixs[i]]? = some (some v) := by
        unfold fvals at e2'
        rw [List.getElem?_map, List.getElem?_eq_getElem hi] at e2'
        simp only [Option.map_some, Option.some.injEq] at e2'
        cases q : σ[ixs[i]]? with
        | none => rw [q] at e2'; cases e2'
        | some z => rw [q] at e2'; cases z with
          | none => cases e2'
          | some z' => cases e2'; rfl
      obtain ⟨hmem, hfr⟩ := ok.fv y (List.mem_of_getElem? e1')
      have hXk := ok.free _ hmem rfl
      obtain ⟨m0, hn0, hl0⟩ := I2.loc
      obtain ⟨u, r, l⟩ := hl0 _ y v hk hv (by rcases hXk with z | z; exact .inr (.inl z); exact .inr (.inr z))
      refine ⟨u, r, ?_⟩
      rcases l with ⟨k, _⟩ | ⟨_, c, e, ⟨oc, hoc, hocd⟩⟩
      · have k' : X.env.scope.names.lookup y = some .local := k
        rcases hXk with z | z <;> (rw [show X.env.scope.names.lookup y = _ from z] at k'; cases k')
      · exact .inr ⟨relabel_free hfr, c, by rw [show (blkCx X scope cl C (x :: fv) s2 H2 fp).env.cells = cl from rfl, hcl2 y hmem]; exact e, ⟨oc, k1 _ _ hoc, hocd⟩⟩
  · obtain ⟨v, oc, hoc, hocd⟩ := I2.cell y c (hcl1 y c e)
    exact ⟨v, oc, k1 _ _ hoc, hocd⟩
  · have e : p = (D, dobj) := by
      have hp' : p ∈ ([] : List (Addr × Obj)) ++ [(D, dobj)] := hp
      simpa using hp'
    subst e
    refine ⟨hd, fresh D hD, hDC, fun z => ?_, hdd⟩
    obtain ⟨_, ob, ho, _⟩ := I2.stack.mem z
    exact absurd (Nat.lt_of_lt_of_le (Heap.lt_size ho) hD) (Nat.lt_irrefl _)
  · show (none :: fvals ixs σ).length = (x :: fv).length
    unfold fvals
    simp [lenf]

theorem blk_run {E : Value → Shared → Prop} {H2 : Hp} {s2 : Shared} {it : Addr} {fp : List Addr} {tn : Nat → Heap → Prop} {J : It} {Q : List V → Hp → Prop} {RR : Value → Addr → Result → Shared → Prop}
    (ok : CompOk scope x fv X.env.scope) (hnd : (x :: fv).Nodup) (hix : ixs.map (fun k => X.N[k]?) = fv.map some) (hc : X.calm = true)
    (hcl1 : ∀ y c, cl.lookup y = some c → X.env.cells.lookup y = some c) (hcl2 : ∀ y, (y, NameKind.free) ∈ scope.names → cl.lookup y = X.env.cells.lookup y)
    (hif : ∀ C s H fp, PIf (blkCx X scope cl C (x :: fv) s H fp) ifs tif) (he : ∀ C s H fp, PE (blkCx X scope cl C (x :: fv) s H fp) elt te)
    (I2 : Inv X pins σ H2 s2) (T : Turn X.prog X.w X.K (.Name x px) J fp it tn) (st2 : tn 0 s2.heap) (f2 : ∀ b ∈ fp, FpOk X pins H2 b) (cw : CompW J (fvals ixs σ) tif te Q H2)
    (hRR : ∀ (D C : Addr) (s' : Shared) (m : Str → Option Value) (acc : List V) (H' : Hp), s'.heap.Ns C m → Inv X pins σ (upd H' D (.lst acc)) s' → Loose X pins (upd H' D (.lst acc)) C → X.s₀.heap.objs.size ≤ C → C ≠ D → H' D = none → Q acc H' → RR (.ref D) C (.ok .next) s') :
    wpAny (model X.prog X.w) X.A (newList []) (fun acc s3 => wpAny (model X.prog X.w) X.A (newFunctionEnv scope X.env.globals cl [] X.env.qual none .none (some X.env)) (fun cenv s4 =>
      codeAny (model X.prog X.w) X.A (.compStart (.ListComp elt [⟨.Name x px, iter, ifs, 0⟩] scope pos) 0 (.ref it) acc { cenv with scope := relabel scope X.env }) (RR acc cenv.locals) s4) E s3) E s2 := by
  obtain ⟨W, ⟨m0, w0⟩, turn⟩ := cw
  refine wpAny_newObj_type (wpAny_newFunctionEnv ok.nocell (by intro y hy; simp at hy) (fun h1 hns1 hsb1 => ?_) ok.kind)
  dsimp only at hns1 hsb1 ⊢
  generalize hH2 : s2.heap.push { cls := .type "list", dict := none, data := .seq ([] : List Value).toArray } = G at hns1 hsb1 ⊢
  have hC : G.objs.size = s2.heap.objs.size + 1 := by rw [← hH2, Heap.size_push]
  have hDC : s2.heap.objs.size ≠ G.objs.size := by rw [hC]; exact Nat.ne_of_lt (Nat.lt_succ_self _)
  have hCle : s2.heap.objs.size ≤ G.objs.size := by rw [hC]; exact Nat.le_succ _
  have old : ∀ b o, s2.heap.get? b = some o → h1.get? b = some o := fun b o e =>
    hsb1.extBut b o (by rw [hC]; exact Nat.ne_of_lt (Nat.lt_succ_of_lt (Heap.lt_size e))) (Heap.get?_push_of_some _ (hH2 ▸ Heap.get?_push_of_some _ e))
  have hacc : h1.get? s2.heap.objs.size = some { cls := .type "list", dict := none, data := .seq ([] : List Value).toArray } := hsb1.extBut _ _ hDC (Heap.get?_push_of_some _ (hH2 ▸ Heap.get?_push_size _ rfl))
  have st1 : tn 0 h1 := T.keep _ _ _ st2 fun b _ o e => old b o e
  have fo : ∀ b ∈ fp, ∃ o, s2.heap.get? b = some o := fun b hb => let ⟨o, e, _⟩ := T.obj _ _ st2 b hb; ⟨o, e⟩
  generalize hCg : G.objs.size = C at *
  generalize hDg : s2.heap.objs.size = D at *
  have hDle : s2.heap.objs.size ≤ D := by rw [hDg]; exact Nat.le_refl _
  have hCle' : s2.heap.objs.size ≤ C := by rw [hDg]; exact hCle
  -- what stays true of the iterator's objects
  have fpB : ∀ {H' : Hp} {o : Obj}, (∀ b ∈ fp, H' b = none) → ∀ b ∈ fp, FpOk (blkCx X scope cl C (x :: fv) s2 H2 fp) [(D, o)] H' b := fun {H' o} hn b hb => by
    obtain ⟨ob, e⟩ := fo b hb
    refine ⟨hn b hb, Nat.ne_of_lt (Nat.lt_of_lt_of_le (Heap.lt_size e) hCle'), fun z => (List.mem_cons.mp (I2.stkSub b z)).elim (f2 b hb).2.1 (f2 b hb).2.2.1, .inl hb, fun y c z => (f2 b hb).2.2.2.2.1 y c (hcl1 y c z), fun p hp => ?_⟩
    have ep : p = (D, o) := by
      have hp' : p ∈ ([] : List (Addr × Obj)) ++ [(D, o)] := hp
      simpa using hp'
    subst ep
    exact Nat.ne_of_gt (Nat.lt_of_lt_of_le (Heap.lt_size e) hDle)
  have loop : ∀ s3 : Shared, s3 = { s2 with heap := h1, toks := s2.toks + ([] : List (Str × Value)).length } →
      codeAny (model X.prog X.w) X.A (.compLoop (.ListComp elt [⟨.Name x px, iter, ifs, 0⟩] scope pos) 0 (.ref it) (.ref D) (compEnvC scope cl C X.env)) (RR (.ref D) C) s3 := by
    rintro s3 rfl
    refine compLoopX (fun n s => ∃ i acc its cnt v0 H, Inv (blkCx X scope cl C (x :: fv) s2 H2 fp) [(D, { cls := .type "list", data := .seq (List.toArray its) cnt })] (v0 :: fvals ixs σ) H s ∧ Vals acc its ∧ tn i s.heap ∧ (∀ b ∈ fp, H b = none) ∧ W i n acc H) ?_ m0
      ⟨0, [], [], 0, none, H2, blk_start ok hix hcl1 hcl2 I2 f2 fo hDle hCle' hDC old hacc (fun v z => nomatch z) hns1, .nil, st1, fun b hb => (f2 b hb).1, w0⟩
    rintro n s3 ⟨i, acc, its, cnt, v0, H3, I3, rv, st3, fr3, w3⟩
    rcases turn i n acc H3 w3 with ⟨stop, hz, qn⟩ | ⟨go, hz, step⟩
    · refine thn (T.done (blkCx X scope cl C (x :: fv) s2 H2 fp) rfl rfl rfl hc i _ s3 _ H3 _ I3 (fpB fr3) st3 stop) fun r s4 ⟨hr, I4⟩ => ?_
      subst hr
      obtain ⟨pe, pn, pL, pF, _⟩ := I4.pin (D, { cls := .type "list", data := .seq (List.toArray its) cnt }) (List.mem_append_right _ (List.mem_singleton.mpr rfl))
      have I5 : Inv X pins σ H3 s4 := I2.call' (ch := fp) I4.os I4.base I4.hok I4.bare fun b hb => ⟨(f2 b hb).2.2.2.1, (f2 b hb).2.1, (f2 b hb).2.2.2.2.1, (f2 b hb).2.2.2.2.2⟩
      have lD : Loose X pins H3 D := loose_ge I2 hDle pn
      have I6 := track (o := .lst acc) I5 lD ⟨hz, its, cnt, rv, pe⟩
      obtain ⟨m4, hn4, _⟩ := I4.loc
      exact hRR D C s4 m4 acc H3 hn4 I6 (loose_ge I2 hCle' (by rw [upd_ne (Ne.symm hDC)]; exact I4.free)) (Nat.le_trans I2.sz hCle') (Ne.symm hDC) pn qn
    · refine thn (T.item (blkCx X scope cl C (x :: fv) s2 H2 fp) rfl rfl rfl hc i _ s3 _ H3 _ I3 (fpB fr3) st3 go) fun r s4 ⟨u, hr, h4⟩ => ?_
      subst hr
      refine thn h4 fun _ s5 ⟨y, H5, I5, r5, y5, st5, fr5⟩ => ?_
      have I5' := I5.pinned (fpB fr5) (T.obj _ _ st5)
      refine wpAny_assign_Name (store_ok (i := 0) I5' hnd rfl (.inl (lookup_relabel_local ok.var)) r5 (fun s6 I6 => ?_) (.inr (lookup_relabel_local ok.var)))
      have again : ∀ {σ7 : L2.St} {H7 : Hp} {s7 : Shared}, Inv (blkCx X scope cl C (x :: fv) s2 H2 fp) ([(D, { cls := .type "list", data := .seq (List.toArray its) cnt })] ++ pinsAt fp s5.heap) σ7 H7 s7 → tn (i + 1) s7.heap ∧ ∀ b ∈ fp, H7 b = none := fun {σ7 H7 s7} I7 => by
        refine ⟨T.keep _ _ _ st5 fun b hb o e => (I7.pin (b, o) (List.mem_append_right _ (List.mem_append_right _ (mem_pinsAt hb e)))).1, fun b hb => ?_⟩
        obtain ⟨o, e, d⟩ := T.obj _ _ st5 b hb
        exact (I7.pin (b, o) (List.mem_append_right _ (List.mem_append_right _ (mem_pinsAt hb e)))).2.1
      refine thn (hif _ _ _ _ _ s6 _ H5 _ I6 (step y H5 y5)) fun okb s7 ⟨H7, I7, q7⟩ => ?_
      cases okb with
      | false =>
        rw [if_neg Bool.false_ne_true] at q7 ⊢
        obtain ⟨m', hm, w7⟩ := q7
        obtain ⟨st7, fr7⟩ := again I7
        exact ⟨m', hm, i + 1, acc, its, cnt, some y, H7, I7.unpinned, rv, st7, fr7, w7⟩
      | true =>
        rw [if_pos rfl] at q7 ⊢
        refine thn (he _ _ _ _ _ s7 _ H7 _ I7 q7) fun yv s8 ⟨v, H8, I8, r8, m', hm, w8⟩ => ?_
        obtain ⟨st8, fr8⟩ := again I8
        have I9 := I8.unpinned
        obtain ⟨pe, pn, pL, pF, _⟩ := I9.pin (D, { cls := .type "list", data := .seq (List.toArray its) cnt }) (List.mem_append_right _ (List.mem_singleton.mpr rfl))
        have lens : its.length = acc.length := rv.length.symm
        refine wpAny_list_append_plain ⟨cnt, pe⟩ (fun h9 hl9 hs9 => ?_) (by simp only [List.size_toArray]; omega)
        obtain ⟨cnt', pe'⟩ := hl9
        have I10 : Inv (blkCx X scope cl C (x :: fv) s2 H2 fp) [] (some y :: fvals ixs σ) H8 s8 := I9.pins_of fun p hp => nomatch hp
        have I11 : Inv (blkCx X scope cl C (x :: fv) s2 H2 fp) [] (some y :: fvals ixs σ) H8 { s8 with heap := h9 } := I10.turned (t' := s8.toks) (it := D) (fun b o hb e => (hs9.2 b hb).trans e) pn pL (.inr hDle)
          (fun z c e q => by
            obtain ⟨v', oc, hoc, _⟩ := I2.cell z c (hcl1 z c e)
            exact absurd (Nat.lt_of_lt_of_le (Heap.lt_size hoc) (by rw [q]; exact hDle)) (Nat.lt_irrefl _)) (fun p hp => nomatch hp)
        refine ⟨m', hm, i + 1, acc ++ [v], its ++ [yv], cnt', some y, H8, I11.pins_of fun p hp => ?_, rv.append (.cons r8 .nil), T.keep _ _ _ st8 fun b hb o e => (hs9.2 b ?_).trans e, fr8, w8⟩
        · have ep : p = (D, { cls := .type "list", data := .seq (List.toArray (its ++ [yv])) cnt' }) := by simpa using hp
          subst ep
          exact ⟨by simpa using pe', pn, pL, pF, fun v z => nomatch z⟩
        · obtain ⟨ob, e'⟩ := fo b hb
          exact Nat.ne_of_lt (Nat.lt_of_lt_of_le (Heap.lt_size e') hDle)
  exact codeAny_compStart_list (loop _ rfl) (T.self _ 0 _ _ _ st1 (loop _ rfl))

theorem pe_comp {wi : TI} (hck : compOk scope x fv X.env.scope = true) (hnd : (x :: fv).Nodup) (hix : ixs.map (fun k => X.N[k]?) = fv.map some) (hc : X.calm = true) (hi : PI X (.Name x px) iter wi)
    (hif : ∀ cl C s H fp, PIf (blkCx X scope cl C (x :: fv) s H fp) ifs tif) (he : ∀ cl C s H fp, PE (blkCx X scope cl C (x :: fv) s H fp) elt te) (hs : ∀ x, foldedSetIterable iter X.env x = pure x := by intro _; rfl) :
    PE X (.ListComp elt [⟨.Name x px, iter, ifs, 0⟩] scope pos) (tComp wi ixs tif te) := by
  intro pins s σ H Q I h
  have ok := compOk_of hck
  obtain ⟨cl, hclos, hcl1, hcl2⟩ := closure_of (scope := scope) (env := X.env) fun y hy e => I.ok.has y.1 (ok.free y hy e)
  rw [eval_ListComp]
  refine wpAny_comprehension_free (use := none) rfl hs hclos ok.kind ok.loc (thn (hi pins s σ H _ I h) fun v s1 h1 => thn h1 fun itv s2 h2 => ?_)
  obtain ⟨it, fp, tn, J, H2, e, I2, T, st2, f2, cw⟩ := h2
  subst e
  refine blk_run (Q := fun acc H2 => ∀ D, H2 D = none → Q (.ref D) (upd H2 D (.lst acc))) (RR := fun acc C => compPost (model X.prog X.w) X.A X.xe none (EP X pins σ Q) acc C) ok hnd hix hc hcl1 hcl2 (hif cl) (he cl) I2 T st2 f2 cw ?_
  intro D C s' m acc H' hn I' lC hC hCD hD hQ
  exact ⟨m, hn, fun h' hs' => ⟨.ref D, _, loose_turn (t' := s'.toks) I' lC hC fun b o hb e => (hs'.2 b hb).trans e, rfl, hQ D hD⟩⟩
end

section
variable {X : Cx} {scope : Scope} {x y : Str} {px py pos spos : Pos} {fv : List Str} {ixs : List Nat} {elt iter : Expr} {ifs : List Expr} {tif : TT} {te : TE}
theorem ps_setComp {i : Nat} {wi : TI} (hN : X.N.Nodup) (hiN : X.N[i]? = some y) (hy : X.env.scope.names.lookup y = some .local) (hck : compOk scope x fv X.env.scope = true) (hnd : (x :: fv).Nodup) (hix : ixs.map (fun k => X.N[k]?) = fv.map some) (hc : X.calm = true) (hi : PI X (.Name x px) iter wi)
    (hif : ∀ cl C s H fp, PIf (blkCx X scope cl C (x :: fv) s H fp) ifs tif) (he : ∀ cl C s H fp, PE (blkCx X scope cl C (x :: fv) s H fp) elt te) (hs : ∀ x, foldedSetIterable iter X.env x = pure x := by intro _; rfl)
    (hsw : swapsWith (.ListComp elt [⟨.Name x px, iter, ifs, 0⟩] scope pos) (some (.Name y py)) spos.line X.env = pure true := by rfl) :
    PS X (.Assign [.Name y py] (.ListComp elt [⟨.Name x px, iter, ifs, 0⟩] scope pos) spos) (tAsg (tComp wi ixs tif te) (gName i)) := by
  intro pins s σ H D I h
  have ok := compOk_of hck
  obtain ⟨cl, hclos, hcl1, hcl2⟩ := closure_of (scope := scope) (env := X.env) fun y hy e => I.ok.has y.1 (ok.free y hy e)
  rw [exec_Assign_Name_used _ _ _ _ hsw]
  refine wpAny_bind (wpAny_standAt (wpAny_bind ?_))
  show wpAny _ X.A (do let _ ← comprehension (.ListComp elt [⟨.Name x px, iter, ifs, 0⟩] scope pos) scope X.env _ (newList []) false (eval iter X.env) (some (assign (.Name y py) X.env))) _ _ s
  refine wpAny_bind (wpAny_mono (wpAny_comprehension_free (use := some (assign (.Name y py) X.env)) (Q := fun _ s' => SP X pins D .next s') rfl hs hclos ok.kind ok.loc
    (thn (hi pins s σ H _ I h) fun v s1 h1 => thn h1 fun itv s2 h2 => ?_)) (fun _ s' hq => wpAny_pure (wpAny_pure hq)) fun _ _ e => e)
  obtain ⟨it, fp, tn, J, H2, e, I2, T, st2, f2, cw⟩ := h2
  subst e
  refine blk_run (RR := fun acc C => compPost (model X.prog X.w) X.A X.xe (some (assign (.Name y py) X.env)) (fun _ s' => SP X pins D .next s') acc C) ok hnd hix hc hcl1 hcl2 (hif cl) (he cl) I2 T st2 f2 cw ?_
  intro D' C s' m acc H' hn I' lC hC hCD hD hQ
  show wpAny _ X.A (assign (.Name y py) X.env (.ref D')) _ _ s'
  refine wpAny_assign_Name (store_ok2 (v := .ref D') I' hN hiN (.inl hy) rfl (fun s2 I2 hsb => ?_) (.inr hy))
  obtain ⟨a, sb, ha⟩ := hsb
  have haC : C ≠ a := by
    rcases ha with z | z
    · rw [z]; exact lC.loc
    · exact Ne.symm (lC.cell y a z)
  exact ⟨m, hn.sameBut sb haC, fun h' hs' => ⟨_, _, loose_turn (t' := s2.toks) I2 lC hC fun b o hb e => (hs'.2 b hb).trans e, hQ D' hD⟩⟩
end

theorem comp_list {K : PySem.W.Frag} {a : Addr} {xs : List V} {fv : L2.St} {tif : TT} {te : TE} {Q : List V → Hp → Prop} {H1 : Hp} (g : V → Bool) (fn : V → V) (hq : SqL K H1 a xs) (hz : xs.length ≤ sizeLine)
    (hs : ∀ x ∈ xs, ∀ H, Same H1 H → ∀ (Rt : V → Hp → Prop) (Rf : Hp → Prop), (g x = true → ∀ H3, Same H1 H3 → Rt (fn x) H3) → (g x = false → ∀ H2, Same H1 H2 → Rf H2) → tif (some x :: fv) H fun b H2 => if b = true then te (some x :: fv) H2 Rt else Rf H2)
    (hd : ∀ H, Same H1 H → Q ((xs.filter g).map fn) H) : CompW (Itl K a) fv tif te Q H1 := by
  refine ⟨fun i m acc H => m = xs.length - i ∧ i ≤ xs.length ∧ Same H1 H ∧ acc = ((xs.take i).filter g).map fn, ⟨xs.length, by simp, Nat.zero_le _, Same.refl _, by simp⟩, ?_⟩
  rintro i m acc H ⟨rfl, hi, sm, rfl⟩
  have q := sm.seq hq
  have len : (((xs.take i).filter g).map fn).length ≤ i := by
    rw [List.length_map]
    exact Nat.le_trans (List.length_filter_le _ _) (by rw [List.length_take]; exact Nat.min_le_left _ _)
  by_cases hlt : i < xs.length
  · refine .inr ⟨⟨xs, xs[i], q, by simp [hlt]⟩, by omega, fun x H' y => ?_⟩
    obtain ⟨e, y⟩ := y
    subst e
    have hx := y xs q
    have tk : xs.take (i + 1) = xs.take i ++ [x] := by rw [List.take_succ, hx]; rfl
    refine hs x (List.mem_of_getElem? hx) _ sm _ _ (fun hg H3 s3 => ⟨xs.length - (i + 1), by omega, rfl, hlt, s3, ?_⟩) (fun hg H2 s2 => ⟨xs.length - (i + 1), by omega, rfl, hlt, s2, ?_⟩)
    · rw [tk, List.filter_append, List.map_append]; simp [hg]
    · rw [tk, List.filter_append, List.map_append]; simp [hg]
  · have e : i = xs.length := by omega
    subst e
    exact .inl ⟨⟨xs, q, Nat.le_refl _⟩, by omega, by rw [List.take_length]; exact hd H sm⟩
theorem comp_range {lo : Int} {n : Nat} {fv : L2.St} {tif : TT} {te : TE} {Q : List V → Hp → Prop} {H1 : Hp} (g : Nat → Bool) (fn : Nat → V) (hz : n ≤ sizeLine)
    (hs : ∀ k, k < n → ∀ H, Same H1 H → ∀ (Rt : V → Hp → Prop) (Rf : Hp → Prop), (g k = true → ∀ H3, Same H1 H3 → Rt (fn k) H3) → (g k = false → ∀ H2, Same H1 H2 → Rf H2) → tif (some (.int (lo + k)) :: fv) H fun b H2 => if b = true then te (some (.int (lo + k)) :: fv) H2 Rt else Rf H2)
    (hd : ∀ H, Same H1 H → Q (((List.range n).filter g).map fn) H) : CompW (Itr lo n) fv tif te Q H1 := by
  refine ⟨fun i m acc H => m = n - i ∧ i ≤ n ∧ Same H1 H ∧ acc = ((List.range i).filter g).map fn, ⟨n, by simp, Nat.zero_le _, Same.refl _, by simp⟩, ?_⟩
  rintro i m acc H ⟨rfl, hi, sm, rfl⟩
  have len : (((List.range i).filter g).map fn).length ≤ i := by
    rw [List.length_map]
    exact Nat.le_trans (List.length_filter_le _ _) (by rw [List.length_range]; exact Nat.le_refl _)
  by_cases hlt : i < n
  · refine .inr ⟨hlt, by omega, fun x H' y => ?_⟩
    obtain ⟨e, y⟩ := y
    subst e y
    refine hs i hlt _ sm _ _ (fun hg H3 s3 => ⟨n - (i + 1), by omega, rfl, hlt, s3, ?_⟩) (fun hg H2 s2 => ⟨n - (i + 1), by omega, rfl, hlt, s2, ?_⟩)
    · rw [List.range_succ, List.filter_append, List.map_append]; simp [hg]
    · rw [List.range_succ, List.filter_append, List.map_append]; simp [hg]
  · have e : i = n := by omega
    subst e
    exact .inl ⟨Nat.le_refl _, by omega, hd H sm⟩
end LX

set_option Elab.async false
set_option linter.all false
set_option maxRecDepth 100000
namespace LX
open PySem PySem.Spec PyProof.Rows L2

mutual
inductive RdV (H : Hp) : V → PyData → Prop
  | non : RdV H .non .none
  | bl (b : Bool) : RdV H (.bl b) (.bool b)
  | int (i : Int) : RdV H (.int i) (.int i)
  | str (x : Str) : RdV H (.str x) (.str x)
  | lst {a : Addr} {xs : List V} {ds : List PyData} : H a = some (.lst xs) → RdVs H xs ds → RdV H (.ref a) (.list ds)
  | tup {a : Addr} {xs : List V} {ds : List PyData} : H a = some (.tup xs) → RdVs H xs ds → RdV H (.ref a) (.tuple ds)
inductive RdVs (H : Hp) : List V → List PyData → Prop
  | nil : RdVs H [] []
  | cons {x : V} {d : PyData} {xs : List V} {ds : List PyData} : RdV H x d → RdVs H xs ds → RdVs H (x :: xs) (d :: ds)
end
mutual
theorem RdV.reads {P : Program} {w : World} {H : Hp} {h : Heap} (ok : HOk P w H h) : ∀ {x : V} {d : PyData} {u : Value}, RdV H x d → RelV x u → ∃ as, Reads h u d as
  | _, _, _, .non, r => by cases r; exact ⟨_, .none⟩
  | _, _, _, .bl b, r => by cases r; exact ⟨_, .bool b⟩
  | _, _, _, .int i, r => by obtain ⟨t, rfl⟩ := r; exact ⟨_, .int i t⟩
  | _, _, _, .str x, r => by obtain ⟨t, rfl⟩ := r; exact ⟨_, .str x t⟩
  | _, _, _, .lst (a := a) (xs := xs) e q, r => by
    cases r
    obtain ⟨_, its, n, rv, g⟩ := (show ObjOk P w H h a (.lst xs) from ok a _ e)
    obtain ⟨as, z⟩ := RdVs.reads ok q rv
    exact ⟨_, .list g rfl rfl (by simpa using z)⟩
  | _, _, _, .tup (a := a) (xs := xs) e q, r => by
    cases r
    obtain ⟨_, its, rv, o, g, c, n, d⟩ := (show ObjOk P w H h a (.tup xs) from ok a _ e)
    obtain ⟨as, z⟩ := RdVs.reads ok q rv
    exact ⟨_, .tuple g c d (by simpa using z)⟩
theorem RdVs.reads {P : Program} {w : World} {H : Hp} {h : Heap} (ok : HOk P w H h) : ∀ {xs : List V} {ds : List PyData} {us : List Value}, RdVs H xs ds → Vals xs us → ∃ as, ReadsAll h us ds as
  | _, _, _, .nil, r => by cases r; exact ⟨_, .nil⟩
  | _, _, _, .cons p q, r => by
    cases r with
    | cons r1 r2 =>
      obtain ⟨as, z⟩ := RdV.reads ok p r1
      obtain ⟨bs, z2⟩ := RdVs.reads ok q r2
      exact ⟨_, .cons z z2⟩
end
section
variable {X : Cx}
def rEqD : R2 := fun x y H Q => ∃ d e, RdV H x d ∧ RdV H y e ∧ SeqAt.shaped d = true ∧ SeqAt.shaped e = true ∧ Q (.bl (PyData.eqv d e)) H
def rNeD : R2 := fun x y H Q => ∃ d e, RdV H x d ∧ RdV H y e ∧ SeqAt.shaped d = true ∧ SeqAt.shaped e = true ∧ Q (.bl (!PyData.eqv d e)) H
theorem op_eqD (hu : X.A.units + 64 < cLine) : OpR X (compareOp .Eq) rEqD := by
  intro pins s σ H x y v u Q I rx ry h
  obtain ⟨d, e, r1, r2, s1, s2, q⟩ := h
  obtain ⟨as, z1⟩ := r1.reads I.hok rx
  obtain ⟨bs, z2⟩ := r2.reads I.hok ry
  exact eq_dataH z1 z2 s1 s2 hu ⟨.bl _, H, I, rfl, q⟩
theorem op_neD (hu : X.A.units + 64 < cLine) : OpR X (compareOp .NotEq) rNeD := by
  intro pins s σ H x y v u Q I rx ry h
  obtain ⟨d, e, r1, r2, s1, s2, q⟩ := h
  obtain ⟨as, z1⟩ := r1.reads I.hok rx
  obtain ⟨bs, z2⟩ := r2.reads I.hok ry
  exact ne_dataH z1 z2 s1 s2 hu ⟨.bl _, H, I, rfl, q⟩
end

def cV : V → Value
  | .ty n => .type n
  | .ref a => .ref a
  | _ => .none
section
variable {X : Cx}
def rIsi (K : PySem.W.Frag) : List V → Hp → VK → Prop := fun xs H Q => ∃ x c t b, xs = [x, c] ∧ RelV c (cV c) ∧ TyOf K H x t ∧ PySem.W.kitOne K t (cV c) = some b ∧ Q (.bl b) H
theorem call_isi : CallR X (.builtin "isinstance") (rIsi X.K) := by
  intro pins s σ H xs us Q I r h
  obtain ⟨x, c, t, b, rfl, rc, ty, e, q⟩ := h
  cases r with
  | cons r1 rr =>
    cases rr with
    | cons r2 rr =>
      cases rr
      rename_i u1 u2
      have e2 : u2 = cV c := by
        cases c with
        | ty n => exact r2
        | ref a => exact r2
        | non => exact r2
        | bl b => cases rc
        | int i => obtain ⟨t, z⟩ := rc; cases z
        | str i => obtain ⟨t, z⟩ := rc; cases z
        | byt i => obtain ⟨t, z⟩ := rc; cases z
        | flt i => obtain ⟨t, z⟩ := rc; cases z
      subst e2
      exact isinst_ok I r1 ty e fun tk => ⟨.bl b, H, I.tok tk, rfl, q⟩
end
end LX

set_option Elab.async false
set_option linter.all false
set_option maxRecDepth 100000
namespace LX
open PySem PySem.Spec PyProof.Rows L2

section
variable {X : Cx} {a b c e o : Expr} {ta tb tc te : TE} {pos : Pos}
theorem PE.imp {t t' : TE} (h : PE X e t) (i : ∀ σ H Q, t' σ H Q → t σ H Q) : PE X e t' := fun pins s σ H Q I q => h pins s σ H Q I (i σ H Q q)
theorem OpR.imp {f : Value → Value → Sem Value} {r r' : R2} (h : OpR X f r) (i : ∀ x y H Q, r' x y H Q → r x y H Q) : OpR X f r' := fun pins s σ H x y v u Q I rx ry q => h pins s σ H x y v u Q I rx ry (i x y H Q q)
theorem UnR.imp {f : Value → Sem Value} {r r' : V → Hp → VK → Prop} (h : UnR X f r) (i : ∀ x H Q, r' x H Q → r x H Q) : UnR X f r' := fun pins s σ H x v Q I rx q => h pins s σ H x v Q I rx (i x H Q q)
theorem CallR.imp {f : Value} {r r' : List V → Hp → VK → Prop} (h : CallR X f r) (i : ∀ xs H Q, r' xs H Q → r xs H Q) : CallR X f r' := fun pins s σ H xs us Q I rx q => h pins s σ H xs us Q I rx (i xs H Q q)
theorem IxR.imp {r r' : R2} (h : IxR X r) (i : ∀ x y H Q, r' x y H Q → r x y H Q) : IxR X r' := fun value slice pins s σ H x y v u Q I rx ry q hs => h value slice pins s σ H x y v u Q I rx ry (i x y H Q q) hs

def vU (i : Nat) : TE := fun σ H Q => match σ[i]? with | some (some v) => Q v H | _ => False
theorem pu (i : Nat) {x : Str} {pos : Pos} (hN : X.N[i]? = some x := by rfl) (hv : Vis X.env.scope x := by first | exact Or.inl rfl | exact Or.inr (Or.inl rfl) | exact Or.inr (Or.inr rfl)) (hd : (x == ("__debug__" : Str)) = false := by decide)
    (hcd : (x == ("__classdict__" : Str)) = false := by decide) : PE X (.Name x pos) (vU i) := PE.imp (pe_var hN hv hd hcd) fun σ H Q h => by
  unfold vU at h
  split at h
  · exact ⟨_, ‹_›, h⟩
  · exact h.elim

def rIU (g : Int → Int → V) : R2 := fun x y H Q => match x, y with | .int i, .int j => Q (g i j) H | _, _ => False
theorem rIU_to {g : Int → Int → V} : ∀ x y H Q, rIU g x y H Q → rI0 g x y H Q := fun x y H Q h => by
  cases x <;> cases y <;> first | exact ⟨_, _, rfl, rfl, h⟩ | exact h.elim
def rIC (C : Int → Int → Prop) (g : Int → Int → V) : R2 := fun x y H Q => match x, y with | .int i, .int j => C i j ∧ Q (g i j) H | _, _ => False
theorem rIC_to {C : Int → Int → Prop} {g : Int → Int → V} : ∀ x y H Q, rIC C g x y H Q → rI C g x y H Q := fun x y H Q h => by
  cases x <;> cases y <;> first | exact ⟨_, _, rfl, rfl, h⟩ | exact h.elim
theorem ou_sub : OpR X (binaryOp .Sub) (rIU fun i j => .int (i - j)) := OpR.imp op_sub rIU_to
theorem ou_mod : OpR X (binaryOp .Mod) (rIC (fun _ j => 0 < j) fun i j => .int (i % j)) := OpR.imp op_mod rIC_to
theorem ou_fdiv : OpR X (binaryOp .FloorDiv) (rIC CDiv fun i j => .int (i / j)) := OpR.imp op_fdiv rIC_to
theorem ou_lt : OpR X (compareOp .Lt) (rIU fun i j => .bl (decide (i < j))) := OpR.imp op_lt rIU_to
theorem ou_le : OpR X (compareOp .LtE) (rIU fun i j => .bl (decide (i ≤ j))) := OpR.imp op_le rIU_to
theorem ou_gt : OpR X (compareOp .Gt) (rIU fun i j => .bl (decide (j < i))) := OpR.imp op_gt rIU_to
theorem ou_ge : OpR X (compareOp .GtE) (rIU fun i j => .bl (decide (j ≤ i))) := OpR.imp op_ge rIU_to
def rAddU : R2 := fun x y H Q => match x, y with
  | .int i, .int j => Q (.int (i + j)) H
  | .str i, .str j => i.length + j.length ≤ sizeLine ∧ Q (.str (i ++ j)) H
  | .ref p, .ref q => (match H p, H q with | some (.lst xs), some (.lst zs) => xs.length + zs.length ≤ sizeLine ∧ ∀ l, H l = none → Q (.ref l) (upd H l (.lst (xs ++ zs))) | _, _ => False)
  | _, _ => False
theorem ou_add : OpR X (binaryOp .Add) rAddU := OpR.imp (OpR.or op_add (OpR.or op_add_str op_cat)) fun x y H Q h => by
  cases x <;> cases y <;> first
    | exact .inl ⟨_, _, rfl, rfl, h⟩
    | exact .inr (.inl ⟨_, _, rfl, rfl, h.1, h.2⟩)
    | exact h.elim
    | (unfold rAddU at h; dsimp only at h
       split at h
       · exact .inr (.inr ⟨_, _, _, _, rfl, rfl, ‹_›, ‹_›, h.1, h.2⟩)
       · exact h.elim)
def rMulU : R2 := fun x y H Q => match x, y with
  | .int i, .int j => CMul i j ∧ Q (.int (i * j)) H
  | .ref p, .int k => (match H p with | some (.lst xs) => -(2 ^ 63) ≤ k ∧ k < 2 ^ 63 ∧ xs.length * k.toNat ≤ sizeLine ∧ ∀ l, H l = none → Q (.ref l) (upd H l (.lst (List.replicate k.toNat xs).flatten)) | _ => False)
  | _, _ => False
theorem ou_mul : OpR X (binaryOp .Mult) rMulU := OpR.imp (OpR.or op_mul op_rep) fun x y H Q h => by
  cases x <;> cases y <;> first
    | exact .inl ⟨_, _, rfl, rfl, h.1, h.2⟩
    | exact h.elim
    | (unfold rMulU at h; dsimp only at h
       split at h
       · exact .inr ⟨_, _, _, rfl, rfl, ‹_›, h.1, h.2.1, h.2.2.1, h.2.2.2⟩
       · exact h.elim)
def rNegU : V → Hp → VK → Prop := fun x H Q => match x with | .int i => Q (.int (-i)) H | _ => False
theorem uu_neg : UnR X (unaryOp .USub) rNegU := UnR.imp un_neg fun x H Q h => by cases x <;> first | exact ⟨_, rfl, h⟩ | exact h.elim
def rEqU : R2 := fun x y H Q => if scal x y = true then Q (.bl (decide (x = y))) H else rEqD x y H Q
def rNeU : R2 := fun x y H Q => if scal x y = true then Q (.bl (!decide (x = y))) H else rNeD x y H Q
theorem ou_eq (hu : X.A.units + 64 < cLine) : OpR X (compareOp .Eq) rEqU := OpR.imp (OpR.or op_eq (op_eqD hu)) fun x y H Q h => by
  unfold rEqU at h
  split at h
  · exact .inl ⟨‹_›, h⟩
  · exact .inr h
theorem ou_ne (hu : X.A.units + 64 < cLine) : OpR X (compareOp .NotEq) rNeU := OpR.imp (OpR.or op_ne (op_neD hu)) fun x y H Q h => by
  unfold rNeU at h
  split at h
  · exact .inl ⟨‹_›, h⟩
  · exact .inr h
def rIsNU : R2 := fun x y H Q => match y with | .non => Q (.bl (decide (x = .non))) H | _ => False
theorem ou_isN : OpR X (compareOp .Is) rIsNU := OpR.imp op_isN fun x y H Q h => by cases y <;> first | exact ⟨rfl, h⟩ | exact h.elim
def rNotNU : R2 := fun x y H Q => match y with | .non => Q (.bl (!decide (x = .non))) H | _ => False
theorem ou_notN : OpR X (compareOp .IsNot) rNotNU := OpR.imp op_notN fun x y H Q h => by cases y <;> first | exact ⟨rfl, h⟩ | exact h.elim

def bU : V → (Bool → Prop) → Prop := fun x k => match x with | .bl c => k c | _ => False
theorem bU_to {x : V} {k : Bool → Prop} (h : bU x k) : ∃ c, x = .bl c ∧ k c := by cases x <;> first | exact ⟨_, rfl, h⟩ | exact h.elim
def tTestU (t : TE) : TT := fun σ H Q => t σ H fun x H' => bU x fun k => Q k H'
theorem tu_cmp {op : CmpOp} {r : R2} (ho : OpR X (compareOp op) r) (ha : PE X a ta) (hb : PE X b tb) (hm : behindInMarks op b = false) : PT X (.Compare a [op] [b] pos) (tTestU (tOp r ta tb)) := by
  intro pins s σ H Q I h
  refine wpAny_isTrue_Compare1 (thn (ha pins s σ H _ I h) fun v s1 ⟨x, H1, I1, r1, q1⟩ => thn (hb pins s1 σ H1 _ I1 q1) fun u s2 ⟨y, H2, I2, r2, q2⟩ =>
    thn (ho pins s2 σ H2 x y v u _ I2 r1 r2 q2) fun z s3 ⟨t, H3, I3, r3, q3⟩ => ?_) hm
  obtain ⟨k, rfl, q⟩ := bU_to q3
  cases r3
  exact wpAny_truthy_bool ⟨H3, I3, q⟩
theorem tu_val {t : TE} (h : PE X e t) (he : ∀ whole, isTrue e X.env whole = (do let v ← whole; standAt e.pos; holding [v] (truthy v)) := by intro _; rfl) : PT X e (tTestU t) := by
  intro pins s σ H Q I q
  refine isTrue_plain (thn (h pins s σ H _ I q) fun v s1 ⟨x, H1, I1, r1, q1⟩ => ?_) (he _)
  obtain ⟨k, rfl, q⟩ := bU_to q1
  cases r1
  exact wpAny_truthy_bool ⟨H1, I1, q⟩
def tAndU (ta tb : TE) : TE := fun σ H Q => ta σ H fun x H1 => bU x fun c => if c = true then tb σ H1 Q else Q (.bl false) H1
def tOrU (ta tb : TE) : TE := fun σ H Q => ta σ H fun x H1 => bU x fun c => if c = true then Q (.bl true) H1 else tb σ H1 Q
def tNotU (ta : TE) : TE := fun σ H Q => ta σ H fun x H1 => bU x fun c => Q (.bl (!c)) H1
section
variable {rest : List Expr}
theorem eu_and (ha : PE X a ta) (hb : PE X (.BoolOp .And (b :: rest) pos) tb) : PE X (.BoolOp .And (a :: b :: rest) pos) (tAndU ta tb) := by
  intro pins s σ H Q I h
  refine BoolOp_and (thn (ha pins s σ H _ I h) fun v s1 ⟨x, H1, I1, r1, q1⟩ => ?_)
  obtain ⟨c, rfl, q2⟩ := bU_to q1
  cases r1
  refine wpAny_truthy_bool ?_
  cases c with
  | true => exact hb pins s1 σ H1 Q I1 (by simpa using q2)
  | false => exact ⟨.bl false, H1, I1, rfl, by simpa using q2⟩
theorem eu_not (ha : PE X a ta) : PE X (.UnaryOp .Not a pos) (tNotU ta) := by
  intro pins s σ H Q I h
  refine UnaryOp_ (thn (ha pins s σ H _ I h) fun v s1 ⟨x, H1, I1, r1, q1⟩ => ?_)
  obtain ⟨c, rfl, q1⟩ := bU_to q1
  cases r1
  exact not_of (wpAny_truthy_bool ⟨.bl (!c), H1, I1, rfl, q1⟩)
end

def fldU (K : PySem.W.Frag) (f : Str) : V → Hp → VK → Prop := fun x H Q => match x with
  | .ref a => (match H a with | some (.ins C _ fs) => Cls K C ∧ NoAttr K C f ∧ (match fs.lookup f with | some v => Q v H | none => False) | _ => False)
  | _ => False
def tFldU (K : PySem.W.Frag) (ta : TE) (f : Str) : TE := fun σ H Q => ta σ H fun x H1 => fldU K f x H1 Q
theorem fldU_to {K : PySem.W.Frag} {f : Str} {x : V} {H : Hp} {Q : VK} (h : fldU K f x H Q) : ∃ a C dx fs v, x = .ref a ∧ H a = some (.ins C dx fs) ∧ Cls K C ∧ NoAttr K C f ∧ fs.lookup f = some v ∧ Q v H := by
  unfold fldU at h
  split at h
  · split at h
    · obtain ⟨h1, h2, h3⟩ := h
      split at h3
      · exact ⟨_, _, _, _, _, rfl, ‹_›, h1, h2, ‹_›, h3⟩
      · exact h3.elim
    · exact h.elim
  · exact h.elim
theorem eu_fld {f : Str} (he : PE X e ta) (hb : attributeBase e f X.env (eval e X.env) = eval e X.env := by rfl) : PE X (.Attribute e f pos) (tFldU X.K ta f) := by
  intro pins s σ H Q I h
  refine attr_of hb (thn (he pins s σ H _ I h) fun u s1 ⟨x, H1, I1, rx, z⟩ => ?_)
  obtain ⟨a, C, dx, fs, v, ex, ea, c, n, l, q⟩ := fldU_to z
  subst ex
  obtain rfl : u = Value.ref a := rx
  exact getattr_ok I1 ea c n l fun u' s2 I2 ru => ⟨v, H1, I2, ru, q⟩
def setU (K : PySem.W.Frag) (f : Str) (x y : V) (H : Hp) (k : Hp → Prop) : Prop := match x with
  | .ref a => (match H a with | some (.ins C dx fs) => Cls K C ∧ NoAttr K C f ∧ fs.length < 1000 ∧ k (upd H a (.ins C dx (putF f y fs))) | _ => False)
  | _ => False
theorem setU_to {K : PySem.W.Frag} {f : Str} {x y : V} {H : Hp} {k : Hp → Prop} (h : setU K f x y H k) : ∃ a C dx fs, x = .ref a ∧ H a = some (.ins C dx fs) ∧ Cls K C ∧ NoAttr K C f ∧ fs.length < 1000 ∧ k (upd H a (.ins C dx (putF f y fs))) := by
  unfold setU at h
  split at h
  · split at h
    · exact ⟨_, _, _, _, rfl, ‹_›, h⟩
    · exact h.elim
  · exact h.elim
def sFldU (K : PySem.W.Frag) (ta tv : TE) (f : Str) : TS := fun D σ H => tv σ H fun y H1 => ta σ H1 fun x H2 => setU K f x y H2 (D.nx σ)
theorem su_fld {value : Expr} {f : Str} {pos' : Pos} {tv : TE} (ha : PE X o ta) (hv : PE X value tv) (hs : swapsWith value (some (.Attribute o f pos')) pos.line X.env = pure false := by rfl) : PS X (.Assign [.Attribute o f pos'] value pos) (sFldU X.K ta tv f) := by
  intro pins s σ H D I h
  refine plainObj_wpAny_Assign_Attribute (thn (hv pins s σ H _ I h) fun u s1 ⟨y, H1, I1, ry, q⟩ => thn (ha pins s1 σ H1 _ I1 q) fun ov s2 ⟨x, H2, I2, rx, z⟩ => ?_) hs
  obtain ⟨a, C, dx, fs, ex, ea, c, n, l, q2⟩ := setU_to z
  subst ex
  obtain rfl : ov = Value.ref a := rx
  exact setattr_ok I2 ea c n l ry fun s3 I3 => ⟨σ, _, I3, q2⟩
def iaddU : V → V → Hp → VK → Prop := fun x y H Q => match x, y with | .int i, .int j => Q (.int (i + j)) H | _, _ => False
theorem iu_add : InOp X .Add iaddU := fun pins s σ H x y u v Q I rx ry h => in_add pins s σ H x y u v Q I rx ry (by cases x <;> cases y <;> first | exact ⟨_, _, rfl, rfl, h⟩ | exact h.elim)
def sFldAugU (K : PySem.W.Frag) (ta tv : TE) (rd : V → V → Hp → VK → Prop) (f : Str) : TS := fun D σ H => ta σ H fun x H1 => fldU K f x H1 fun v H1' => tv σ H1' fun y H2 => rd v y H2 fun z H3 => setU K f x z H3 (D.nx σ)
theorem su_fldaug {value : Expr} {f : Str} {tpos : Pos} {tv : TE} {op : Operator} {rd : V → V → Hp → VK → Prop} (ha : PE X o ta) (hv : PE X value tv) (hop : InOp X op rd) : PS X (.AugAssign (.Attribute o f tpos) op value pos) (sFldAugU X.K ta tv rd f) := by
  intro pins s σ H D I h
  refine wpAny_AugAssign_AttributeAny (thn (ha pins s σ H _ I h) fun ov s1 ⟨x, H1, I1, rx, z⟩ => ?_)
  obtain ⟨a, C, dx, fs, v, ex, ea, c, n, l, q⟩ := fldU_to z
  subst ex
  obtain rfl : ov = Value.ref a := rx
  refine getattr_ok I1 ea c n l fun u s2 I2 ru => thn (hv pins s2 σ H1 _ I2 q) fun w3 s3 ⟨y, H2, I3, ry, q3⟩ => thn (hop pins s3 σ H2 v y u w3 _ I3 ru ry q3) fun w4 s4 ⟨z, H3, I4, rz, q4⟩ => ?_
  obtain ⟨a', C', dx', fs', ex', ea', c', n', l', q5⟩ := setU_to q4
  cases ex'
  exact setattr_ok I4 ea' c' n' l' rz fun s5 I5 => ⟨σ, _, I5, q5⟩

def recU (C : Addr) (m : Str) (x : V) (H : Hp) (k : Prop) : Prop := match x with
  | .ref a => (match H a with | some (.ins C' _ fs) => C' = C ∧ fs.lookup m = none ∧ k | _ => False)
  | _ => False
theorem recU_to {C : Addr} {m : Str} {x : V} {H : Hp} {k : Prop} (h : recU C m x H k) : ∃ a dx fs, x = .ref a ∧ H a = some (.ins C dx fs) ∧ fs.lookup m = none ∧ k := by
  unfold recU at h
  split at h
  · split at h
    · obtain ⟨rfl, h2, h3⟩ := h
      exact ⟨_, _, _, rfl, ‹_›, h2, h3⟩
    · exact h.elim
  · exact h.elim
def tMethU (C : Addr) (m : Str) (sp : Sp) (E : L2.St → XK) (ta : TE) (t : TA) : TE := fun σ H Q => ta σ H fun x H1 => recU C m x H1 (t σ H1 fun vs H2 => sp (x :: vs) H2 Q (E σ))
section
variable {CX : CXT} {k : Nat} {f C : Addr} {fd : FuncData} {ps : List Str} {sp : Sp} {E : L2.St → XK} {x m : Str} {p apos : Pos} {es : List Expr} {t : TA}
theorem eu_meth {pl : Sem Bool} (he : PE X o ta) (c : Cls X.K C) (hm : Meth X.K C m f) (F : FnOk X.prog X.w X.K X.mg X.base CX k f fd ps sp) (hr : Room k X.A) (hb : Binds X.K fd ps []) (hx : PassesX CX X E) (ha : PA X (e :: es) t)
    (hst : starEach (e :: es) X.env = (false, eval e X.env) :: starEach es X.env := by rfl) (hpl : (backTo pos (starEach es X.env)).any (·.1) = false := by rfl)
    (ht : eval (.Call (.Attribute o m apos) (e :: es) [] pos) X.env = (do
      let ov ← eval o X.env
      standAt apos.atName
      let (f, first) ← holding [ov] (getMethod ov m pl)
      callWith pos f first (backTo pos (starEach (e :: es) X.env)) (backToKw pos (keywordEach [] X.env))) := by rfl) :
    PE X (.Call (.Attribute o m apos) (e :: es) [] pos) (tMethU C m sp E ta t) := by
  intro pins s σ H Q I h
  refine PySem.W.methodCall_KW (pl := pl) (thn (he pins s σ H _ I h) fun u s1 ⟨x, H1, I1, rx, z⟩ => ?_) ht
  obtain ⟨a, dx, fs, ex, ea, l, q⟩ := recU_to z
  subst ex
  obtain rfl : u = Value.ref a := rx
  refine getmeth_ok I1 ea c hm l ?_
  refine PySem.W.callWith_K (first := [.ref a]) (h₀ := X.base) I.ok.mod.kin hm.kp (thn (ha pos pins s1 σ H1 _ I1 q) fun us s2 ⟨vs, H2, I2, r, q2⟩ => ⟨I2.kIn, ?_⟩) hst hpl
  exact run_fnX (dvs := []) (us := .ref a :: us) (vs := .ref a :: vs) F hr hb .nil hx I2 (.cons rfl r) (by rw [List.append_nil]; exact q2)
theorem eu_meth0 {pl : Sem Bool} (he : PE X o ta) (c : Cls X.K C) (hm : Meth X.K C m f) (F : FnOk X.prog X.w X.K X.mg X.base CX k f fd ps sp) (hr : Room k X.A) (hb : Binds X.K fd ps []) (hx : PassesX CX X E)
    (ht : eval (.Call (.Attribute o m apos) [] [] pos) X.env = (do
      let ov ← eval o X.env
      standAt apos.atName
      let (f, first) ← holding [ov] (getMethod ov m pl)
      callWith pos f first (backTo pos (starEach [] X.env)) (backToKw pos (keywordEach [] X.env))) := by rfl) :
    PE X (.Call (.Attribute o m apos) [] [] pos) (tMethU C m sp E ta tNil) := by
  intro pins s σ H Q I h
  refine PySem.W.methodCall_KW (pl := pl) (thn (he pins s σ H _ I h) fun u s1 ⟨x, H1, I1, rx, z⟩ => ?_) ht
  obtain ⟨a, dx, fs, ex, ea, l, q⟩ := recU_to z
  subst ex
  obtain rfl : u = Value.ref a := rx
  refine getmeth_ok I1 ea c hm l ?_
  exact PySem.W.callWith_K0 (first := [.ref a]) I1.kIn hm.kp (run_fnX (dvs := []) (us := [.ref a]) (vs := [.ref a]) F hr hb .nil hx I1 (.cons rfl .nil) q)
def tCallU (sp : Sp) (E : L2.St → XK) (t : TA) : TE := fun σ H Q => t σ H fun vs H1 => sp vs H1 Q (E σ)
theorem eu_call (F : FnOk X.prog X.w X.K X.mg X.base CX k f fd ps sp) (hr : Room k X.A) (hg : Gl X x) (hm : X.mg x = some (.ref f)) (hk : PySem.W.keepIn X.K (.ref f) = true) (hb : Binds X.K fd ps []) (hx : PassesX CX X E)
    (ha : PA X (e :: es) t) (hdb : (x == ("__debug__" : Str)) = false := by decide) (he : starEach (e :: es) X.env = (false, eval e X.env) :: starEach es X.env := by rfl) (hpl : (backTo pos (starEach es X.env)).any (·.1) = false := by rfl) :
    PE X (.Call (.Name x p) (e :: es) [] pos) (tCallU sp E t) := by
  intro pins s σ H Q I h
  refine pe_callX (dvs := []) F hr hg hm hk hb .nil hx ha hdb he hpl pins s σ H Q I ?_
  show t σ H fun vs H1 => sp (vs ++ []) H1 Q (E σ)
  simp only [List.append_nil]
  exact h
def tMakeU (C : Addr) (sp : Sp) (E : L2.St → XK) (t : TA) : TE := fun σ H Q => t σ H fun vs H1 => ∀ x dx, H1 x = none → H1 dx = none → dx ≠ x →
  sp (.ref x :: vs) (upd (upd H1 dx (.own x)) x (.ins C dx [])) (fun v H2 => v = .non ∧ Q (.ref x) H2) (E σ)
theorem eu_make (M : Mk X.K C f) (F : FnOk X.prog X.w X.K X.mg X.base CX k f fd ps sp) (hr : Room (k + 1) X.A) (hg : Gl X x) (hm : X.mg x = some (.ref C)) (hb : Binds X.K fd ps []) (hx : PassesX CX X E)
    (ha : PA X (e :: es) t) (hdb : (x == ("__debug__" : Str)) = false := by decide) (he : starEach (e :: es) X.env = (false, eval e X.env) :: starEach es X.env := by rfl) (hpl : (backTo pos (starEach es X.env)).any (·.1) = false := by rfl) :
    PE X (.Call (.Name x p) (e :: es) [] pos) (tMakeU C sp E t) := by
  intro pins s σ H Q I h
  refine pe_makeX (dvs := []) M F hr hg hm hb .nil hx ha hdb he hpl pins s σ H Q I ?_
  show t σ H fun vs H1 => ∀ x dx, H1 x = none → H1 dx = none → dx ≠ x → sp (.ref x :: (vs ++ [])) _ _ (E σ)
  simp only [List.append_nil]
  exact h
end

def keyOf : V → Option Key
  | .int i => some (.inl i)
  | .str x => some (.inr x)
  | _ => none
theorem keyOf_to {y : V} {k : Key} (h : keyOf y = some k) : y = kV k := by
  cases y <;> first | (cases h; rfl) | cases h
def dgU (x y : V) (H : Hp) (Q : VK) : Prop := match x with
  | .ref a => (match H a with | some (.dK kvs) => (match keyOf y with | some k => (match valV kvs k with | some v => Q v H | none => False) | none => False) | _ => False)
  | _ => False
theorem dgU_to {x y : V} {H : Hp} {Q : VK} (h : dgU x y H Q) : ∃ a v, x = .ref a ∧ DGet H a y (some v) ∧ Q v H := by
  unfold dgU at h
  split at h
  · split at h
    · split at h
      · split at h
        · exact ⟨_, _, rfl, .inl ⟨_, _, .inl ‹_›, keyOf_to ‹_›, (‹_› : _ = some _).symm⟩, h⟩
        · exact h.elim
      · exact h.elim
    · exact h.elim
  · exact h.elim
def tDGetU (td ty : TE) : TE := fun σ H Q => td σ H fun x H1 => ty σ H1 fun y H2 => dgU x y H2 Q
theorem eu_dget {i : Expr} {td ty : TE} (hu : X.A.units + 1 < cLine) (ho : PE X o td) (hi : PE X i ty) (hs : NoSl i := by intro _ _; rfl) : PE X (.Subscript o i pos) (tDGetU td ty) := by
  intro pins s σ H Q I h
  refine subD_of PySem.F.slot_dict_getitem.lookup hs (thn (ho pins s σ H _ I h) fun u s1 ⟨x, H1, I1, rx, q1⟩ => thn (hi pins s1 σ H1 _ I1 q1) fun iv s2 ⟨y, H2, I2, ry, z⟩ => ?_)
  obtain ⟨a, v, ex, g, q2⟩ := dgU_to z
  subst ex
  obtain rfl : u = Value.ref a := rx
  exact ⟨dict_typeIs I2 g, d_getItem hu I2 g ry fun w' s3 I3 rw' => ⟨v, H2, I3, rw', q2⟩⟩
def dpU (x y v : V) (H : Hp) (k : Hp → Prop) : Prop := match x with
  | .ref a => (match H a with | some (.dK kvs) => (match keyOf y with | some q => kvs.length < sizeLine ∧ k (upd H a (.dK (putK kvs q v))) | none => False) | _ => False)
  | _ => False
theorem dpU_to {x y v : V} {H : Hp} {k : Hp → Prop} (h : dpU x y v H k) : ∃ a H4, x = .ref a ∧ DPut H a y v H4 ∧ k H4 := by
  unfold dpU at h
  split at h
  · split at h
    · split at h
      · exact ⟨_, _, rfl, .inl ⟨_, _, ‹_›, keyOf_to ‹_›, h.1, rfl⟩, h.2⟩
      · exact h.elim
    · exact h.elim
  · exact h.elim
def sDPutU (td ty tv : TE) : TS := fun D σ H => tv σ H fun v H1 => td σ H1 fun x H2 => ty σ H2 fun y H3 => dpU x y v H3 (D.nx σ)
theorem su_dput {i value : Expr} {td ty tv : TE} {pos' : Pos} (hu : X.A.units + 1 < cLine) (ho : PE X o td) (hi : PE X i ty) (hv : PE X value tv) (hs : swapsWith value (some (.Subscript o i pos')) pos.line X.env = pure false := by rfl) :
    PS X (.Assign [.Subscript o i pos'] value pos) (sDPutU td ty tv) := by
  intro pins s σ H D I h
  refine wpAny_Assign_Subscript (thn (hv pins s σ H _ I h) fun r s1 ⟨v, H1, I1, rv, q1⟩ => thn (ho pins s1 σ H1 _ I1 q1) fun u s2 ⟨x, H2, I2, rx, q2⟩ => thn (hi pins s2 σ H2 _ I2 q2) fun iv s3 ⟨y, H3, I3, ry, z⟩ => ?_) hs
  obtain ⟨a, H4, ex, g, q3⟩ := dpU_to z
  subst ex
  obtain rfl : u = Value.ref a := rx
  exact d_setItem hu I3 g ry rv fun s4 I4 => ⟨σ, H4, I4, q3⟩
def lpU (x y v : V) (H : Hp) (k : Hp → Prop) : Prop := match x, y with
  | .ref p, .int i => (match H p with | some (.lst xs) => (match ixN xs.length i with | some j => k (upd H p (.lst (xs.set j v))) | none => False) | _ => False)
  | _, _ => False
theorem lpU_to {x y v : V} {H : Hp} {k : Hp → Prop} (h : lpU x y v H k) : rSetL x y v H k := by
  unfold lpU at h
  split at h
  · split at h
    · split at h
      · exact ⟨_, _, _, _, rfl, rfl, ‹_›, ‹_›, h⟩
      · exact h.elim
    · exact h.elim
  · exact h.elim
def sLPutU (td ty tv : TE) : TS := fun D σ H => tv σ H fun v H1 => td σ H1 fun x H2 => ty σ H2 fun y H3 => lpU x y v H3 (D.nx σ)
theorem su_lput {i value : Expr} {td ty tv : TE} {pos' : Pos} (ho : PE X o td) (hi : PE X i ty) (hv : PE X value tv) (hs : swapsWith value (some (.Subscript o i pos')) pos.line X.env = pure false := by rfl) :
    PS X (.Assign [.Subscript o i pos'] value pos) (sLPutU td ty tv) := by
  intro pins s σ H D I h
  refine wpAny_Assign_Subscript (thn (hv pins s σ H _ I h) fun r s1 ⟨v, H1, I1, rv, q1⟩ => thn (ho pins s1 σ H1 _ I1 q1) fun u s2 ⟨x, H2, I2, rx, q2⟩ => thn (hi pins s2 σ H2 _ I2 q2) fun iv s3 ⟨y, H3, I3, ry, z⟩ => ?_) hs
  exact thn (set_list pins s3 σ H3 x y v u iv r _ I3 rx ry rv (lpU_to z)) fun _ s4 ⟨H4, I4, q4⟩ => ⟨σ, H4, I4, q4⟩

def ixU : R2 := fun x y H Q => match x, y with
  | .ref p, .int i => (match H p with
    | some (.lst xs) => (match atI xs i with | some v => Q v H | none => False)
    | some (.tup xs) => (match atI xs i with | some v => Q v H | none => False)
    | _ => False)
  | _, _ => False
theorem xu_seq : IxR X ixU := IxR.imp (IxR.or ix_list ix_tup) fun x y H Q h => by
  unfold ixU at h
  split at h
  · split at h
    · split at h
      · exact .inl ⟨_, _, _, _, rfl, rfl, .inl (.inl ‹_›), ‹_›, h⟩
      · exact h.elim
    · split at h
      · exact .inr ⟨_, _, _, _, rfl, rfl, .inl (.inl ‹_›), ‹_›, h⟩
      · exact h.elim
    · exact h.elim
  · exact h.elim
theorem eu_ix {i : Expr} {ti : TE} {r : R2} (hr : IxR X r) (ha : PE X a ta) (hb : PE X i ti) (hs : PlainIx i := by intro _ _; rfl) : PE X (.Subscript a i pos) (tOp r ta ti) := pe_ix hr ha hb hs
def lenU : List V → Hp → VK → Prop := fun xs H Q => match xs with
  | [.ref p] => (match H p with | some (.lst ys) => Q (.int ys.length) H | some (.tup ys) => Q (.int ys.length) H | some (.dK ks) => Q (.int ks.length) H | _ => False)
  | [.str z] => z.length ≤ sizeLine ∧ Q (.int z.length) H
  | _ => False
theorem cu_len : CallR X (.builtin "len") lenU := CallR.imp (CallR.or call_len_seq (CallR.or call_lenD call_len_str)) fun xs H Q h => by
  unfold lenU at h
  split at h
  · split at h
    · exact .inl ⟨_, _, rfl, .inl (.inl (.inl ‹_›)), h⟩
    · exact .inl ⟨_, _, rfl, .inr (.inl (.inl ‹_›)), h⟩
    · exact .inr (.inl ⟨_, _, rfl, ‹_›, h⟩)
    · exact h.elim
  · exact .inr (.inr ⟨_, rfl, h.1, h.2⟩)
  · exact h.elim
def listU : List V → Hp → VK → Prop := fun xs H Q => match xs with
  | [.ref p] => (match H p with | some (.lst ys) => ∀ l, H l = none → Q (.ref l) (upd H l (.lst ys)) | some (.tup ys) => ∀ l, H l = none → Q (.ref l) (upd H l (.lst ys)) | _ => False)
  | _ => False
theorem cu_list : CallR X (.type "list") listU := CallR.imp call_list_of fun xs H Q h => by
  unfold listU at h
  split at h
  · split at h
    · exact ⟨_, _, rfl, .inl (.inl (.inl ‹_›)), h⟩
    · exact ⟨_, _, rfl, .inr (.inl (.inl ‹_›)), h⟩
    · exact h.elim
  · exact h.elim
def intU : List V → Hp → VK → Prop := fun xs H Q => match xs with
  | [.int i] => Q (.int i) H
  | [.bl k] => Q (.int (if k then 1 else 0)) H
  | _ => False
theorem cu_int : CallR X (.type "int") intU := CallR.imp call_int1 fun xs H Q h => by
  unfold intU at h
  split at h
  · exact .inl ⟨_, rfl, h⟩
  · exact .inr ⟨_, rfl, h⟩
  · exact h.elim
end
end LX

set_option Elab.async false
set_option linter.all false
set_option maxRecDepth 100000
namespace LX
open PySem PySem.Spec PyProof.Rows L2

section
variable {X : Cx}
def isBl : V → Bool
  | .bl _ => true
  | _ => false
def isTr : V → Bool
  | .bl true => true
  | _ => false
def allU : List V → Hp → VK → Prop := fun xs H Q => match xs with
  | [.ref p] => (match H p with | some (.lst ys) => ys.all isBl = true ∧ Q (.bl (ys.all isTr)) H | _ => False)
  | _ => False
theorem range_all {α : Type} (p : α → Bool) : ∀ (l : List α), (List.range l.length).all (fun i => (l[i]?).any p) = l.all p := fun l => by
  rw [Bool.eq_iff_iff, List.all_eq_true, List.all_eq_true]
  constructor
  · intro h x hx
    obtain ⟨i, hi, e⟩ := List.mem_iff_getElem.mp hx
    have := h i (List.mem_range.mpr hi)
    rw [List.getElem?_eq_getElem hi, e] at this
    simpa using this
  · intro h i hi
    have hi' := List.mem_range.mp hi
    rw [List.getElem?_eq_getElem hi']
    simpa using h _ (List.getElem_mem hi')
theorem cu_all (hc : X.calm = true) : CallR X (.builtin "all") allU := by
  intro pins s σ H xs us Q I r h
  unfold allU at h
  split at h
  · rename_i p
    split at h
    · rename_i ys hp
      obtain ⟨hb, q⟩ := h
      cases r with
      | cons r1 rr =>
        cases rr
        cases r1
        obtain ⟨its, n, rv, e, hz⟩ := I.lst hp
        have il : s.heap.IsList p its.toArray := ⟨_, e, rfl, n, rfl⟩
        have hlt := Heap.lt_size e
        refine call_all_walk (wpAny_pyIter_list il ?_)
        have W : Walks X.prog X.w X.A.in1 s.heap.objs.size _ _ _ _ _ := Walks.list (A := X.A.in1) (show X.A.in1.handled = none from I.ok.hd hc) s.heap.objs.size p (Nat.ne_of_lt hlt) its.toArray
        refine ⟨s.heap.objs.size, _, _, _, _, _, fun i => (ys[i]?).any isTr, rfl, W, ⟨⟨_, Heap.get?_push_size _ rfl, rfl, rfl⟩, il.at fun o e => Heap.get?_push_of_some _ e⟩, ?_, ?_⟩
        · intro i v s' Q' E' hv hq
          have hv' : its[i]? = some v := by simpa using hv
          have hi : i < ys.length := by rw [rv.length]; exact (List.getElem?_eq_some_iff.mp hv').1
          obtain ⟨u, hu, ru⟩ := rv.get (List.getElem?_eq_getElem hi)
          rw [hv'] at hu
          cases hu
          have hbl : isBl ys[i] = true := List.all_eq_true.mp hb _ (List.getElem_mem hi)
          have hq : Q' ((ys[i]?).any isTr) s' := hq
          rw [List.getElem?_eq_getElem hi] at hq
          cases q2 : ys[i] with
          | bl c =>
            rw [q2] at ru hq
            cases ru
            cases c <;> exact wpAny_truthy_bool hq
          | _ => rw [q2] at hbl; cases hbl
        · intro h' tk hk
          have I1 : Inv X pins σ H { s with heap := s.heap.push { cls := .type "list_iterator", data := .fields #[.ref p, rawInt 0] }, toks := s.toks } := I.kept fun b o e => Heap.get?_push_of_some _ e
          have fp := I.fpOk (H' := H) (Nat.le_refl _) (I.hok.fresh (Nat.le_refl _))
          have sz : its.toArray.size = ys.length := by simp [rv.length]
          refine ⟨.bl (ys.all isTr), H, ?_, ?_, q⟩
          · refine (I.kept (t' := s.toks) (fun b o e => Heap.get?_push_of_some _ e)).turned (t' := tk) (it := s.heap.objs.size) (fun b o hb e => hk b o (by simpa using hb) e) fp.1 fp.2.1 fp.2.2.2.1 fp.2.2.2.2.1 fp.2.2.2.2.2
          · rw [sz, range_all]; rfl
    · exact h.elim
  · exact h.elim

def tyO (H : Hp) : V → Option Value
  | .non => some (.type "NoneType")
  | .bl _ => some (.type "bool")
  | .int _ => some (.type "int")
  | .str _ => some (.type "str")
  | .ref a => (match H a with | some (.lst _) => some (.type "list") | some (.tup _) => some (.type "tuple") | some (.dK _) => some (.type "dict") | _ => none)
  | _ => none
theorem tyO_to {K : PySem.W.Frag} {H : Hp} {x : V} {t : Value} (h : tyO H x = some t) : TyOf K H x t := by
  cases x with
  | non => cases h; exact .non
  | bl b => cases h; exact .bl b
  | int i => cases h; exact .int i
  | str i => cases h; exact .str i
  | ref a =>
    unfold tyO at h
    dsimp only at h
    split at h
    · cases h; exact .lst ‹_›
    · cases h; exact .tup ‹_›
    · cases h; exact .dK ‹_›
    · cases h
  | _ => cases h
def okC : V → Bool
  | .ty _ => true
  | .ref _ => true
  | _ => false
theorem okC_to {c : V} (h : okC c = true) : RelV c (cV c) := by
  cases c <;> first | rfl | cases h
def isiU (K : PySem.W.Frag) : List V → Hp → VK → Prop := fun xs H Q => match xs with
  | [x, c] => okC c = true ∧ (match tyO H x with | some t => (match PySem.W.kitOne K t (cV c) with | some b => Q (.bl b) H | none => False) | none => False)
  | _ => False
theorem cu_isi : CallR X (.builtin "isinstance") (isiU X.K) := CallR.imp call_isi fun xs H Q h => by
  unfold isiU at h
  split at h
  · obtain ⟨h1, h2⟩ := h
    split at h2
    · split at h2
      · refine ⟨_, _, _, _, rfl, okC_to h1, tyO_to ‹_›, ‹_›, h2⟩
      · exact h2.elim
    · exact h2.elim
  · exact h.elim
def minU : List V → Hp → VK → Prop := fun xs H Q => match xs with
  | [.int i, .int j] => Q (.int (if j < i then j else i)) H
  | _ => False
theorem cu_min (hc : X.calm = true) : CallR X (.builtin "min") minU := CallR.imp (call_min2 hc) fun xs H Q h => by
  unfold minU at h
  split at h
  · exact ⟨_, _, rfl, h⟩
  · exact h.elim
end

theorem upd_new {H : Hp} {l p : Addr} {o u : HO} (hl : H l = none) (hp : H p = some u) : upd H l o p = some u := by rw [upd_ne (ne_of_none hp hl)]; exact hp
theorem same_new {H : Hp} {l : Addr} {o : HO} (hl : H l = none) : Same H (upd H l o) := fun b u e => upd_new hl e
def But (xs : List Addr) (H H' : Hp) : Prop := ∀ b o, H b = some o → b ∉ xs → H' b = some o
theorem But.refl (xs : List Addr) (H : Hp) : But xs H H := fun _ _ e _ => e
theorem But.same {xs : List Addr} {H H' : Hp} (s : Same H H') : But xs H H' := fun b o e _ => s b o e
theorem But.trans {xs : List Addr} {H H1 H2 : Hp} (a : But xs H H1) (b : But xs H1 H2) : But xs H H2 := fun c o e n => b c o (a c o e n) n
theorem But.upd {xs : List Addr} {H : Hp} {a : Addr} {o : HO} (h : a ∈ xs) : But xs H (L2.upd H a o) := fun b u e n => by rw [upd_ne (fun z : b = a => n (by rw [z]; exact h))]; exact e
theorem But.mono {xs ys : List Addr} {H H' : Hp} (a : But xs H H') (s : ∀ x ∈ xs, x ∈ ys) : But ys H H' := fun b o e n => a b o e fun z => n (s b z)
end LX

namespace Lf

structure Fl where
  high : List Bool
  inside : List (Option Int)
  up : List Int
  down : List Int
  sides : List Bool
  gone : List Int
  drawn : Int
  out : Int

structure Md where
  high : List Bool
  sides : List Bool
  places : List (Int × Int)
  through : List Int
  drawn : Int
  out : Int

def isCh (n : Nat) (p : Int) : Bool := decide (0 < p) && decide (p < (n : Int) + 1)
def canGive (h : List Bool) (p : Int) : Bool := if isCh h.length p then h.getD (p - 1).toNat false else true
def canTake (h : List Bool) (p : Int) : Bool := if isCh h.length p then !h.getD (p - 1).toNat false else true
def level (h : List Bool) (g : Int) : Bool := canGive h g && canTake h (g + 1)

inductive LetR | noGate | noFall | done
  deriving DecidableEq
inductive SailR | noBoat | notFirst | shut | occupied | done
  deriving DecidableEq

def letOut (h : List Bool) (g : Int) : LetR :=
  if g < 0 ∨ (h.length : Int) + 1 ≤ g then .noGate else if !canGive h (g + 1) then .noFall else if !canTake h g then .noFall else .done
def giveH (h : List Bool) (p : Int) : List Bool := if isCh h.length p then h.set (p - 1).toNat false else h
def takeH (h : List Bool) (p : Int) : List Bool := if isCh h.length p then h.set (p - 1).toNat true else h
def letH (h : List Bool) (g : Int) : List Bool := takeH (giveH h (g + 1)) g
def Fl.let (f : Fl) (g : Int) : Fl := { f with high := letH f.high g, drawn := f.drawn + (if isCh f.high.length (g + 1) then 0 else 1), out := f.out + (if isCh f.high.length g then 0 else 1) }

def Md.letWord (m : Md) (g : Int) : LetR :=
  if g < 0 ∨ (m.high.length : Int) < g then .noGate
  else if !(([false] ++ m.high ++ [true]).getD (g + 1).toNat false) || (decide (0 < g) && ([false] ++ m.high ++ [true]).getD g.toNat false) then .noFall else .done
def Md.let (m : Md) (g : Int) : Md :=
  { m with high := (if 0 < g then (if g < m.high.length then m.high.set g.toNat false else m.high).set (g - 1).toNat true else (if g < m.high.length then m.high.set g.toNat false else m.high)),
           drawn := m.drawn + (if g = m.high.length then 1 else 0), out := m.out + (if g = 0 then 1 else 0) }

theorem getD_pre {h : List Bool} {a b : Bool} {k : Nat} (hk : k < h.length) : ([a] ++ h ++ [b]).getD (k + 1) false = h.getD k false := by
  simp [List.getD, List.getElem?_append, hk]
theorem getD_end {h : List Bool} {a b : Bool} : ([a] ++ h ++ [b]).getD (h.length + 1) false = b := by
  simp [List.getD, List.getElem?_append]

theorem isCh_true {n : Nat} {p : Int} (h1 : 0 < p) (h2 : p < (n : Int) + 1) : isCh n p = true := by simp [isCh, h1, h2]
theorem isCh_lo {n : Nat} {p : Int} (h1 : p ≤ 0) : isCh n p = false := by
  have : ¬ 0 < p := by omega
  simp [isCh, this]
theorem isCh_hi {n : Nat} {p : Int} (h1 : (n : Int) + 1 ≤ p) : isCh n p = false := by
  have : ¬ p < (n : Int) + 1 := by omega
  simp [isCh, this]

theorem canGive_pad {h : List Bool} {b : Bool} {p : Int} (h0 : 0 ≤ p) (h1 : p ≤ (h.length : Int) + 1) : canGive h p = if p = (h.length : Int) + 1 then true else ([true] ++ h ++ [b]).getD p.toNat false := by
  unfold canGive
  by_cases e : p = (h.length : Int) + 1
  · rw [if_pos e, isCh_hi (by omega)]; rfl
  · rw [if_neg e]
    by_cases z : p = 0
    · subst z; rw [isCh_lo (by omega)]; simp
    · rw [isCh_true (by omega) (by omega), if_pos rfl]
      have : p.toNat = (p - 1).toNat + 1 := by omega
      rw [this, getD_pre (by omega)]
theorem canGive_pad' {h : List Bool} {p : Int} (h0 : 0 < p) (h1 : p ≤ (h.length : Int) + 1) : canGive h p = ([false] ++ h ++ [true]).getD p.toNat false := by
  unfold canGive
  by_cases e : p = (h.length : Int) + 1
  · rw [isCh_hi (by omega)]
    have : p.toNat = h.length + 1 := by omega
    rw [this, getD_end]; simp
  · rw [isCh_true (by omega) (by omega), if_pos rfl]
    have : p.toNat = (p - 1).toNat + 1 := by omega
    rw [this, getD_pre (by omega)]
theorem canTake_pad {h : List Bool} {p : Int} {a b : Bool} (h0 : 0 < p) (h1 : p ≤ (h.length : Int)) : canTake h p = !([a] ++ h ++ [b]).getD p.toNat false := by
  unfold canTake
  rw [isCh_true (by omega) (by omega), if_pos rfl]
  have : p.toNat = (p - 1).toNat + 1 := by omega
  rw [this, getD_pre (by omega)]
theorem canTake_out {h : List Bool} {p : Int} (h1 : p ≤ 0 ∨ (h.length : Int) + 1 ≤ p) : canTake h p = true := by
  unfold canTake
  rcases h1 with z | z
  · rw [isCh_lo z]; rfl
  · rw [isCh_hi z]; rfl

theorem let_agree (m : Md) (g : Int) : m.letWord g = letOut m.high g := by
  unfold Md.letWord letOut
  by_cases c : g < 0 ∨ (m.high.length : Int) < g
  · have c' : g < 0 ∨ (m.high.length : Int) + 1 ≤ g := by omega
    rw [if_pos c, if_pos c']
  · have c' : ¬ (g < 0 ∨ (m.high.length : Int) + 1 ≤ g) := by omega
    rw [if_neg c, if_neg c', canGive_pad' (by omega) (by omega)]
    by_cases z : 0 < g
    · rw [canTake_pad (a := false) (b := true) z (by omega)]
      simp only [z, decide_true, Bool.true_and]
      cases ([false] ++ m.high ++ [true]).getD (g + 1).toNat false <;> cases ([false] ++ m.high ++ [true]).getD g.toNat false <;> rfl
    · rw [canTake_out (.inl (by omega))]
      simp only [z, decide_false, Bool.false_and, Bool.or_false]
      cases ([false] ++ m.high ++ [true]).getD (g + 1).toNat false <;> rfl

theorem letH_len (h : List Bool) (g : Int) : (letH h g).length = h.length := by
  unfold letH takeH giveH
  split <;> split <;> simp

theorem let_done {h : List Bool} {g : Int} (d : letOut h g = .done) : 0 ≤ g ∧ g ≤ h.length ∧ canGive h (g + 1) = true ∧ canTake h g = true := by
  unfold letOut at d
  split at d
  · cases d
  · rename_i c
    split at d
    · cases d
    · rename_i c1
      split at d
      · cases d
      · rename_i c2
        refine ⟨by omega, by omega, ?_, ?_⟩
        · simpa using c1
        · simpa using c2

theorem let_same {m : Md} {g : Int} (h0 : 0 ≤ g) (h1 : g ≤ m.high.length) : (m.let g).high = letH m.high g := by
  unfold Md.let letH takeH giveH
  simp only
  by_cases a : g < m.high.length
  · rw [if_pos a, isCh_true (show (0:Int) < g + 1 by omega) (by omega), if_pos rfl, show (g + 1 - 1) = g by omega]
    by_cases z : 0 < g
    · rw [if_pos z, isCh_true z (by rw [List.length_set]; omega), if_pos rfl]
    · rw [if_neg z, isCh_lo (by omega)]; rfl
  · rw [if_neg a, isCh_hi (show (m.high.length : Int) + 1 ≤ g + 1 by omega)]
    simp only [Bool.false_eq_true, if_false]
    by_cases z : 0 < g
    · rw [if_pos z, isCh_true z (by omega), if_pos rfl]
    · rw [if_neg z, isCh_lo (by omega)]; rfl

def Fl.new (h : List Bool) : Fl := ⟨h, List.replicate h.length none, [], [], [], [], 0, 0⟩
def Md.new (h : List Bool) : Md := ⟨h, [], [], [], 0, 0⟩
def Md.keys (m : Md) : List Int := m.places.map (·.1)
def Md.side (m : Md) (b : Int) : Bool := m.sides.getD b.toNat false
def stepOf (side : Bool) (here : Int) : Int := if side then here - 1 else here + 1
def Md.ahead (m : Md) (b here : Int) : List Int := m.keys.filter fun one => (m.places.lookup one == some here) && (m.side one == m.side b) && decide (one < b)
def shutAt (h : List Bool) (g : Int) : Bool := !(([true] ++ h ++ [false]).getD g.toNat false) || ([true] ++ h ++ [false]).getD (g + 1).toNat false
def Md.sailWord (m : Md) (b : Int) : SailR := match m.places.lookup b with
  | none => .noBoat
  | some here =>
    if (here = 0 ∨ here = (m.high.length : Int) + 1) ∧ 0 < (m.ahead b here).length then .notFirst
    else if shutAt m.high (min here (stepOf (m.side b) here)) then .shut
    else if (0 < stepOf (m.side b) here ∧ stepOf (m.side b) here ≤ m.high.length) ∧ stepOf (m.side b) here ∈ m.places.map (·.2) then .occupied
    else .done
def putAt (b p : Int) : List (Int × Int) → List (Int × Int)
  | [] => []
  | (c, q) :: r => if c = b then (c, p) :: r else (c, q) :: putAt b p r
def dropAt (b : Int) (l : List (Int × Int)) : List (Int × Int) := l.filter fun x => decide (x.1 ≠ b)
def outOf (n : Nat) (p : Int) : Bool := decide (p = 0) || decide (p = (n : Int) + 1)
def Md.sail (m : Md) (b : Int) : Md := match m.places.lookup b with
  | none => m
  | some here =>
    if outOf m.high.length (stepOf (m.side b) here) then { m with places := dropAt b m.places, through := m.through ++ [b] }
    else { m with places := putAt b (stepOf (m.side b) here) m.places }
def Md.come (m : Md) (side : Bool) : Md := { m with sides := m.sides ++ [side], places := m.places ++ [((m.sides.length : Int), if side then (m.high.length : Int) + 1 else 0)] }

def Fl.row (f : Fl) (side : Bool) : List Int := if side then f.down else f.up
def Fl.place? (f : Fl) (b : Int) : Option Int :=
  if b ∈ f.up then some 0 else if b ∈ f.down then some ((f.high.length : Int) + 1) else if some b ∈ f.inside then some ((f.inside.idxOf (some b) : Int) + 1) else none
def Fl.side (f : Fl) (b : Int) : Bool := f.sides.getD b.toNat false
def Fl.sailOut (f : Fl) (b : Int) : SailR := match f.place? b with
  | none => .noBoat
  | some here =>
    if b ∈ f.row (f.side b) ∧ (f.row (f.side b)).head? ≠ some b then .notFirst
    else if !level f.high (min here (stepOf (f.side b) here)) then .shut
    else if isCh f.high.length (stepOf (f.side b) here) ∧ f.inside.getD (stepOf (f.side b) here - 1).toNat none ≠ none then .occupied
    else .done
def Fl.leave (f : Fl) (here : Int) (side : Bool) : Fl :=
  if isCh f.high.length here then { f with inside := f.inside.set (here - 1).toNat none } else if side then { f with down := f.down.drop 1 } else { f with up := f.up.drop 1 }
def Fl.enter (f : Fl) (there b : Int) : Fl :=
  if isCh f.high.length there then { f with inside := f.inside.set (there - 1).toNat (some b) } else { f with gone := f.gone ++ [b] }
def Fl.sail (f : Fl) (b here : Int) : Fl := (f.leave here (f.side b)).enter (stepOf (f.side b) here) b
def Fl.come (f : Fl) (side : Bool) : Fl := { f with sides := f.sides ++ [side], up := if side then f.up else f.up ++ [(f.sides.length : Int)], down := if side then f.down ++ [(f.sides.length : Int)] else f.down }

structure Rel (f : Fl) (m : Md) : Prop where
  high : f.high = m.high
  sides : f.sides = m.sides
  gone : f.gone = m.through
  drawn : f.drawn = m.drawn
  out : f.out = m.out
  len : f.inside.length = f.high.length
  asc : m.keys.Pairwise (· < ·)
  key : ∀ x ∈ m.places, 0 ≤ x.1 ∧ x.1 < (m.sides.length : Int)
  rng : ∀ x ∈ m.places, 0 ≤ x.2 ∧ x.2 ≤ (m.high.length : Int) + 1
  lo : ∀ x ∈ m.places, x.2 = 0 → m.side x.1 = false
  hi : ∀ x ∈ m.places, x.2 = (m.high.length : Int) + 1 → m.side x.1 = true
  up : f.up = (m.places.filter fun x => decide (x.2 = 0)).map (·.1)
  down : f.down = (m.places.filter fun x => decide (x.2 = (m.high.length : Int) + 1)).map (·.1)
  ins : ∀ (k : Nat) (b : Int), k < m.high.length → (f.inside[k]? = some (some b) ↔ (b, (k : Int) + 1) ∈ m.places)
  one : ∀ x ∈ m.places, ∀ y ∈ m.places, x.2 = y.2 → 0 < x.2 → x.2 ≤ m.high.length → x.1 = y.1

theorem lookup_mem {l : List (Int × Int)} {b p : Int} (h : l.lookup b = some p) : (b, p) ∈ l := by
  induction l with
  | nil => cases h
  | cons x r ih =>
    obtain ⟨c, q⟩ := x
    rw [List.lookup_cons] at h
    cases e : b == c with
    | true => rw [e] at h; cases h; rw [beq_iff_eq.mp e]; exact List.mem_cons_self
    | false => rw [e] at h; exact List.mem_cons_of_mem _ (ih h)
theorem mem_lookup {l : List (Int × Int)} {b p : Int} (nd : (l.map (·.1)).Pairwise (· < ·)) (h : (b, p) ∈ l) : l.lookup b = some p := by
  induction l with
  | nil => cases h
  | cons x r ih =>
    obtain ⟨c, q⟩ := x
    rw [List.map_cons, List.pairwise_cons] at nd
    rw [List.lookup_cons]
    rcases List.mem_cons.mp h with e | e
    · cases e; simp
    · have : c < b := nd.1 b (List.mem_map.mpr ⟨_, e, rfl⟩)
      have : (b == c) = false := by simp; omega
      rw [this]
      exact ih nd.2 e
theorem lookup_none {l : List (Int × Int)} {b : Int} (h : l.lookup b = none) : ∀ p, (b, p) ∉ l := by
  induction l with
  | nil => intro p h; cases h
  | cons x r ih =>
    obtain ⟨c, q⟩ := x
    rw [List.lookup_cons] at h
    intro p hp
    cases e : b == c with
    | true => rw [e] at h; cases h
    | false =>
      rw [e] at h
      rcases List.mem_cons.mp hp with z | z
      · cases z; simp at e
      · exact ih h p z

section
variable {f : Fl} {m : Md}
theorem Rel.place (R : Rel f m) (b : Int) : f.place? b = m.places.lookup b := by
  have hup : b ∈ f.up ↔ (b, 0) ∈ m.places := by
    rw [R.up]; simp only [List.mem_map, List.mem_filter, decide_eq_true_eq]
    constructor
    · rintro ⟨⟨c, q⟩, ⟨h1, h2⟩, h3⟩; simp only at h2 h3; subst h2 h3; exact h1
    · intro h; exact ⟨(b, 0), ⟨h, rfl⟩, rfl⟩
  have hdn : b ∈ f.down ↔ (b, (m.high.length : Int) + 1) ∈ m.places := by
    rw [R.down]; simp only [List.mem_map, List.mem_filter, decide_eq_true_eq]
    constructor
    · rintro ⟨⟨c, q⟩, ⟨h1, h2⟩, h3⟩; simp only at h2 h3; subst h2 h3; exact h1
    · intro h; exact ⟨(b, _), ⟨h, rfl⟩, rfl⟩
  unfold Fl.place?
  cases e : m.places.lookup b with
  | none =>
    have nn := lookup_none e
    rw [if_neg (fun h => nn _ (hup.mp h)), if_neg (fun h => nn _ (hdn.mp h)), if_neg]
    intro h
    obtain ⟨k, hk, e1⟩ := List.mem_iff_getElem.mp h
    exact nn _ ((R.ins k b (by rw [← R.high, ← R.len]; exact hk)).mp (by rw [List.getElem?_eq_getElem hk, e1]))
  | some p =>
    have hm := lookup_mem e
    obtain ⟨r1, r2⟩ := R.rng _ hm
    have uniq : ∀ q, (b, q) ∈ m.places → q = p := fun q hq => by
      have := mem_lookup R.asc hq; rw [e] at this; exact (Option.some.inj this).symm
    by_cases z : p = 0
    · subst z; rw [if_pos (hup.mpr hm)]
    · rw [if_neg (fun h => z (uniq _ (hup.mp h)).symm)]
      by_cases z2 : p = (m.high.length : Int) + 1
      · subst z2; rw [if_pos (hdn.mpr hm), R.high]
      · rw [if_neg (fun h => z2 (uniq _ (hdn.mp h)).symm)]
        have hk : (p - 1).toNat < m.high.length := by simp only at r1 r2; omega
        have hp1 : (((p - 1).toNat : Nat) : Int) + 1 = p := by simp only at r1; omega
        have hi : f.inside[(p - 1).toNat]? = some (some b) := (R.ins _ b hk).mpr (by rw [hp1]; exact hm)
        have mem : some b ∈ f.inside := List.mem_of_getElem? hi
        rw [if_pos mem]
        have hidx : f.inside.idxOf (some b) < f.inside.length := List.idxOf_lt_length_of_mem mem
        have h2 : f.inside[f.inside.idxOf (some b)]? = some (some b) := by
          rw [List.getElem?_eq_getElem hidx, List.getElem_idxOf hidx]
        have := uniq _ ((R.ins _ b (by rw [← R.high, ← R.len]; exact hidx)).mp h2)
        rw [← this]

theorem Rel.side (R : Rel f m) (b : Int) : f.side b = m.side b := by unfold Fl.side Md.side; rw [R.sides]

theorem level_shut {h : List Bool} {g : Int} (h0 : 0 ≤ g) (h1 : g ≤ h.length) : (!level h g) = shutAt h g := by
  unfold level shutAt
  rw [canGive_pad (b := false) h0 (by omega), if_neg (by omega)]
  by_cases e : g + 1 ≤ (h.length : Int)
  · rw [canTake_pad (a := true) (b := false) (by omega) e]
    cases ([true] ++ h ++ [false]).getD g.toNat false <;> cases ([true] ++ h ++ [false]).getD (g + 1).toNat false <;> rfl
  · rw [canTake_out (.inr (by omega))]
    have : (g + 1).toNat = h.length + 1 := by omega
    rw [this, getD_end]
    cases ([true] ++ h ++ [false]).getD g.toNat false <;> rfl

theorem head_min {l : List Int} (h : l.Pairwise (· < ·)) {b : Int} (hb : b ∈ l) : l.head? ≠ some b ↔ ∃ c ∈ l, c < b := by
  cases l with
  | nil => cases hb
  | cons a r =>
    rw [List.pairwise_cons] at h
    simp only [List.head?_cons, ne_eq, Option.some.injEq]
    constructor
    · intro hne
      rcases List.mem_cons.mp hb with e | e
      · exact absurd e.symm hne
      · exact ⟨a, List.mem_cons_self, h.1 b e⟩
    · rintro ⟨c, hc, hlt⟩ e
      subst e
      rcases List.mem_cons.mp hc with z | z
      · omega
      · have := h.1 c z; omega

theorem asc_filter {l : List (Int × Int)} (h : (l.map (·.1)).Pairwise (· < ·)) (p : Int × Int → Bool) : ((l.filter p).map (·.1)).Pairwise (· < ·) :=
  h.sublist ((List.filter_sublist).map _)

theorem Rel.sailOut (R : Rel f m) (b : Int) : f.sailOut b = m.sailWord b := by
  unfold Fl.sailOut Md.sailWord
  rw [R.place b]
  cases e : m.places.lookup b with
  | none => rfl
  | some here =>
    have hm := lookup_mem e
    obtain ⟨r1, r2⟩ := R.rng _ hm
    simp only at r1 r2
    simp only
    rw [R.side b]
    have uniq : ∀ q, (b, q) ∈ m.places → q = here := fun q hq => by
      have := mem_lookup R.asc hq; rw [e] at this; exact (Option.some.inj this).symm
    -- the row
    have hrow : ∀ x, x ∈ f.row (m.side b) ↔ (x, if m.side b then (m.high.length : Int) + 1 else 0) ∈ m.places := fun x => by
      unfold Fl.row
      cases m.side b with
      | true =>
        simp only [if_true]
        rw [R.down]; simp only [List.mem_map, List.mem_filter, decide_eq_true_eq]
        constructor
        · rintro ⟨⟨c, q⟩, ⟨h1, h2⟩, h3⟩; simp only at h2 h3; subst h2 h3; exact h1
        · intro h; exact ⟨(x, _), ⟨h, rfl⟩, rfl⟩
      | false =>
        simp only [Bool.false_eq_true, if_false]
        rw [R.up]; simp only [List.mem_map, List.mem_filter, decide_eq_true_eq]
        constructor
        · rintro ⟨⟨c, q⟩, ⟨h1, h2⟩, h3⟩; simp only at h2 h3; subst h2 h3; exact h1
        · intro h; exact ⟨(x, 0), ⟨h, rfl⟩, rfl⟩
    have hasc : (f.row (m.side b)).Pairwise (· < ·) := by
      unfold Fl.row
      cases m.side b with
      | true => simp only [if_true]; rw [R.down]; exact asc_filter R.asc _
      | false => simp only [Bool.false_eq_true, if_false]; rw [R.up]; exact asc_filter R.asc _
    have c1 : (b ∈ f.row (m.side b) ∧ (f.row (m.side b)).head? ≠ some b) ↔ ((here = 0 ∨ here = (m.high.length : Int) + 1) ∧ 0 < (m.ahead b here).length) := by
      have hah : 0 < (m.ahead b here).length ↔ ∃ c, (c, here) ∈ m.places ∧ m.side c = m.side b ∧ c < b := by
        rw [List.length_pos_iff_exists_mem]
        unfold Md.ahead Md.keys
        constructor
        · rintro ⟨c, hc⟩
          rw [List.mem_filter] at hc
          obtain ⟨_, hc⟩ := hc
          simp only [Bool.and_eq_true, beq_iff_eq, decide_eq_true_eq] at hc
          exact ⟨c, lookup_mem hc.1.1, hc.1.2, hc.2⟩
        · rintro ⟨c, h1, h2, h3⟩
          refine ⟨c, List.mem_filter.mpr ⟨List.mem_map.mpr ⟨_, h1, rfl⟩, ?_⟩⟩
          simp only [Bool.and_eq_true, beq_iff_eq, decide_eq_true_eq]
          exact ⟨⟨mem_lookup R.asc h1, h2⟩, h3⟩
      constructor
      · rintro ⟨h1, h2⟩
        have hh := uniq _ ((hrow b).mp h1)
        obtain ⟨c, hc, hlt⟩ := (head_min hasc h1).mp h2
        have hc' := (hrow c).mp hc
        refine ⟨?_, hah.mpr ⟨c, by rw [← hh]; exact hc', ?_, hlt⟩⟩
        · cases q : m.side b with
          | true => rw [q] at hh; right; simpa using hh.symm
          | false => rw [q] at hh; left; simpa using hh.symm
        · cases q : m.side b with
          | true => rw [q] at hc'; exact R.hi _ hc' rfl
          | false => rw [q] at hc'; exact R.lo _ hc' rfl
      · rintro ⟨h1, h2⟩
        obtain ⟨c, hc, hs, hlt⟩ := hah.mp h2
        have hw : here = if m.side b then (m.high.length : Int) + 1 else 0 := by
          rcases h1 with z | z
          · have := R.lo _ hm z; simp only at this; rw [this]; simpa using z
          · have := R.hi _ hm z; simp only at this; rw [this]; simpa using z
        have hb : b ∈ f.row (m.side b) := (hrow b).mpr (by rw [← hw]; exact hm)
        exact ⟨hb, (head_min hasc hb).mpr ⟨c, (hrow c).mpr (by rw [← hw]; exact hc), hlt⟩⟩
    -- the gate
    have bounds : 0 ≤ min here (stepOf (m.side b) here) ∧ min here (stepOf (m.side b) here) ≤ m.high.length := by
      unfold stepOf
      cases q : m.side b with
      | true =>
        have : here ≠ 0 := fun z => by have := R.lo _ hm z; simp only at this; rw [q] at this; cases this
        simp only [if_true]; omega
      | false =>
        have : here ≠ (m.high.length : Int) + 1 := fun z => by have := R.hi _ hm z; simp only at this; rw [q] at this; cases this
        simp only [Bool.false_eq_true, if_false]; omega
    have c2 : (!level f.high (min here (stepOf (m.side b) here))) = shutAt m.high (min here (stepOf (m.side b) here)) := by
      rw [R.high]; exact level_shut bounds.1 bounds.2
    have c3 : (isCh f.high.length (stepOf (m.side b) here) = true ∧ f.inside.getD (stepOf (m.side b) here - 1).toNat none ≠ none) ↔
        ((0 < stepOf (m.side b) here ∧ stepOf (m.side b) here ≤ m.high.length) ∧ stepOf (m.side b) here ∈ m.places.map (·.2)) := by
      generalize stepOf (m.side b) here = t
      rw [R.high]
      by_cases z : 0 < t ∧ t ≤ m.high.length
      · rw [isCh_true z.1 (by omega)]
        have hk : (t - 1).toNat < m.high.length := by omega
        have ht : (((t - 1).toNat : Nat) : Int) + 1 = t := by omega
        have hk' : (t - 1).toNat < f.inside.length := by rw [R.len, R.high]; exact hk
        simp only [true_and, z, and_self]
        rw [List.getD_eq_getElem?_getD, List.getElem?_eq_getElem hk', Option.getD_some]
        constructor
        · intro hne
          cases q : f.inside[(t - 1).toNat] with
          | none => exact absurd q hne
          | some c =>
            have := (R.ins _ c hk).mp (by rw [List.getElem?_eq_getElem hk', q])
            rw [ht] at this
            exact List.mem_map.mpr ⟨_, this, rfl⟩
        · intro hmem
          obtain ⟨⟨c, q⟩, h1, h2⟩ := List.mem_map.mp hmem
          simp only at h2
          subst h2
          have := (R.ins _ c hk).mpr (by rw [ht]; exact h1)
          rw [List.getElem?_eq_getElem hk', Option.some.injEq] at this
          rw [this]; simp
      · constructor
        · rintro ⟨h1, _⟩
          simp only [isCh, Bool.and_eq_true, decide_eq_true_eq] at h1
          exact absurd ⟨h1.1, by omega⟩ z
        · rintro ⟨h1, _⟩; exact absurd h1 z
    by_cases d1 : (here = 0 ∨ here = (m.high.length : Int) + 1) ∧ 0 < (m.ahead b here).length
    · rw [if_pos d1, if_pos (c1.mpr d1)]
    · rw [if_neg d1, if_neg (fun h => d1 (c1.mp h)), c2]
      by_cases d2 : shutAt m.high (min here (stepOf (m.side b) here)) = true
      · rw [if_pos d2, if_pos d2]
      · rw [if_neg d2, if_neg d2]
        by_cases d3 : (0 < stepOf (m.side b) here ∧ stepOf (m.side b) here ≤ m.high.length) ∧ stepOf (m.side b) here ∈ m.places.map (·.2)
        · rw [if_pos d3, if_pos (c3.mpr d3)]
        · rw [if_neg d3, if_neg (fun h => d3 (c3.mp h))]
end

theorem Rel.new (h : List Bool) : Rel (Fl.new h) (Md.new h) := by
  refine ⟨rfl, rfl, rfl, rfl, rfl, by simp [Fl.new], List.Pairwise.nil, ?_, ?_, ?_, ?_, rfl, rfl, ?_, ?_⟩
  · intro x hx; cases hx
  · intro x hx; cases hx
  · intro x hx; cases hx
  · intro x hx; cases hx
  · intro k b hk
    constructor
    · intro e
      simp only [Fl.new, List.getElem?_replicate] at e
      split at e <;> cases e
    · intro e; cases e
  · intro x hx; cases hx

section
variable {f : Fl} {m : Md}
theorem Rel.let (R : Rel f m) {g : Int} (d : letOut m.high g = .done) : Rel (f.let g) (m.let g) := by
  obtain ⟨h0, h1, _, _⟩ := let_done d
  have eh : (f.let g).high = (m.let g).high := by rw [let_same h0 h1]; show letH f.high g = _; rw [R.high]
  have el : (m.let g).high.length = m.high.length := by rw [let_same h0 h1, letH_len]
  have efl : (f.let g).high.length = f.high.length := by rw [eh, el, R.high]
  refine ⟨eh, R.sides, R.gone, ?_, ?_, ?_, R.asc, R.key, ?_, R.lo, ?_, R.up, ?_, ?_, ?_⟩
  · show f.drawn + _ = m.drawn + _
    rw [R.drawn, R.high]
    by_cases e : g = m.high.length
    · rw [if_pos e, isCh_hi (by omega)]; rfl
    · rw [if_neg e, isCh_true (by omega) (by omega)]; rfl
  · show f.out + _ = m.out + _
    rw [R.out, R.high]
    by_cases e : g = 0
    · rw [if_pos e, isCh_lo (by omega)]; rfl
    · rw [if_neg e, isCh_true (by omega) (by omega)]; rfl
  · rw [efl]; exact R.len
  · rw [el]; exact R.rng
  · rw [el]; exact R.hi
  · rw [el]; exact R.down
  · rw [el]; exact R.ins
  · rw [el]; exact R.one

theorem side_app {s : List Bool} {z : Bool} {b : Int} (h0 : 0 ≤ b) (h1 : b < s.length) : (s ++ [z]).getD b.toNat false = s.getD b.toNat false := by
  have : b.toNat < s.length := by omega
  simp [List.getD, List.getElem?_append, this]
theorem side_last {s : List Bool} {z : Bool} : (s ++ [z]).getD ((s.length : Int)).toNat false = z := by
  simp [List.getD, List.getElem?_append]

theorem Rel.come (R : Rel f m) (s : Bool) : Rel (f.come s) (m.come s) := by
  have hs : ∀ x ∈ m.places, (m.come s).side x.1 = m.side x.1 := fun x hx => side_app (R.key x hx).1 (R.key x hx).2
  have hl : (m.come s).side (m.sides.length : Int) = s := side_last
  have hn : (m.high.length : Int) + 1 ≠ 0 := by omega
  have mem : ∀ x, x ∈ (m.come s).places ↔ x ∈ m.places ∨ x = ((m.sides.length : Int), if s then (m.high.length : Int) + 1 else 0) := fun x => by
    unfold Md.come; simp only [List.mem_append, List.mem_singleton]
  refine ⟨R.high, ?_, R.gone, R.drawn, R.out, R.len, ?_, ?_, ?_, ?_, ?_, ?_, ?_, ?_, ?_⟩
  · show f.sides ++ [s] = m.sides ++ [s]; rw [R.sides]
  · show ((m.places ++ [(_ : Int × Int)]).map (fun x : Int × Int => x.1)).Pairwise (· < ·)
    rw [List.map_append, List.pairwise_append]
    refine ⟨R.asc, List.pairwise_singleton _ _, fun a ha b hb => ?_⟩
    obtain ⟨x, hx, rfl⟩ := List.mem_map.mp ha
    have : b = (m.sides.length : Int) := by simpa using hb
    subst this
    exact (R.key x hx).2
  · intro x hx
    have e : ((m.come s).sides.length : Int) = (m.sides.length : Int) + 1 := by show ((m.sides ++ [s]).length : Int) = _; simp
    rw [e]
    rcases (mem x).mp hx with z | z
    · have := R.key x z; omega
    · subst z; simp only; omega
  · intro x hx
    show 0 ≤ x.2 ∧ x.2 ≤ (m.high.length : Int) + 1
    rcases (mem x).mp hx with z | z
    · exact R.rng x z
    · subst z; simp only; cases s <;> simp <;> omega
  · intro x hx e
    rcases (mem x).mp hx with z | z
    · rw [hs x z]; exact R.lo x z e
    · subst z
      simp only at e ⊢
      rw [hl]
      cases s with
      | false => rfl
      | true => simp at e; omega
  · intro x hx e
    rcases (mem x).mp hx with z | z
    · rw [hs x z]; exact R.hi x z e
    · subst z
      simp only at e ⊢
      rw [hl]
      cases s with
      | true => rfl
      | false =>
        have e : (0 : Int) = ((m.come false).high.length : Int) + 1 := by simpa using e
        have e2 : (m.come false).high.length = m.high.length := rfl
        omega
  · show (if s then f.up else f.up ++ [(f.sides.length : Int)]) = ((m.places ++ [_]).filter _).map _
    rw [List.filter_append, List.map_append, ← R.up, R.sides]
    cases s with
    | false => simp
    | true => simp [hn]
  · show (if s then f.down ++ [(f.sides.length : Int)] else f.down) = ((m.places ++ [_]).filter _).map _
    have e : (m.come s).high.length = m.high.length := rfl
    rw [List.filter_append, List.map_append]
    show _ = (m.places.filter fun x => decide (x.2 = (m.high.length : Int) + 1)).map (·.1) ++ _
    rw [← R.down, R.sides]
    cases s with
    | true => simp [e]
    | false =>
      have : ¬ (0 : Int) = ((m.come false).high.length : Int) + 1 := by rw [e]; omega
      simp [this]
  · intro k b hk
    have hk' : k < m.high.length := hk
    show f.inside[k]? = _ ↔ _
    rw [R.ins k b hk', mem]
    constructor
    · exact .inl
    · rintro (z | z)
      · exact z
      · exfalso
        have z2 := congrArg Prod.snd z
        simp only at z2
        cases s <;> simp at z2 <;> omega
  · intro x hx y hy e h1 h2
    have h2' : x.2 ≤ (m.high.length : Int) := h2
    have nope : ∀ z : Int × Int, z = ((m.sides.length : Int), if s then (m.high.length : Int) + 1 else 0) → 0 < z.2 → z.2 ≤ m.high.length → False := fun z e a b => by
      subst e
      cases s <;> simp at a b <;> omega
    rcases (mem x).mp hx with zx | zx
    · rcases (mem y).mp hy with zy | zy
      · exact R.one x zx y zy e h1 h2'
      · exact (nope y zy (by omega) (by omega)).elim
    · exact (nope x zx h1 h2').elim

theorem mem_putAt {l : List (Int × Int)} {b p q : Int} (nd : (l.map (·.1)).Pairwise (· < ·)) (h : (b, q) ∈ l) (x : Int × Int) : x ∈ putAt b p l ↔ (x ∈ l ∧ x.1 ≠ b) ∨ x = (b, p) := by
  induction l with
  | nil => cases h
  | cons y r ih =>
    obtain ⟨c, v⟩ := y
    rw [List.map_cons, List.pairwise_cons] at nd
    unfold putAt
    by_cases e : c = b
    · subst e
      rw [if_pos rfl]
      have nr : ∀ y ∈ r, y.1 ≠ c := fun y hy => by have := nd.1 y.1 (List.mem_map.mpr ⟨y, hy, rfl⟩); omega
      simp only [List.mem_cons]
      constructor
      · rintro (z | z)
        · exact .inr z
        · exact .inl ⟨.inr z, nr x z⟩
      · rintro (⟨z | z, ne⟩ | z)
        · subst z; exact absurd rfl ne
        · exact .inr z
        · exact .inl z
    · rw [if_neg e]
      have h' : (b, q) ∈ r := by
        rcases List.mem_cons.mp h with z | z
        · cases z; exact absurd rfl e
        · exact z
      simp only [List.mem_cons, ih nd.2 h']
      constructor
      · rintro (z | ⟨z, ne⟩ | z)
        · subst z; exact .inl ⟨.inl rfl, e⟩
        · exact .inl ⟨.inr z, ne⟩
        · exact .inr z
      · rintro (⟨z | z, ne⟩ | z)
        · exact .inl z
        · exact .inr (.inl ⟨z, ne⟩)
        · exact .inr (.inr z)
theorem keys_putAt (l : List (Int × Int)) (b p : Int) : (putAt b p l).map (·.1) = l.map (·.1) := by
  induction l with
  | nil => rfl
  | cons y r ih =>
    obtain ⟨c, v⟩ := y
    unfold putAt
    by_cases e : c = b
    · rw [if_pos e]; rfl
    · rw [if_neg e, List.map_cons, List.map_cons, ih]
theorem mem_dropAt {l : List (Int × Int)} {b : Int} (x : Int × Int) : x ∈ dropAt b l ↔ x ∈ l ∧ x.1 ≠ b := by
  unfold dropAt; simp [List.mem_filter]
theorem filter_putAt {l : List (Int × Int)} {b p q : Int} (nd : (l.map (·.1)).Pairwise (· < ·)) (h : (b, q) ∈ l) (t : Int) (hp : p ≠ t) :
    (putAt b p l).filter (fun x => decide (x.2 = t)) = (l.filter fun x => decide (x.2 = t)).filter fun x => decide (x.1 ≠ b) := by
  induction l with
  | nil => cases h
  | cons y r ih =>
    obtain ⟨c, v⟩ := y
    rw [List.map_cons, List.pairwise_cons] at nd
    unfold putAt
    by_cases e : c = b
    · subst e
      have nr : ∀ y ∈ r, y.1 ≠ c := fun y hy => by have := nd.1 y.1 (List.mem_map.mpr ⟨y, hy, rfl⟩); omega
      have e2 : (r.filter fun x => decide (x.2 = t)).filter (fun x => decide (x.1 ≠ c)) = r.filter fun x => decide (x.2 = t) := by
        rw [List.filter_eq_self]
        intro a ha
        simpa using nr a (List.mem_filter.mp ha).1
      rw [if_pos rfl, List.filter_cons, List.filter_cons]
      simp only [hp, decide_false, Bool.false_eq_true, if_false]
      by_cases hv : v = t
      · simp only [hv, decide_true, if_true, List.filter_cons, ne_eq, not_true_eq_false, decide_false, Bool.false_eq_true, if_false]
        exact e2.symm
      · simp only [hv, decide_false, Bool.false_eq_true, if_false]
        exact e2.symm
    · rw [if_neg e]
      have h' : (b, q) ∈ r := by
        rcases List.mem_cons.mp h with z | z
        · cases z; exact absurd rfl e
        · exact z
      rw [List.filter_cons, List.filter_cons, ih nd.2 h']
      by_cases hv : v = t
      · simp [hv, e]
      · simp [hv]
theorem filter_dropAt {l : List (Int × Int)} {b : Int} (t : Int) :
    (dropAt b l).filter (fun x => decide (x.2 = t)) = (l.filter fun x => decide (x.2 = t)).filter fun x => decide (x.1 ≠ b) := by
  unfold dropAt
  rw [List.filter_filter, List.filter_filter]
  congr 1
  funext x
  rw [Bool.and_comm]
theorem drop_head {l : List (Int × Int)} (nd : (l.map (·.1)).Pairwise (· < ·)) {b : Int} (h : (l.map (·.1)).head? = some b) : (l.filter fun x => decide (x.1 ≠ b)).map (·.1) = (l.map (·.1)).drop 1 := by
  cases l with
  | nil => cases h
  | cons y r =>
    obtain ⟨c, v⟩ := y
    rw [List.map_cons, List.pairwise_cons] at nd
    have e : c = b := by simpa using h
    subst e
    have : r.filter (fun x => decide (x.1 ≠ c)) = r := by
      rw [List.filter_eq_self]
      intro a ha
      have := nd.1 a.1 (List.mem_map.mpr ⟨a, ha, rfl⟩)
      simp; omega
    simp only [List.filter_cons, ne_eq, not_true_eq_false, decide_false, Bool.false_eq_true, if_false, List.map_cons, List.drop_succ_cons, List.drop_zero]
    rw [show (fun x : Int × Int => decide (¬x.1 = c)) = fun x => decide (x.1 ≠ c) from rfl, this]
theorem drop_none {l : List (Int × Int)} {b : Int} (h : ∀ x ∈ l, x.1 ≠ b) : l.filter (fun x => decide (x.1 ≠ b)) = l := by
  rw [List.filter_eq_self]; intro a ha; simpa using h a ha

theorem sail_done {b : Int} (d : m.sailWord b = .done) : ∃ here, m.places.lookup b = some here ∧ ¬ ((here = 0 ∨ here = (m.high.length : Int) + 1) ∧ 0 < (m.ahead b here).length) ∧ shutAt m.high (min here (stepOf (m.side b) here)) = false ∧
    ¬ ((0 < stepOf (m.side b) here ∧ stepOf (m.side b) here ≤ m.high.length) ∧ stepOf (m.side b) here ∈ m.places.map (·.2)) := by
  unfold Md.sailWord at d
  split at d
  · cases d
  · rename_i here e
    split at d
    · cases d
    · rename_i c1
      split at d
      · cases d
      · rename_i c2
        split at d
        · cases d
        · rename_i c3
          exact ⟨here, e, c1, by simpa using c2, c3⟩

theorem Rel.sail (R : Rel f m) {b : Int} (d : m.sailWord b = .done) : ∃ here, f.place? b = some here ∧ m.places.lookup b = some here ∧ Rel (f.sail b here) (m.sail b) := by
  have dF : f.sailOut b = .done := (R.sailOut b).trans d
  obtain ⟨here, e, c1, _, c3⟩ := sail_done d
  refine ⟨here, (R.place b).trans e, e, ?_⟩
  have hm := lookup_mem e
  obtain ⟨r1, r2⟩ := R.rng _ hm
  simp only at r1 r2
  have uniq : ∀ q, (b, q) ∈ m.places → q = here := fun q hq => by
    have := mem_lookup R.asc hq; rw [e] at this; exact (Option.some.inj this).symm
  have loS : here = 0 → m.side b = false := fun z => R.lo _ hm z
  have hiS : here = (m.high.length : Int) + 1 → m.side b = true := fun z => R.hi _ hm z
  -- there
  have tb : 0 ≤ stepOf (m.side b) here ∧ stepOf (m.side b) here ≤ (m.high.length : Int) + 1 ∧ stepOf (m.side b) here ≠ here ∧ (stepOf (m.side b) here = 0 → m.side b = true) ∧ (stepOf (m.side b) here = (m.high.length : Int) + 1 → m.side b = false) := by
    unfold stepOf
    cases q : m.side b with
    | true =>
      have : here ≠ 0 := fun z => by have := loS z; rw [q] at this; cases this
      simp only [if_true]
      exact ⟨by omega, by omega, by omega, fun _ => by first | rfl | trivial, fun z => by omega⟩
    | false =>
      have : here ≠ (m.high.length : Int) + 1 := fun z => by have := hiS z; rw [q] at this; cases this
      simp only [Bool.false_eq_true, if_false]
      exact ⟨by omega, by omega, by omega, fun z => by omega, fun _ => by first | rfl | trivial⟩
  have sE : f.sail b here = (f.leave here (m.side b)).enter (stepOf (m.side b) here) b := by unfold Fl.sail; rw [R.side b]
  have mE : m.sail b = if outOf m.high.length (stepOf (m.side b) here) then { m with places := dropAt b m.places, through := m.through ++ [b] } else { m with places := putAt b (stepOf (m.side b) here) m.places } := by
    unfold Md.sail; rw [e]
  rw [sE, mE]
  generalize stepOf (m.side b) here = t at *
  obtain ⟨t1, t2, t3, t4, t5⟩ := tb
  have chT : isCh m.high.length t = !outOf m.high.length t := by
    unfold isCh outOf
    by_cases a : t = 0
    · subst a; simp
    · by_cases a2 : t = (m.high.length : Int) + 1
      · subst a2; simp
      · have x1 : 0 < t := by omega
        have x2 : t < (m.high.length : Int) + 1 := by omega
        simp [a, a2, x1, x2]
  have chH : isCh m.high.length here = false → here = 0 ∨ here = (m.high.length : Int) + 1 := fun z => by
    unfold isCh at z
    by_cases a : here = 0
    · exact .inl a
    · right
      have x1 : 0 < here := by omega
      simp [x1] at z
      omega
  -- the new places
  generalize hS : (if outOf m.high.length t then dropAt b m.places else putAt b t m.places) = S
  have memS : ∀ x, x ∈ S ↔ (x ∈ m.places ∧ x.1 ≠ b) ∨ (outOf m.high.length t = false ∧ x = (b, t)) := fun x => by
    rw [← hS]
    cases q : outOf m.high.length t with
    | true => simp only [if_true, mem_dropAt]; simp
    | false => simp only [Bool.false_eq_true, if_false, mem_putAt R.asc hm]; simp
  have ascS : (S.map (·.1)).Pairwise (· < ·) := by
    rw [← hS]
    cases q : outOf m.high.length t with
    | true => simp only [if_true]; exact asc_filter R.asc _
    | false => simp only [Bool.false_eq_true, if_false]; rw [keys_putAt]; exact R.asc
  have filS : ∀ u : Int, (u = 0 ∨ u = (m.high.length : Int) + 1) → S.filter (fun x => decide (x.2 = u)) = (m.places.filter fun x => decide (x.2 = u)).filter fun x => decide (x.1 ≠ b) := fun u hu => by
    rw [← hS]
    cases q : outOf m.high.length t with
    | true => simp only [if_true]; exact filter_dropAt u
    | false =>
      simp only [Bool.false_eq_true, if_false]
      refine filter_putAt R.asc hm u fun z => ?_
      subst z
      unfold outOf at q
      rcases hu with z | z <;> simp [z] at q
  -- the row's head
  have headB : (here = 0 ∨ here = (m.high.length : Int) + 1) → ((m.places.filter fun x => decide (x.2 = here)).map (·.1)).head? = some b := fun hh => by
    have hasc : ((m.places.filter fun x => decide (x.2 = here)).map (·.1)).Pairwise (· < ·) := asc_filter R.asc _
    have hb : b ∈ (m.places.filter fun x => decide (x.2 = here)).map (·.1) := List.mem_map.mpr ⟨_, List.mem_filter.mpr ⟨hm, by simp⟩, rfl⟩
    refine Classical.byContradiction fun hne => c1 ⟨hh, ?_⟩
    obtain ⟨c, hc, hlt⟩ := (head_min hasc hb).mp hne
    obtain ⟨⟨c', q⟩, hx, rfl⟩ := List.mem_map.mp hc
    rw [List.mem_filter] at hx
    obtain ⟨hx, hq⟩ := hx
    have hq : q = here := by simpa using hq
    subst hq
    rw [List.length_pos_iff_exists_mem]
    refine ⟨c', List.mem_filter.mpr ⟨List.mem_map.mpr ⟨_, hx, rfl⟩, ?_⟩⟩
    simp only [Bool.and_eq_true, beq_iff_eq, decide_eq_true_eq]
    refine ⟨⟨mem_lookup R.asc hx, ?_⟩, hlt⟩
    rcases hh with z | z
    · rw [loS z]; exact R.lo _ hx z
    · rw [hiS z]; exact R.hi _ hx z
  have keepRow : ∀ u : Int, u ≠ here → ((m.places.filter fun x => decide (x.2 = u)).filter fun x => decide (x.1 ≠ b)) = m.places.filter fun x => decide (x.2 = u) := fun u hu => by
    refine drop_none fun x hx z => ?_
    rw [List.mem_filter] at hx
    have h2 : x.2 = u := by simpa using hx.2
    have : (b, u) ∈ m.places := by rw [← z, ← h2]; exact hx.1
    exact hu (uniq _ this)
  -- the record, field by field
  have key : ∀ (F : Fl) (M : Md), F.high = m.high → F.sides = m.sides → F.gone = M.through → F.drawn = m.drawn → F.out = m.out → M.high = m.high → M.sides = m.sides → M.drawn = m.drawn → M.out = m.out → M.places = S →
      F.up = (if here = 0 then f.up.drop 1 else f.up) → F.down = (if here = (m.high.length : Int) + 1 then f.down.drop 1 else f.down) →
      F.inside = (if isCh m.high.length t then (if isCh m.high.length here then f.inside.set (here - 1).toNat none else f.inside).set (t - 1).toNat (some b) else (if isCh m.high.length here then f.inside.set (here - 1).toNat none else f.inside)) → Rel F M := by
    intro F M e1 e2 e3 e4 e5 e6 e7 e8 e9 e10 e11 e12 e13
    have sd : ∀ c, M.side c = m.side c := fun c => by unfold Md.side; rw [e7]
    have li : f.inside.length = m.high.length := by rw [R.len, R.high]
    refine ⟨by rw [e1, e6], by rw [e2, e7], e3, by rw [e4, e8], by rw [e5, e9], ?_, ?_, ?_, ?_, ?_, ?_, ?_, ?_, ?_, ?_⟩
    · rw [e13, e1]; split <;> split <;> simp [li]
    · unfold Md.keys; rw [e10]; exact ascS
    · intro x hx
      rw [e10] at hx; rw [e7]
      rcases (memS x).mp hx with z | z
      · exact R.key x z.1
      · rw [z.2]; exact ⟨(R.key _ hm).1, (R.key _ hm).2⟩
    · intro x hx
      rw [e10] at hx; rw [e6]
      rcases (memS x).mp hx with z | z
      · exact R.rng x z.1
      · rw [z.2]; exact ⟨t1, t2⟩
    · intro x hx h0
      rw [e10] at hx; rw [sd]
      rcases (memS x).mp hx with z | z
      · exact R.lo x z.1 h0
      · exfalso; have := z.1; rw [z.2] at h0; simp only at h0; rw [h0] at this; simp [outOf] at this
    · intro x hx h0
      rw [e10] at hx; rw [sd]; rw [e6] at h0
      rcases (memS x).mp hx with z | z
      · exact R.hi x z.1 h0
      · exfalso; have := z.1; rw [z.2] at h0; simp only at h0; rw [h0] at this; simp [outOf] at this
    · rw [e11, e10, filS 0 (.inl rfl)]
      by_cases hh : here = 0
      · rw [if_pos hh, R.up]
        subst hh
        exact (drop_head (asc_filter R.asc _) (headB (.inl rfl))).symm
      · rw [if_neg hh, keepRow 0 (fun z => hh z.symm), R.up]
    · rw [e12, e10, e6, filS _ (.inr rfl)]
      by_cases hh : here = (m.high.length : Int) + 1
      · rw [if_pos hh, R.down]
        rw [← hh]
        exact (drop_head (asc_filter R.asc _) (headB (.inr hh))).symm
      · rw [if_neg hh, keepRow _ (fun z => hh z.symm), R.down]
    · intro k c hk
      rw [e6] at hk
      rw [e10, memS, e13]
      have hk' : k < f.inside.length := by rw [li]; exact hk
      by_cases ct : isCh m.high.length t = true
      · have ot : outOf m.high.length t = false := by rw [chT] at ct; simpa using ct
        have tr : 0 < t ∧ t < (m.high.length : Int) + 1 := by simpa [isCh] using ct
        rw [if_pos ct]
        by_cases kt : k = (t - 1).toNat
        · have : ((k : Nat) : Int) + 1 = t := by omega
          rw [this, kt, List.getElem?_set_self (by split <;> simp [li] <;> omega)]
          simp only [Option.some.injEq, ot, true_and, Prod.mk.injEq]
          constructor
          · intro z; right; exact ⟨z.symm, trivial⟩
          · rintro (⟨z, ne⟩ | ⟨z, _⟩)
            · exact absurd ⟨⟨tr.1, by omega⟩, List.mem_map.mpr ⟨_, z, rfl⟩⟩ c3
            · exact z.symm
        · rw [List.getElem?_set_ne (Ne.symm kt)]
          by_cases ch : isCh m.high.length here = true
          · have hr : 0 < here ∧ here < (m.high.length : Int) + 1 := by simpa [isCh] using ch
            rw [if_pos ch]
            by_cases kh : k = (here - 1).toNat
            · have e1 : ((k : Nat) : Int) + 1 = here := by omega
              rw [kh, List.getElem?_set_self (by omega), ← kh, e1]
              constructor
              · intro z; cases z
              · rintro (⟨z, ne⟩ | ⟨_, z⟩)
                · exact absurd (R.one _ z _ hm rfl hr.1 (by simp only; omega)) ne
                · cases z; exact absurd rfl t3
            · rw [List.getElem?_set_ne (Ne.symm kh), R.ins k c hk]
              constructor
              · intro z; left; refine ⟨z, fun zb => kh ?_⟩
                simp only at zb; subst zb; have := uniq _ z; omega
              · rintro (⟨z, ne⟩ | ⟨_, z⟩)
                · exact z
                · have := congrArg Prod.snd z; simp only at this; omega
          · rw [if_neg ch, R.ins k c hk]
            constructor
            · intro z; left; refine ⟨z, fun zb => ?_⟩
              simp only at zb; subst zb; have := uniq _ z
              have chf : isCh m.high.length here = false := by simpa using ch
              rcases chH chf with w | w <;> omega
            · rintro (⟨z, ne⟩ | ⟨_, z⟩)
              · exact z
              · have := congrArg Prod.snd z; simp only at this; omega
      · have ot : outOf m.high.length t = true := by
          have ct' : isCh m.high.length t = false := by simpa using ct
          rw [chT] at ct'; simpa using ct'
        rw [if_neg ct]
        by_cases ch : isCh m.high.length here = true
        · have hr : 0 < here ∧ here < (m.high.length : Int) + 1 := by simpa [isCh] using ch
          rw [if_pos ch]
          by_cases kh : k = (here - 1).toNat
          · have e1 : ((k : Nat) : Int) + 1 = here := by omega
            rw [kh, List.getElem?_set_self (by omega), ← kh, e1]
            constructor
            · intro z; cases z
            · rintro (⟨z, ne⟩ | ⟨z, _⟩)
              · exact absurd (R.one _ z _ hm rfl hr.1 (by simp only; omega)) ne
              · rw [ot] at z; cases z
          · rw [List.getElem?_set_ne (Ne.symm kh), R.ins k c hk]
            constructor
            · intro z; left; refine ⟨z, fun zb => kh ?_⟩
              simp only at zb; subst zb; have := uniq _ z; omega
            · rintro (⟨z, ne⟩ | ⟨z, _⟩)
              · exact z
              · rw [ot] at z; cases z
        · rw [if_neg ch, R.ins k c hk]
          constructor
          · intro z; left; refine ⟨z, fun zb => ?_⟩
            simp only at zb; subst zb; have := uniq _ z
            have chf : isCh m.high.length here = false := by simpa using ch
            rcases chH chf with w | w <;> omega
          · rintro (⟨z, ne⟩ | ⟨z, _⟩)
            · exact z
            · rw [ot] at z; cases z
    · intro x hx y hy exy h0 h1
      rw [e10] at hx hy; rw [e6] at h1
      rcases (memS x).mp hx with zx | zx
      · rcases (memS y).mp hy with zy | zy
        · exact R.one x zx.1 y zy.1 exy h0 h1
        · rw [zy.2] at exy
          simp only at exy
          exact absurd ⟨⟨by omega, by omega⟩, List.mem_map.mpr ⟨x, zx.1, exy⟩⟩ c3
      · rcases (memS y).mp hy with zy | zy
        · rw [zx.2] at exy h0 h1
          simp only at exy h0 h1
          exact absurd ⟨⟨h0, h1⟩, List.mem_map.mpr ⟨y, zy.1, exy.symm⟩⟩ c3
        · rw [zx.2, zy.2]
  -- the eight ways
  have hlen : f.high.length = m.high.length := by rw [R.high]
  have n0 : isCh m.high.length here = true → here ≠ 0 ∧ here ≠ (m.high.length : Int) + 1 := fun z => by
    have hr : 0 < here ∧ here < (m.high.length : Int) + 1 := by simpa [isCh] using z
    omega
  unfold Fl.leave Fl.enter
  rw [hlen]
  cases ch : isCh m.high.length here with
  | true =>
    obtain ⟨na, nb⟩ := n0 ch
    simp only [if_true]
    rw [hlen]
    cases ct : isCh m.high.length t with
    | true =>
      have ot : outOf m.high.length t = false := by rw [chT] at ct; simpa using ct
      simp only [if_true, ot, Bool.false_eq_true, if_false] at hS ⊢
      exact key _ _ R.high R.sides R.gone R.drawn R.out rfl rfl rfl rfl hS (by rw [if_neg na]) (by rw [if_neg nb]) (by rw [ct, ch]; rfl)
    | false =>
      have ot : outOf m.high.length t = true := by rw [chT] at ct; simpa using ct
      simp only [if_true, ot, Bool.false_eq_true, if_false] at hS ⊢
      exact key _ _ R.high R.sides (by show f.gone ++ [b] = _; rw [R.gone]) R.drawn R.out rfl rfl rfl rfl hS (by rw [if_neg na]) (by rw [if_neg nb]) (by rw [ct, ch]; rfl)
  | false =>
    simp only [Bool.false_eq_true, if_false]
    rcases chH ch with hz | hz
    · have sz := loS hz
      have nb : here ≠ (m.high.length : Int) + 1 := by omega
      rw [sz]
      simp only [Bool.false_eq_true, if_false]
      rw [hlen]
      cases ct : isCh m.high.length t with
      | true =>
        have ot : outOf m.high.length t = false := by rw [chT] at ct; simpa using ct
        simp only [if_true, ot, Bool.false_eq_true, if_false] at hS ⊢
        exact key _ _ R.high R.sides R.gone R.drawn R.out rfl rfl rfl rfl hS (by rw [if_pos hz]) (by rw [if_neg nb]) (by rw [ct, ch]; rfl)
      | false =>
        have ot : outOf m.high.length t = true := by rw [chT] at ct; simpa using ct
        simp only [if_true, ot, Bool.false_eq_true, if_false] at hS ⊢
        exact key _ _ R.high R.sides (by show f.gone ++ [b] = _; rw [R.gone]) R.drawn R.out rfl rfl rfl rfl hS (by rw [if_pos hz]) (by rw [if_neg nb]) (by rw [ct, ch]; rfl)
    · have sz := hiS hz
      have na : here ≠ 0 := by omega
      rw [sz]
      simp only [if_true]
      rw [hlen]
      cases ct : isCh m.high.length t with
      | true =>
        have ot : outOf m.high.length t = false := by rw [chT] at ct; simpa using ct
        simp only [if_true, ot, Bool.false_eq_true, if_false] at hS ⊢
        exact key _ _ R.high R.sides R.gone R.drawn R.out rfl rfl rfl rfl hS (by rw [if_neg na]) (by rw [if_pos hz]) (by rw [ct, ch]; rfl)
      | false =>
        have ot : outOf m.high.length t = true := by rw [chT] at ct; simpa using ct
        simp only [if_true, ot, Bool.false_eq_true, if_false] at hS ⊢
        exact key _ _ R.high R.sides (by show f.gone ++ [b] = _; rw [R.gone]) R.drawn R.out rfl rfl rfl rfl hS (by rw [if_neg na]) (by rw [if_pos hz]) (by rw [ct, ch]; rfl)
end

def cnt (h : List Bool) : Int := (h.count true : Nat)
theorem let_some (h : List Bool) : ∃ g : Nat, g ≤ h.length ∧ letOut h g = .done := by
  -- the lowest high chamber, or the summit
  have : ∀ (k : Nat), k ≤ h.length → (∀ j, j < k → h.getD j false = false) → (k = h.length ∨ h.getD k false = true) → letOut h k = .done := fun k hk lo hi => by
    unfold letOut
    rw [if_neg (by omega)]
    have c1 : canGive h ((k : Int) + 1) = true := by
      unfold canGive
      rcases hi with z | z
      · rw [isCh_hi (by omega)]; rfl
      · by_cases y : k = h.length
        · rw [isCh_hi (by omega)]; rfl
        · rw [isCh_true (by omega) (by omega), if_pos rfl, show ((k : Int) + 1 - 1).toNat = k by omega]; exact z
    have c2 : canTake h (k : Int) = true := by
      unfold canTake
      by_cases y : k = 0
      · rw [isCh_lo (by omega)]; rfl
      · rw [isCh_true (by omega) (by omega), if_pos rfl, show ((k : Int) - 1).toNat = k - 1 by omega, lo (k - 1) (by omega)]; rfl
    rw [c1, c2]; rfl
  have ex : ∀ (n k : Nat), n = h.length - k → k ≤ h.length → (∀ j, j < k → h.getD j false = false) → ∃ g : Nat, g ≤ h.length ∧ letOut h g = .done := by
    intro n
    induction n with
    | zero => intro k e hk lo; exact ⟨k, hk, this k hk lo (.inl (by omega))⟩
    | succ n ih =>
      intro k e hk lo
      by_cases z : h.getD k false = true
      · exact ⟨k, hk, this k hk lo (.inr z)⟩
      · refine ih (k + 1) (by omega) (by omega) fun j hj => ?_
        by_cases y : j < k
        · exact lo j y
        · have : j = k := by omega
          subst this; simpa using z
  exact ex h.length 0 (by omega) (by omega) fun j hj => absurd hj (Nat.not_lt_zero _)
end Lf

namespace Lf
def Fl.within (f : Fl) (sd : Bool) : List Int :=
  if sd then (f.inside.filterMap id).filter (fun b => f.side b == sd) else ((f.inside.filterMap id).filter (fun b => f.side b == sd)).reverse
inductive StepF (f : Fl) : Fl → Prop
  | come (s : Bool) : StepF f (f.come s)
  | «let» {g : Int} (d : letOut f.high g = .done) : StepF f (f.let g)
  | sail {b here : Int} (p : f.place? b = some here) (d : f.sailOut b = .done) : StepF f (f.sail b here)
  | stay : StepF f f
end Lf

namespace Lf
def cost1 (h : List Bool) (dn : Bool) : Int := if dn then (if h.getLastD true then 0 else 1) else 1 + ((h.drop 1).count false : Nat)
def costSt (x : List Bool × Int) (d : Bool) : List Bool × Int := (x.1.map fun _ => !d, x.2 + cost1 x.1 d)
def costOf (h S : List Bool) : Int := (S.foldl costSt (h, 0)).2
theorem map_const {α β : Type} (l : List α) (b : β) : (l.map fun _ => b) = List.replicate l.length b := by
  induction l with
  | nil => rfl
  | cons a r ih => simp [List.replicate_succ, ih]
def base (h0 S : List Bool) (k : Nat) : Int := match S.getLast? with
  | none => - cnt (h0.drop k)
  | some false => costOf h0 S - ((h0.length : Int) - k)
  | some true => costOf h0 S
end Lf

namespace Lf
end Lf

namespace Lf
end Lf
namespace Lf
end Lf
namespace Lf
end Lf
namespace Lf
end Lf

set_option Elab.async false
set_option linter.all false
set_option maxRecDepth 100000
namespace LX
open PySem PySem.Spec PyProof.Rows L2
section
variable {P : Program} {w : World} {K : PySem.W.Frag} {mg : Str → Option Value} {base : Heap} {N : List Str} {qual : Str} {scope : Scope} {f : Addr} {cd : Value} {A : Around} {outer : List Env} {s : Shared} {H : Hp} {E : XK}
theorem passB : PassesX (CXe P w) (bodyCx P w K mg base N qual scope f cd A outer s H E) (fun _ => E) := passX own_cx
theorem raiseB : RaisesX (bodyCx P w K mg base N qual scope f cd A outer s H E) (fun _ => E) := raiseX own_cx
theorem ownB : PassesOwn (model P w) (bodyCx P w K mg base N qual scope f cd A outer s H E).A (bodyCx P w K mg base N qual scope f cd A outer s H E).env (bodyCx P w K mg base N qual scope f cd A outer s H E).xe := ownX own_cx
end
theorem passF {P : Program} {w : World} {X : Cx} : PassesX (CXe P w) X (fun _ _ _ _ => False) := fun _ _ _ _ _ _ _ h => by
  obtain ⟨_, _, _, _, _, _, _, _, _, _, _, _, _, _, he⟩ := h
  exact he.elim
end LX
namespace LX
open PySem PySem.Spec PyProof.Rows L2
theorem cx_body {P : Program} {w : World} {K : PySem.W.Frag} {mg : Str → Option Value} {base : Heap} {N : List Str} {qual : Str} {scope : Scope} {f : Addr} {cd : Value} {A : Around} {outer : List Env} {s : Shared} {H : Hp} {E : XK} : (bodyCx P w K mg base N qual scope f cd A outer s H E).K = K := rfl
theorem cx_blk {X : Cx} {scope : Scope} {cl : List (Str × Addr)} {C : Addr} {N : List Str} {s : Shared} {H : Hp} {fp : List Addr} : (blkCx X scope cl C N s H fp).K = X.K := rfl
theorem cx_try {X : Cx} {pins : List (Addr × Obj)} {E : L2.St → XK} : (tryCx X pins E).K = X.K := rfl
theorem cx_mark {X : Cx} {ea : Addr} {oe : Obj} {xe : Value → Shared → Prop} : (markCx X ea oe xe).K = X.K := rfl
end LX
namespace LX
open PySem PySem.Spec PyProof.Rows L2
section
variable {X : Cx} {K : PySem.W.Frag} {e o a i value l : Expr} {ta tv ti te : TE} {tg : Expr} {f : Str} {pos pos' tpos p2 : Pos}
theorem eu_fldK (hK : X.K = K) (he : PE X e ta) (hb : attributeBase e f X.env (eval e X.env) = eval e X.env := by rfl) : PE X (.Attribute e f pos) (tFldU K ta f) := by subst hK; exact eu_fld he hb
theorem su_fldK (hK : X.K = K) (ha : PE X o ta) (hv : PE X value tv) (hs : swapsWith value (some (.Attribute o f pos')) pos.line X.env = pure false := by rfl) : PS X (.Assign [.Attribute o f pos'] value pos) (sFldU K ta tv f) := by subst hK; exact su_fld ha hv hs
theorem su_fldaugK {op : Operator} {rd : V → V → Hp → VK → Prop} (hK : X.K = K) (ha : PE X o ta) (hv : PE X value tv) (hop : InOp X op rd) : PS X (.AugAssign (.Attribute o f tpos) op value pos) (sFldAugU K ta tv rd f) := by subst hK; exact su_fldaug ha hv hop
theorem cu_isiK (hK : X.K = K) : CallR X (.builtin "isinstance") (isiU K) := by subst hK; exact cu_isi
theorem pi_listK (hK : X.K = K) (hl : PE X l ta) : PI X tg l (iList K ta) := by subst hK; exact pi_list hl
theorem sl_listK (hK : X.K = K) : SlR X (rSlL K) := by subst hK; exact sl_list
theorem ix_listK (hK : X.K = K) : IxR X (rIxL K) := by subst hK; exact ix_list
theorem len_seqK (hK : X.K = K) : CallR X (.builtin "len") (fun xs H Q => ∃ p ys, xs = [.ref p] ∧ (SqL K H p ys ∨ SqT K H p ys) ∧ Q (.int ys.length) H) := by subst hK; exact call_len_seq
end
end LX
namespace LX
open PySem PySem.Spec PyProof.Rows L2
def rPowU : R2 := fun x y H Q => match x, y with | .int i, .int j => CPow i j ∧ 0 < i ∧ ∀ z : Int, 0 < z → Q (.int z) H | _, _ => False
end LX
namespace LX
open PySem PySem.Spec PyProof.Rows L2
inductive Res where
  | pure (c : Prop) (v : V)
  | new (c : Prop) (o : HO)
def give : Option Res → Hp → VK → Prop
  | some (.pure c v), H, Q => c ∧ Q v H
  | some (.new c o), H, Q => c ∧ ∀ l, H l = none → Q (.ref l) (upd H l o)
  | none, _, _ => False
section
variable {H : Hp} {Q : VK}
theorem give_p (c : Prop) (v : V) : give (some (.pure c v)) H Q = (c ∧ Q v H) := rfl
theorem give_n (c : Prop) (o : HO) : give (some (.new c o)) H Q = (c ∧ ∀ l, H l = none → Q (.ref l) (upd H l o)) := rfl
theorem give_0 : give none H Q = False := rfl
def addO (x y : V) (H : Hp) : Option Res := match x, y with
  | .int i, .int j => some (.pure True (.int (i + j)))
  | .str i, .str j => some (.pure (i.length + j.length ≤ sizeLine) (.str (i ++ j)))
  | .ref p, .ref q => (match H p, H q with | some (.lst xs), some (.lst zs) => some (.new (xs.length + zs.length ≤ sizeLine) (.lst (xs ++ zs))) | _, _ => none)
  | _, _ => none
theorem add_eq (x y : V) : rAddU x y H Q = give (addO x y H) H Q := by
  cases x <;> cases y <;> first
    | rfl
    | exact (true_and _).symm
    | (rename_i p q
       unfold rAddU addO
       dsimp only
       cases H p with
       | none => rfl
       | some o => cases o <;> first
         | rfl
         | (cases H q with
            | none => rfl
            | some o' => cases o' <;> rfl))
def mulO (x y : V) (H : Hp) : Option Res := match x, y with
  | .int i, .int j => some (.pure (CMul i j) (.int (i * j)))
  | .ref p, .int k => (match H p with | some (.lst xs) => some (.new (-(2 ^ 63) ≤ k ∧ k < 2 ^ 63 ∧ xs.length * k.toNat ≤ sizeLine) (.lst (List.replicate k.toNat xs).flatten)) | _ => none)
  | _, _ => none
theorem mul_eq (x y : V) : rMulU x y H Q = give (mulO x y H) H Q := by
  cases x <;> cases y <;> first
    | rfl
    | (rename_i p q
       unfold rMulU mulO
       dsimp only
       cases H p with
       | none => rfl
       | some o => cases o <;> first
         | rfl
         | (simp only [give_n, and_assoc]))
def lenO (xs : List V) (H : Hp) : Option Res := match xs with
  | [.ref p] => (match H p with | some (.lst ys) => some (.pure True (.int ys.length)) | some (.tup ys) => some (.pure True (.int ys.length)) | some (.dK ks) => some (.pure True (.int ks.length)) | _ => none)
  | [.str z] => some (.pure (z.length ≤ sizeLine) (.int z.length))
  | _ => none
theorem len_eq (xs : List V) : lenU xs H Q = give (lenO xs H) H Q := by
  unfold lenU lenO
  rcases xs with _ | ⟨x, _ | ⟨y, r⟩⟩
  · rfl
  · cases x <;> first
      | rfl
      | (rename_i p
         dsimp only
         cases H p with
         | none => rfl
         | some o => cases o <;> first | rfl | exact (true_and _).symm)
  · cases x <;> rfl
def listO (xs : List V) (H : Hp) : Option Res := match xs with
  | [.ref p] => (match H p with | some (.lst ys) => some (.new True (.lst ys)) | some (.tup ys) => some (.new True (.lst ys)) | _ => none)
  | _ => none
theorem list_eq (xs : List V) : listU xs H Q = give (listO xs H) H Q := by
  unfold listU listO
  rcases xs with _ | ⟨x, _ | ⟨y, r⟩⟩
  · rfl
  · cases x <;> first
      | rfl
      | (rename_i p
         dsimp only
         cases H p with
         | none => rfl
         | some o => cases o <;> first | rfl | exact (true_and _).symm)
  · cases x <;> rfl
def intO (xs : List V) : Option Res := match xs with
  | [.int i] => some (.pure True (.int i))
  | [.bl k] => some (.pure True (.int (if k then 1 else 0)))
  | _ => none
theorem int_eq (xs : List V) : intU xs H Q = give (intO xs) H Q := by
  unfold intU intO
  rcases xs with _ | ⟨x, _ | ⟨y, r⟩⟩
  · rfl
  · cases x <;> first | rfl | exact (true_and _).symm
  · cases x <;> rfl
def oneR : Option V → Option Res
  | some v => some (.pure True v)
  | none => none
def ixO (x y : V) (H : Hp) : Option Res := match x, y with
  | .ref p, .int i => (match H p with | some (.lst xs) => oneR (atI xs i) | some (.tup xs) => oneR (atI xs i) | _ => none)
  | _, _ => none
theorem ix_eq (x y : V) : ixU x y H Q = give (ixO x y H) H Q := by
  cases x <;> cases y <;> first
    | rfl
    | (rename_i p i
       unfold ixU ixO
       dsimp only
       cases H p with
       | none => rfl
       | some o => cases o <;> first
         | rfl
         | (rename_i xs
            dsimp only
            cases atI xs i with
            | none => rfl
            | some v => exact (true_and _).symm))
def gEq (b : Bool) (x y : V) (H : Hp) (Q : VK) : Prop := if b = true then Q (.bl (decide (x = y))) H else rEqD x y H Q
def gNe (b : Bool) (x y : V) (H : Hp) (Q : VK) : Prop := if b = true then Q (.bl (!decide (x = y))) H else rNeD x y H Q
theorem eq_eq (x y : V) : rEqU x y H Q = gEq (scal x y) x y H Q := rfl
theorem ne_eq' (x y : V) : rNeU x y H Q = gNe (scal x y) x y H Q := rfl
theorem gEq_t (x y : V) : gEq true x y H Q = Q (.bl (decide (x = y))) H := by unfold gEq; rw [if_pos rfl]
theorem gEq_f (x y : V) : gEq false x y H Q = rEqD x y H Q := by unfold gEq; rw [if_neg Bool.false_ne_true]
theorem gNe_t (x y : V) : gNe true x y H Q = Q (.bl (!decide (x = y))) H := by unfold gNe; rw [if_pos rfl]
theorem gNe_f (x y : V) : gNe false x y H Q = rNeD x y H Q := by unfold gNe; rw [if_neg Bool.false_ne_true]
end
end LX
namespace LX
open PySem PySem.Spec PyProof.Rows L2
def negI (i : Int) : Int := -i
theorem neg_i {H : Hp} {Q : VK} (i : Int) : rNegU (.int i) H Q = Q (.int (negI i)) H := rfl
end LX

set_option Elab.async false
set_option linter.all false
set_option maxRecDepth 100000
namespace LX
open PySem PySem.Spec PyProof.Rows L2
section
variable {X : Cx}
theorem MtR.imp {id : String} {r r' : V → List V → Hp → VK → Prop} (h : MtM X id r) (i : ∀ x xs H Q, r' x xs H Q → r x xs H Q) : MtM X id r' := fun pins s σ H x xs v us Q I rx rv q => h pins s σ H x xs v us Q I rx rv (i x xs H Q q)
def appU : V → List V → Hp → VK → Prop := fun x vs H Q => match x, vs with
  | .ref l, [y] => (match H l with | some (.lst xs) => xs.length < sizeLine ∧ Q .non (upd H l (.lst (xs ++ [y]))) | _ => False)
  | _, _ => False
theorem mu_append : MtM X "list.append" appU := MtR.imp mt_append fun x vs H Q h => by
  unfold appU at h
  split at h
  · split at h
    · exact ⟨_, _, _, rfl, rfl, ‹_›, h.1, h.2⟩
    · exact h.elim
  · exact h.elim
def pop0U : V → List V → Hp → VK → Prop := fun x vs H Q => match x, vs with
  | .ref l, [.int 0] => (match H l with | some (.lst (y :: r)) => Q y (upd H l (.lst r)) | _ => False)
  | _, _ => False
theorem mu_pop0 : MtM X "list.pop" pop0U := MtR.imp mt_popAt fun x vs H Q h => by
  unfold pop0U at h
  split at h
  · split at h
    · refine ⟨_, _, 0, 0, _, rfl, rfl, ‹_›, by decide, by decide, ?_, rfl, h⟩
      unfold seqIndex?
      simp
    · exact h.elim
  · exact h.elim
def findV (y : V) : List V → Option Nat
  | [] => none
  | z :: r => if eqV z y = true then some 0 else (findV y r).map (· + 1)
theorem findV_spec {y : V} : ∀ {xs : List V} {k : Nat}, findV y xs = some k → k < xs.length ∧ (∀ z, xs[k]? = some z → eqV z y = true) ∧ ∀ j < k, ∀ z, xs[j]? = some z → eqV z y = false
  | [], _, h => by cases h
  | z :: r, k, h => by
    unfold findV at h
    split at h
    · cases h
      refine ⟨by simp, fun z' e => ?_, fun j hj => absurd hj (Nat.not_lt_zero _)⟩
      simp at e; subst e; assumption
    · cases q : findV y r with
      | none => rw [q] at h; cases h
      | some k' =>
        rw [q] at h
        cases h
        obtain ⟨a, b, c⟩ := findV_spec q
        refine ⟨by simp; omega, fun z' e => b z' (by simpa using e), fun j hj z' e => ?_⟩
        cases j with
        | zero => simp at e; subst e; simpa using ‹¬ eqV z y = true›
        | succ j => exact c j (Nat.lt_of_succ_lt_succ hj) z' (by simpa using e)
theorem eqU_at {y : V} : ∀ {xs : List V} {us : List Value}, Vals xs us → xs.all flatV = true → ∀ (j : Nat) (hj : j < us.length), ∃ z, xs[j]? = some z ∧ eqU y us[j] = eqV z y
  | _, _, .nil, _ => fun j hj => absurd hj (Nat.not_lt_zero _)
  | z :: xs, u :: us, .cons r t, f => fun j hj => by
    rw [List.all_cons, Bool.and_eq_true] at f
    cases j with
    | zero => exact ⟨z, rfl, eqU_of r f.1⟩
    | succ j =>
      obtain ⟨z', e, q⟩ := eqU_at (y := y) t f.2 j (by simpa using hj)
      exact ⟨z', by simpa using e, q⟩
def idxO (x : V) (vs : List V) (H : Hp) : Option Res := match x, vs with
  | .ref l, [y] => (match H l with | some (.lst xs) => (match findV y xs with | some k => some (.pure (flatV y = true ∧ xs.all flatV = true) (.int k)) | none => none) | _ => none)
  | _, _ => none
def idxU : V → List V → Hp → VK → Prop := fun x vs H Q => give (idxO x vs H) H Q
theorem mu_index : MtM X "list.index" idxU := by
  intro pins s σ H x vs v us Q I rx rv h
  unfold idxU idxO at h
  split at h
  · rename_i l y
    cases hH : H l with
    | none => rw [hH] at h; exact h.elim
    | some o => cases o with
      | lst xs =>
        rw [hH] at h
        dsimp only at h
        cases hf : findV y xs with
        | none => rw [hf] at h; exact h.elim
        | some k =>
          rw [hf] at h
          obtain ⟨⟨fy, fs⟩, q⟩ := h
          obtain ⟨hk, hk1, hk2⟩ := findV_spec hf
          cases rx
          obtain ⟨u, rfl, ru⟩ := rv.one
          obtain ⟨z, its, n, r, hl, e⟩ := I.lstM hH
          have hsz := sizeLine_eq
          refine call_meets F.slot_list_index ⟨_, e, rfl⟩ F.entry_list_index (F.args_list_index_2 _ _)
            (SeqAt.list_indexAt l its.toArray n none #[] u (eqU y) k (by rw [List.size_toArray]; omega) (by omega) ?_ ?_) ⟨e, fun w hw => mem_eqAt ru fy r fs w (by simpa using hw), ?_⟩
          · obtain ⟨z', e1, e2⟩ := eqU_at (y := y) r fs k (by omega)
            show eqU y its[k] = true
            rw [e2]; exact hk1 z' e1
          · intro j hj hlt
            obtain ⟨z', e1, e2⟩ := eqU_at (y := y) r fs j (by simpa using hj)
            show eqU y its[j] = false
            rw [e2]; exact hk2 j hlt z' e1
          · exact ⟨.int k, H, I.tok _, ⟨_, rfl⟩, q⟩
      | _ => rw [hH] at h; exact h.elim
  · exact h.elim
def cntU : V → List V → Hp → VK → Prop := fun x vs H Q => match x, vs with
  | .ref l, [y] => (match H l with | some (.lst xs) => (flatV y = true ∧ xs.all flatV = true) ∧ Q (.int (xs.countP fun z => eqV z y : Nat)) H | _ => False)
  | _, _ => False
def inO (neg : Bool) (x y : V) (H : Hp) : Option Res := match y with
  | .ref p => (match H p with
    | some (.lst xs) => some (.pure (flatV x = true ∧ xs.all flatV = true) (.bl (if neg then !inV x xs else inV x xs)))
    | some (.tup xs) => some (.pure (flatV x = true ∧ xs.all flatV = true) (.bl (if neg then !inV x xs else inV x xs)))
    | _ => none)
  | _ => none
def inU (neg : Bool) : R2 := fun x y H Q => give (inO neg x y H) H Q
theorem inU_to {K : PySem.W.Frag} {neg : Bool} : ∀ x y H Q, inU neg x y H Q → rIn K neg x y H Q := fun x y H Q h => by
  unfold inU inO at h
  split at h
  · rename_i p
    cases hH : H p with
    | none => rw [hH] at h; exact h.elim
    | some o => cases o with
      | lst xs => rw [hH] at h; exact ⟨_, _, rfl, .inl (.inl (.inl hH)), h.1.1, h.1.2, h.2⟩
      | tup xs => rw [hH] at h; exact ⟨_, _, rfl, .inr (.inl (.inl hH)), h.1.1, h.1.2, h.2⟩
      | _ => rw [hH] at h; exact h.elim
  · exact h.elim
theorem ou_in : OpR X (compareOp .In) (inU false) := OpR.imp op_in_seq inU_to
def listDU : List V → Hp → VK → Prop := fun xs H Q => match xs with
  | [.ref p] => (match H p with | some (.dK kvs) => ∀ l, H l = none → Q (.ref l) (upd H l (.lst (kvs.map fun q => kV q.1))) | _ => False)
  | _ => False
theorem vals_of {xs : List V} : ∀ {us : List Value}, xs.length = us.length → (∀ (j : Nat) (x : V) (u : Value), xs[j]? = some x → us[j]? = some u → RelV x u) → Vals xs us := by
  induction xs with
  | nil => intro us h _; cases us with | nil => exact .nil | cons _ _ => cases h
  | cons x r ih =>
    intro us h k
    cases us with
    | nil => cases h
    | cons u us => exact .cons (k 0 x u rfl rfl) (ih (by simpa using h) fun j a b e1 e2 => k (j + 1) a b (by simpa using e1) (by simpa using e2))
theorem is_kV {P : Program} {w : World} {k : Key} {v : Value} (h : (mixKind P w).is k v = true) : RelV (kV k) v := by
  rcases keyIs_shape h with ⟨i, t, rfl, rfl⟩ | ⟨x, t, rfl, rfl⟩
  · exact ⟨t, rfl⟩
  · exact ⟨t, rfl⟩
theorem kv_get : ∀ {kvs : List (Key × V)} {vs : List (Key × Value)}, KV kvs vs → ∀ (i : Nat) (k : Key) (x : Value), vs[i]? = some (k, x) → ∃ y, kvs[i]? = some (k, y)
  | _, _, .nil, i, k, x, h => by cases h
  | p :: kvs, q :: vs, .cons r t, i, k, x, h => by
    cases i with
    | zero =>
      simp at h
      obtain ⟨e1, _⟩ := r
      refine ⟨p.2, ?_⟩
      simp
      rw [← show q.1 = k by rw [h], ← e1]
    | succ i => obtain ⟨y, e⟩ := kv_get t i k x (by simpa using h); exact ⟨y, by simpa using e⟩
theorem cu_listD (hc : X.calm = true) : CallR X (.type "list") listDU := by
  intro pins s σ H xs us Q I r h
  unfold listDU at h
  split at h
  · rename_i p
    split at h
    · rename_i kvs hH
      obtain ⟨u, rfl, rx⟩ := vals1 r
      cases rx
      obtain ⟨z, hd, vs, rel, dd⟩ := dk_of I.hok hH
      obtain ⟨ep, da⟩ := dd.dictAt
      have hlen := rel.length
      refine PySem.W.kdl_call (PySem.W.kdl_dict (knd := mixKind X.prog X.w) (kvs := vs) (ep := ep) hd) (I.ok.hd hc) da (by omega) fun h' tk acc c kp e it => ?_
      refine ⟨.ref s.heap.objs.size, _, I.laid (t' := tk) kp (Nat.le_refl _) (show ObjOk X.prog X.w _ h' _ (.lst (kvs.map fun q => kV q.1)) from ⟨by rw [List.length_map]; exact z, acc.toList, c, ?_, by simpa using e⟩), rfl, h _ (I.hok.fresh (Nat.le_refl _))⟩
      refine vals_of (by have := it.1; simp; omega) fun j x u e1 e2 => ?_
      obtain ⟨k, y, e3, e4⟩ := it.2 j u (by rw [← Array.getElem?_toList]; exact e2)
      obtain ⟨y', e5⟩ := kv_get rel j k y e3
      rw [List.getElem?_map, e5] at e1
      cases e1
      exact is_kV e4
    · exact h.elim
  · exact h.elim
def sortU : List V → Hp → VK → Prop := fun xs H Q => match xs with
  | [.ref p] => (match H p with | some (.lst ys) => ∃ ns : List Int, ys = ns.map V.int ∧ ns.length < 64 ∧ ∀ l ns', H l = none → List.Perm ns' ns → ns'.Pairwise (· ≤ ·) → Q (.ref l) (upd H l (.lst (ns'.map V.int))) | _ => False)
  | _ => False
theorem ints_are : ∀ {ns : List Int} {us : List Value}, Vals (ns.map V.int) us → IntsAre us ns
  | [], _, .nil => .nil
  | _ :: _, _, .cons ⟨_, e⟩ t => by subst e; exact .cons _ _ (ints_are t)
theorem are_ints : ∀ {ns : List Int} {us : List Value}, IntsAre us ns → Vals (ns.map V.int) us
  | _, _, .nil => .nil
  | _, _, .cons _ _ t => .cons ⟨_, rfl⟩ (are_ints t)
theorem cu_sorted : CallR X (.builtin "sorted") sortU := by
  intro pins s σ H xs us Q I r h
  unfold sortU at h
  split at h
  · rename_i p
    split at h
    · rename_i ys hH
      obtain ⟨ns, rfl, hz, q⟩ := h
      obtain ⟨u, rfl, rx⟩ := vals1 r
      cases rx
      obtain ⟨its, r', pl, hz'⟩ := I.list (.inl (.inl hH))
      have ia := ints_are r'
      have hl := ia.length
      refine PyProof.Rows.sorted_ints pl.isList ia (by omega) fun out ns' a1 a2 a3 => ?_
      obtain ⟨e, he⟩ := PyProof.Rows.sortedAll_at s.heap its out
      refine ⟨.ref (s.heap.objs.size + 1), _, I.laid (t' := s.toks) (fun _ _ => PyProof.Rows.sortedAll_old) (Nat.le_succ _) (show ObjOk X.prog X.w _ _ _ (.lst (ns'.map V.int)) from ⟨?_, out.toList, e, are_ints a1, by simpa [PyProof.Rows.seqObj] using he⟩), rfl, q _ _ (I.hok.fresh (Nat.le_succ _)) a2 a3⟩
      rw [List.length_map, a2.length_eq]
      exact Nat.le_trans (Nat.le_of_lt hz) (by decide)
    · exact h.elim
  · exact h.elim
end
end LX
namespace LX
open PySem PySem.Spec PyProof.Rows L2
section
variable {X : Cx} {o e a b c i : Expr} {es : List Expr} {to ta tb tc td ty : TE} {t : TA} {name : Str} {pos apos cpos : Pos} {T id : String} {r : V → List V → Hp → VK → Prop}
def isLst (x : V) (H : Hp) : Prop := match x with | .ref p => (match H p with | some (.lst _) => True | _ => False) | _ => False
theorem isLst_to {K : PySem.W.Frag} {x : V} {H : Hp} (h : isLst x H) : tyV K "list" x H := by
  unfold isLst at h
  split at h
  · split at h
    · exact .inl ⟨rfl, _, .inl (.inl ‹_›)⟩
    · exact h.elim
  · exact h.elim
def tLM (r : V → List V → Hp → VK → Prop) (to : TE) (t : TA) : TE := fun σ H Q => to σ H fun x H1 => isLst x H1 ∧ t σ H1 fun xs H2 => r x xs H2 Q
theorem eu_lm (slot : Slot "list" name id) (hty : typeOf (.builtin id) = pure (.type "method_descriptor")) (hm : MtM X id r) (ho : PE X o to) (ha : PA X (e :: es) t)
    (hbase : attributeBase o name X.env (eval o X.env) = eval o X.env := by rfl)
    (hfew : ((backTo cpos (starEach (e :: es) X.env)).all (fun x => !x.1) && (backToKw cpos (keywordEach [] X.env)).all (fun x => x.1.isSome)
      && decide ((e :: es).length + ([] : List Keyword).length + (if ([] : List Keyword).isEmpty then 0 else 1) < 30)) = true := by rfl)
    (hline : (apos.endLine == cpos.line) = true := by rfl) (hs : starEach (e :: es) X.env = (false, eval e X.env) :: starEach es X.env := by rfl) (hplain : (backTo cpos (starEach es X.env)).any (·.1) = false := by rfl) :
    PE X (.Call (.Attribute o name apos) (e :: es) [] cpos) (tLM r to t) := by
  intro pins s σ H Q I h
  refine wpAny_Call_method_late hbase hfew hline rfl (thn (ho pins s σ H _ I h) fun v s1 ⟨x, H1, I1, r1, ty, q1⟩ => ?_)
  obtain ⟨h1, h2⟩ := tyV_is I1 r1 (isLst_to ty)
  refine ⟨"list", id, PySem.F.plainAttrs_list, slot, hty, h1, h2, ?_⟩
  have hA := ha cpos pins s1 σ H1 _ I1 q1
  rw [hs] at hA ⊢
  refine Calls.callWith_builtin (by show (false || (backTo cpos (starEach es X.env)).any (·.1)) = false; rw [hplain] <;> rfl) (Calls.evalArgs_plain ?_)
  exact thn hA fun us s2 ⟨vs, H2, I2, r2, q2⟩ => hm pins s2 σ H2 x vs v us Q I2 r1 r2 q2
def diU (neg : Bool) (y x : V) (H : Hp) (Q : VK) : Prop := match x with
  | .ref a => (match H a with | some (.dK kvs) => (match keyOf y with | some k => Q (.bl (if neg then !(valV kvs k).isSome else (valV kvs k).isSome)) H | none => False) | _ => False)
  | _ => False
theorem diU_to {neg : Bool} {x y : V} {H : Hp} {Q : VK} (h : diU neg y x H Q) : ∃ a o, x = .ref a ∧ DGet H a y o ∧ Q (.bl (if neg then !o.isSome else o.isSome)) H := by
  unfold diU at h
  split at h
  · split at h
    · split at h
      · exact ⟨_, _, rfl, .inl ⟨_, _, .inl ‹_›, keyOf_to ‹_›, rfl⟩, h⟩
      · exact h.elim
    · exact h.elim
  · exact h.elim
def tDiU (neg : Bool) (ty td : TE) : TE := fun σ H Q => ty σ H fun y H1 => td σ H1 fun x H2 => diU neg y x H2 Q
theorem cu_dnotin (hu : X.A.units + 1 < cLine) (hi : PE X i ty) (ho : PE X o td) : PC X .NotIn i o (tDiU true ty td) := by
  intro pins s σ H Q I h
  refine thn (hi pins s σ H _ I h) fun iv s1 ⟨y, H1, I1, ry, q1⟩ => thn (ho pins s1 σ H1 _ I1 q1) fun u s2 ⟨x, H2, I2, rx, z⟩ => ?_
  obtain ⟨a, ov, ex, g, q2⟩ := diU_to z
  subst ex
  obtain rfl : u = Value.ref a := rx
  exact d_notIn hu I2 g ry fun s3 I3 => ⟨.bl (!ov.isSome), H2, I3, rfl, q2⟩
def isDK (x : V) (H : Hp) : Prop := match x with | .ref p => (match H p with | some (.dK _) => True | _ => False) | _ => False
theorem isDK_to {x : V} {H : Hp} (h : isDK x H) : ∃ a, x = .ref a ∧ IsD H a := by
  unfold isDK at h
  split at h
  · split at h
    · exact ⟨_, rfl, .inl ⟨_, .inl ‹_›⟩⟩
    · exact h.elim
  · exact h.elim
def dpopU (x y : V) (H : Hp) (Q : VK) : Prop := match x with
  | .ref a => (match H a with | some (.dK kvs) => (match keyOf y with | some k => (match valV kvs k with | some v => Q v (upd H a (.dK (dropK kvs k))) | none => False) | none => False) | _ => False)
  | _ => False
theorem dpopU_to {x y : V} {H : Hp} {Q : VK} (h : dpopU x y H Q) : ∃ a kvs k v, x = .ref a ∧ H a = some (.dK kvs) ∧ y = kV k ∧ valV kvs k = some v ∧ Q v (upd H a (.dK (dropK kvs k))) := by
  unfold dpopU at h
  split at h
  · split at h
    · split at h
      · split at h
        · exact ⟨_, _, _, _, rfl, ‹_›, keyOf_to ‹_›, ‹_›, h⟩
        · exact h.elim
      · exact h.elim
    · exact h.elim
  · exact h.elim
def tDPopU (td ty : TE) : TE := fun σ H Q => td σ H fun x H1 => isDK x H1 ∧ ty σ H1 fun y H2 => dpopU x y H2 Q
theorem eu_dpop (ho : PE X o td) (he : PE X e ty) (m : M1 X o "pop" apos e cpos := by exact ⟨rfl, rfl, rfl, rfl⟩) : PE X (.Call (.Attribute o "pop" apos) [e] [] cpos) (tDPopU td ty) := by
  intro pins s σ H Q I h
  refine wpAny_Call_method m.base m.few m.line PySem.F.plainAttrs_dict PySem.F.slot_dict_pop PySem.F.type_dict_pop (thn (ho pins s σ H _ I h) fun u s1 ⟨x, H1, I1, rx, d, q1⟩ => ?_)
  obtain ⟨a, ex, d'⟩ := isDK_to d
  subst ex
  obtain rfl : u = Value.ref a := rx
  obtain ⟨t1, t2, _⟩ := isD_at I1 d'
  refine ⟨t1, t2, ?_⟩
  rw [m.trees]
  refine Calls.callWith_builtin rfl (Calls.evalArgs_plain (Calls.spliced_cons (thn (he pins s1 σ H1 _ I1 q1) fun iv s2 ⟨y, H2, I2, ry, z⟩ => Calls.spliced_nil ?_)))
  obtain ⟨a', kvs, k, v, ex, ea, ey, l, q2⟩ := dpopU_to z
  cases ex
  subst ey
  exact d_pop I2 ea ry l (.inl rfl) fun w' s3 I3 rw' => ⟨v, _, I3, rw', q2⟩
theorem tu_pc {op : CmpOp} {t : TE} (h : PC X op a b t) (h1 : behindInMarks op b = false := by first | exact nobehind _ (by decide) (by decide) | rfl) : PT X (.Compare a [op] [b] pos) (tTestU t) := by
  intro pins s σ H Q I hw
  refine wpAny_isTrue_Compare1 (thn (h pins s σ H _ I hw) fun v s1 h1 => thn h1 fun u s2 h2 => thn h2 fun c s3 ⟨x, H1, I1, r1, q1⟩ => ?_) h1
  obtain ⟨d, rfl, q⟩ := bU_to q1
  cases r1
  exact wpAny_truthy_bool ⟨H1, I1, q⟩
def tChU (r r' : R2) (ta tb tc : TE) : TE := fun σ H Q => ta σ H fun x H1 => tb σ H1 fun y H2 => r x y H2 fun z H3 => bU z fun k => if k = true then tc σ H3 fun w' H4 => r' y w' H4 Q else Q (.bl false) H3
theorem tu_chain {op op' : CmpOp} {r r' : R2} (ho : OpR X (compareOp op) r) (ho' : OpR X (compareOp op') r') (ha : PE X a ta) (hb : PE X b tb) (hc : PE X c tc)
    (hm : lastMarks [op, op'] [b, c] = false := by with_unfolding_all rfl) : PT X (.Compare a [op, op'] [b, c] pos) (tTestU (tChU r r' ta tb tc)) := by
  intro pins s σ H Q I h
  refine isTrue_chain (thn (ha pins s σ H _ I h) fun v s1 ⟨x, H1, I1, r1, q1⟩ => test_link (thn (hb pins s1 σ H1 _ I1 q1) fun u s2 ⟨y, H2, I2, r2, q2⟩ =>
    thn (ho pins s2 σ H2 x y v u _ I2 r1 r2 q2) fun d s3 ⟨z, H3, I3, r3, q3⟩ => ?_)) hm
  obtain ⟨k, e, q4⟩ := bU_to q3
  subst e
  cases r3
  refine wpAny_truthy_bool ?_
  cases k with
  | false => exact ite_ff ⟨H3, I3, by simpa [bU] using q4⟩
  | true =>
    rw [if_pos rfl] at q4
    refine ite_tt (test_last (thn (hc pins s3 σ H3 _ I3 q4) fun w' s4 ⟨z', H4, I4, r4, q4⟩ => thn (ho' pins s4 σ H4 y z' u w' _ I4 r2 r4 q4) fun d' s5 ⟨z2, H5, I5, r5, q5⟩ => ?_))
    obtain ⟨k2, e2, q6⟩ := bU_to q5
    subst e2
    cases r5
    exact wpAny_truthy_bool ⟨H5, I5, q6⟩
end
end LX

set_option Elab.async false
set_option linter.all false
set_option maxRecDepth 100000
namespace LX
section
open PySem PySem.Spec PySem.Calls PyProof.Rows PySem.W Builtin Builtin.ObjectAttr Builtin.Getset_descriptor
variable {prog : Program} {w : World} {A : Around} {E : Value → Shared → Prop} {s : Shared} {K : Frag} {x C : Addr}
structure ExcC (K : Frag) (C : Addr) : Prop where
  ga : findIn K (.ref C) "__getattribute__" = some (some (.builtin "BaseException.__getattribute__"))
  gr : findIn K (.ref C) "__getattr__" = some none
  cl : findIn K (.ref C) "__class__" = some (some (.builtin "object.__class__"))
  sp : specialIn K (.builtin "object.__class__") "__get__" = some (some (.builtin "getset_descriptor.__get__"))
  tk : takesIn K (.builtin "object.__class__") = some true
  mo : mroIn K C (.type "object") = some true
  mb : mroIn K C (.type "BaseException") = some true
end
section
open PySem PySem.Spec PyProof.Rows L2
def isxU (K : PySem.W.Frag) (ea : Addr) (oe : Obj) : List V → Hp → VK → Prop := fun xs H Q => match xs with
  | [.ref a, c] => a = ea ∧ okC c = true ∧ ∃ C b, oe.cls = .ref C ∧ ExcC K C ∧ PySem.W.kitOne K (.ref C) (cV c) = some b ∧ Q (.bl b) H
  | _ => False
end
end LX

set_option Elab.async false
set_option linter.all false
set_option maxRecDepth 100000
namespace LX
section
open PySem PySem.Spec PySem.Calls PyProof.Rows PySem.W
theorem nolen_lri : typeLookup (.type "list_reverseiterator") "__len__" = pure none := by rw [typeLookup_type, builtinLookup_eq_fast]; kernel_rfl
theorem hint_lri : typeLookup (.type "list_reverseiterator") "__length_hint__" = pure (some (.builtin "list_reverseiterator.__length_hint__")) := by rw [typeLookup_type, builtinLookup_eq_fast]; kernel_rfl
variable {prog : Program} {w : World} {A : Around} {E : Value → Shared → Prop} {s : Shared}
theorem rev_hint {r : Addr} {Q : Bool → Shared → Prop} (hT : s.TypeIs (.ref r) "list_reverseiterator") (h : Q false s) : wpAny (model prog w) A (Builtin.List.listLengthHint (.ref r)) Q E s := by
  unfold Builtin.List.listLengthHint
  refine wpAny_bind (wpAny_specialOf hT nolen_lri ?_)
  show wpAny _ A (specialOf (Value.ref r) (Str.ofString "__length_hint__") >>= _) _ _ _
  refine wpAny_bind (wpAny_specialOf hT hint_lri ?_)
  generalize hid : ("list_reverseiterator.__length_hint__" : String) = id0
  wp_delta
  rw [show splitId id0 = some ("list_reverseiterator", "__length_hint__") from by subst hid; decide +kernel]
  subst hid
  refine wpAny_bind (wpAny_isInstance (T := "list_reverseiterator") (b := true) hT (by rw [isSubtype_type]; kernel_rfl) ?_)
  refine wpAny_ite_split (fun hab => absurd hab (by decide)) (fun _ => ?_)
  refine wpAny_ite_split (fun _ => ?_) (fun hab => absurd (by decide +kernel) hab)
  refine wpAny_ite_split (fun hab => absurd hab (by decide)) (fun _ => ?_)
  exact wpAny_pure h
theorem rev_extend {R : Result → Shared → Prop} {I l : Addr} {items : Array Value} (hh : A.handled = none) (hne : l ≠ I) (hst : s.heap.IsRevIter I l ((items.size : Int) - 1)) (hl : s.heap.IsList l items) (S : Addr) (hSI : S ≠ I) (hSl : S ≠ l) (res : Value) (c₀ : Nat)
    (hS : s.heap.get? S = some { cls := .type "list", data := .seq #[] c₀ })
    (hR : ∀ h' tk acc' c', (∀ b o, b ≠ S → b ≠ I → s.heap.get? b = some o → h'.get? b = some o) → h'.get? S = some { cls := .type "list", dict := none, data := .seq acc' c', slots := #[] } → ItemsOf (fun i v => items[items.size - 1 - i]? = some v) acc' items.size → R (.ok (.ret res)) { s with heap := h', toks := tk }) (hn : items.size ≤ sizeLine) :
    wpAny (model prog w) A.in1 (Builtin.List.listExtendWith (.ref S) (.ref I) res)
      (fun fin s' => match fin with | .done f => R (.ok f) s' | .again c' => c'.quiet = true ∧ codeAny (model prog w) A c' R s') (fun e s' => R (.error e) s') s := by
  have hSf : S ∉ [I, l] := by simp only [List.mem_cons, List.not_mem_nil, or_false, not_or]; exact ⟨hSI, hSl⟩
  have W := Walks.listRev (prog := prog) (w := w) (A := A.in1) hh I l hne items
  have st0 : ∀ h : Heap, h.IsRevIter I l ((items.size : Int) - 1) → h.IsList l items → (0 ≤ items.size ∧ h.IsRevIter I l ((items.size : Int) - 1 - ((0 : Nat) : Int)) ∧ h.IsList l items) := fun h a b => ⟨Nat.zero_le _, by simpa using a, b⟩
  have key : ∀ (h : Heap) (c₁ tk : Nat), (0 ≤ items.size ∧ h.IsRevIter I l ((items.size : Int) - 1 - ((0 : Nat) : Int)) ∧ h.IsList l items) → (∀ b o, b ≠ S → s.heap.get? b = some o → h.get? b = some o) →
      h.get? S = some { cls := .type "list", data := .seq #[] c₁ } → codeAny (model prog w) A (.builtin "list.extend.loop" ⟨[.ref S, .ref I, res], []⟩) R { s with heap := h, toks := tk } := by
    intro h c₁ tk hst hk hS₁
    refine codeAny_extend_loopS W.toS hn S hSf res items.size 0 _ #[] c₁ rfl (Nat.zero_le _) hst hS₁ (ItemsOf.nil _) fun s' acc' c' hm hS' hacc => ?_
    rw [Moved.eq_with hm]
    refine hR s'.heap s'.toks acc' c' (fun b o hb hbI e => hm.heap b o (fun hmem => ?_) (hk b o hb e)) hS' hacc
    rcases List.mem_cons.mp hmem with e' | hmem
    · exact hb e'
    · exact hbI (List.mem_singleton.mp hmem)
  unfold Builtin.List.listExtendWith
  refine wpAny_bind (wpAny_typeOf (T := "list_reverseiterator") hst.typeIs ?_)
  have h1 : Builtin.List.listSameRef (.ref S) (.ref I) = false := by simp [Builtin.List.listSameRef, hSI]
  have h2 : (Value.type "list_reverseiterator" == Value.type "list") = false := by decide
  have h3 : (Value.type "list_reverseiterator" == Value.type "tuple") = false := by decide
  simp only [h1, h2, h3, Bool.or_false, Bool.false_eq_true, if_false]
  refine wpAny_bind (wpAny_pyIter_revIter hst ?_)
  refine wpAny_bind (wpAny_holding (rev_hint hst.typeIs ?_))
  refine wpAny_ite_split (fun _ => ?_) (fun _ => wpAny_pure ⟨plainId_quiet PySem.F.plain_extend_loop _, key _ c₀ _ (st0 _ hst hl) (fun b o _ e => e) hS⟩)
  refine wpAny_bind (wpAny_rule ?_)
  refine wpAny_bind ?_
  show wpAny _ _ (updateSeq S (·.push .none) >>= fun _ => updateSeq S (·.pop)) _ _ _
  refine wpAny_bind (wpAny_updateSeq hS rfl ?_)
  have hS₂ := Heap.get?_update_self (Obj.mapSeq (·.push Value.none)) hS rfl
  refine wpAny_updateSeq (hz := by seq_fits) hS₂ rfl ?_
  have hS₃ := Heap.get?_update_self (Obj.mapSeq (·.pop)) hS₂ rfl
  refine wpAny_pure ⟨plainId_quiet PySem.F.plain_extend_loop _, key _ _ _ ?_ (fun b o hb e => ?_) hS₃⟩
  · refine W.frame 0 _ _ (st0 _ hst hl) fun b hb o e => ?_
    have hbS : b ≠ S := fun h => hSf (h ▸ hb)
    exact (Heap.get?_update_other _ _ (Ne.symm hbS)).trans ((Heap.get?_update_other _ _ (Ne.symm hbS)).trans e)
  · exact (Heap.get?_update_other _ _ (Ne.symm hb)).trans ((Heap.get?_update_other _ _ (Ne.symm hb)).trans e)
theorem rev_init {R : Result → Shared → Prop} {I l : Addr} {items : Array Value} (hh : A.handled = none) (hne : l ≠ I) (hst : s.heap.IsRevIter I l ((items.size : Int) - 1)) (hl : s.heap.IsList l items) (S : Addr) (hSI : S ≠ I) (hSl : S ≠ l)
    (hS : s.heap.get? S = some { cls := .type "list", data := .seq #[] })
    (hR : ∀ h' tk acc' c', (∀ b o, b ≠ S → b ≠ I → s.heap.get? b = some o → h'.get? b = some o) → h'.get? S = some { cls := .type "list", dict := none, data := .seq acc' c', slots := #[] } → ItemsOf (fun i v => items[items.size - 1 - i]? = some v) acc' items.size → R (.ok (.ret .none)) { s with heap := h', toks := tk }) (hn : items.size ≤ sizeLine) :
    wpAny (model prog w) A.in1 (Builtin.«list.__init__» ⟨[.ref S, .ref I], []⟩)
      (fun fin s' => match fin with | .done f => R (.ok f) s' | .again c' => c'.quiet = true ∧ codeAny (model prog w) A c' R s') (fun e s' => R (.error e) s') s := by
  show wpAny _ _ (do let old ← Builtin.List.listItems (.ref S); Builtin.List.listUpdate (.ref S) (fun _ => #[]); letGo old.toList.reverse; Builtin.List.listExtendWith (.ref S) (.ref I) .none) _ _ s
  refine wpAny_bind ?_
  unfold Builtin.List.listItems
  refine wpAny_bind (wpAny_seqItems hS rfl (wpAny_pure ?_))
  show wpAny _ _ (updateSeq S (fun _ => #[]) >>= fun _ => letGo (#[] : Array Value).toList.reverse >>= fun _ => Builtin.List.listExtendWith (.ref S) (.ref I) .none) _ _ s
  refine wpAny_bind (wpAny_updateSeq hS rfl ?_)
  have hS₂ := Heap.get?_update_self (Obj.mapSeq (fun _ => (#[] : Array Value))) hS rfl
  have oth : ∀ b o, b ≠ S → s.heap.get? b = some o → (s.heap.update S (Obj.mapSeq (fun _ => (#[] : Array Value)))).get? b = some o :=
    fun b o hb e => (Heap.get?_update_other _ _ (Ne.symm hb)).trans e
  refine wpAny_bind (wpAny_letGo ?_)
  refine rev_extend hh hne (hst.at fun o e => oth I o hSI.symm e) (hl.at fun o e => oth l o hSl.symm e) S hSI hSl .none _ hS₂ (fun h' tk acc' c' hk hS' hacc => ?_) hn
  exact hR h' tk acc' c' (fun b o hb hbI e => hk b o hb hbI (oth b o hb e)) hS' hacc
theorem call_list_rev {Q : Value → Shared → Prop} {I l : Addr} {items : Array Value} (hh : A.handled = none) (hne : l ≠ I) (hst : s.heap.IsRevIter I l ((items.size : Int) - 1)) (hl : s.heap.IsList l items) (hn : items.size ≤ sizeLine)
    (hQ : ∀ h' tk acc' c', (∀ b o, b ≠ I → s.heap.get? b = some o → h'.get? b = some o) → h'.get? s.heap.objs.size = some { cls := .type "list", dict := none, data := .seq acc' c', slots := #[] } → ItemsOf (fun i v => items[items.size - 1 - i]? = some v) acc' items.size → Q (.ref s.heap.objs.size) { s with heap := h', toks := tk }) :
    wpAny (model prog w) A (call (.type "list") [.ref I]) Q E s := by
  refine callType_codes (Q₁ := fun obj s₁ => obj = .ref s.heap.objs.size ∧ s₁ = { s with heap := s.heap.push { cls := .type "list", data := .seq #[] } }) PySem.F.called_list (PySem.F.typeCall_list_1 _) PySem.F.entry_list_init
    (code_list_new _ ⟨rfl, rfl⟩) fun obj s₁ h₁ => ?_
  obtain ⟨rfl, rfl⟩ := h₁
  have hS : (s.heap.push { cls := .type "list", data := .seq #[] }).get? s.heap.objs.size = some { cls := .type "list", data := .seq #[] } := Heap.get?_push_size _ rfl
  have lI : I < s.heap.objs.size := let ⟨_, ho, _⟩ := hst; Heap.lt_size ho
  have ll : l < s.heap.objs.size := let ⟨_, ho, _⟩ := hl; Heap.lt_size ho
  refine ⟨⟨_, hS, rfl⟩, PySem.F.args_list_init_2 _ _, rev_init (A := A.in1) hh hne (hst.at fun o e => Heap.get?_push_of_some _ e) (hl.at fun o e => Heap.get?_push_of_some _ e) _ (Nat.ne_of_gt lI) (Nat.ne_of_gt ll) hS (fun h' tk acc' c' hk hS' hacc => ?_) hn⟩
  exact ⟨rfl, hQ h' tk acc' c' (fun b o hb e => hk b o (Nat.ne_of_lt (Heap.lt_size e)) hb (Heap.get?_push_of_some _ e)) hS' hacc⟩
end
section
open PySem PySem.Spec PyProof.Rows L2
variable {X : Cx} {a : Expr} {ta : TE} {p p' pos pos' : Pos}
def tLRev (ta : TE) : TE := fun σ H Q => ta σ H fun v H1 => match v with
  | .ref l => (match H1 l with | some (.lst xs) => ∀ y, H1 y = none → Q (.ref y) (upd H1 y (.lst xs.reverse)) | _ => False)
  | _ => False
theorem pe_listRev (hc : X.calm = true) (hg : Gl X "list") (hm : X.mg "list" = none) (hg' : Gl X "reversed") (hm' : X.mg "reversed" = none) (ha : PE X a ta)
    (hs : starEach [a] X.env = [(false, eval a X.env)] := by rfl) (hs2 : starEach [Expr.Call (.Name "reversed" p') [a] [] pos'] X.env = [(false, eval (.Call (.Name "reversed" p') [a] [] pos') X.env)] := by rfl) :
    PE X (.Call (.Name "list" p) [.Call (.Name "reversed" p') [a] [] pos'] [] pos) (tLRev ta) := by
  intro pins s σ H Q I h
  refine wpAny_Call_Name_kw (ld_blt I hg hm PyProof.Rows.boot_list ?_)
  refine PyProof.Rows.callWith_type1 ?_ hs2 rfl
  rw [hs2]
  show wpAny _ _ (spliced ((false, eval (.Call (.Name "reversed" p') [a] [] pos') X.env) :: [])) _ _ s
  refine Calls.spliced_cons ?_
  refine wpAny_Call_Name_kw (ld_blt I hg' hm' PyProof.Rows.boot_reversed ?_)
  refine PyProof.Rows.callWith_type1 ?_ hs rfl
  rw [hs]
  show wpAny _ _ (spliced ((false, eval a X.env) :: [])) _ _ s
  refine Calls.spliced_cons (thn (ha pins s σ H _ I h) fun u s1 ⟨v, H1, I1, r1, q1⟩ => ?_)
  refine Calls.spliced_nil ?_
  dsimp only at q1
  split at q1
  · rename_i l
    split at q1
    · rename_i xs hH
      cases r1
      obtain ⟨its, r', pl, hz⟩ := I1.list (.inl (.inl hH))
      have hlen := r'.length
      have ll : l < s1.heap.objs.size := let ⟨_, ho, _⟩ := pl.isList; Heap.lt_size ho
      refine call_reversed_list pl.isList ?_
      refine Calls.spliced_nil ?_
      refine call_list_rev (I := s1.heap.objs.size) (l := l) (items := its.toArray) (I1.ok.hd hc) (Nat.ne_of_lt ll) ⟨_, Heap.get?_push_size _ rfl, rfl, rfl⟩ (pl.isList.at fun o e => Heap.get?_push_of_some _ e) (by simp; omega) fun h' tk acc c kp e it => ?_
      have sz : s1.heap.objs.size ≤ (s1.heap.push (revObj l ((its.toArray.size : Int) - 1))).objs.size := by rw [Heap.size_push]; omega
      refine ⟨.ref _, _, I1.laid (t' := tk) (fun b u eb => kp b u (Nat.ne_of_lt (Heap.lt_size eb)) (Heap.get?_push_of_some _ eb)) sz (show ObjOk X.prog X.w _ h' _ (.lst xs.reverse) from ⟨by rw [List.length_reverse]; exact hz, acc.toList, c, ?_, by simpa using e⟩), rfl, q1 _ (I1.hok.fresh sz)⟩
      refine vals_of (by have := it.1; simp at this ⊢; omega) fun j x u e1 e2 => ?_
      have jl : j < xs.length := by have := (List.getElem?_eq_some_iff.mp e1).1; simpa using this
      rw [List.getElem?_reverse jl] at e1
      have e3 := it.2 j u (by rw [← Array.getElem?_toList]; exact e2)
      obtain ⟨u', e4, r4⟩ := r'.get e1
      simp at e3
      rw [show xs.length - 1 - j = its.length - 1 - j by omega, e3] at e4
      cases e4
      exact r4
    · exact q1.elim
  · exact q1.elim
def upTo (lo : Int) (n : Nat) : List Int := (List.range n).map fun (k : Nat) => lo + (k : Int)
def tLRng1 (ta : TA) : TE := fun σ H Q => ta σ H fun vs H1 => match vs with
  | [.int j] => 0 ≤ j ∧ j ≤ 1000 ∧ ∀ y, H1 y = none → Q (.ref y) (upd H1 y (.lst ((upTo 0 j.toNat).map V.int)))
  | _ => False
def tLRng2 (ta : TA) : TE := fun σ H Q => ta σ H fun vs H1 => match vs with
  | [.int i, .int j] => -1000 ≤ i ∧ i ≤ 1000 ∧ -1000 ≤ j ∧ j ≤ 1000 ∧ ∀ y, H1 y = none → Q (.ref y) (upd H1 y (.lst ((upTo i (j - i).toNat).map V.int)))
  | _ => False
end
end LX

set_option Elab.async false
set_option linter.all false
set_option maxRecDepth 100000
namespace LX
open PySem PySem.Spec PyProof.Rows L2
def Its (z : Str) : It := ⟨fun i _ => i < z.cps.size, fun i H x H' => H' = H ∧ ∃ c, z.cps[i]? = some c ∧ x = .str ⟨#[c]⟩, fun i _ => i = z.cps.size⟩
section
variable {X : Cx} {tg : Expr}
def iStr (tl : TE) : TI := fun σ H R => tl σ H fun x H1 => match x with | .str z => R (Its z) H1 | _ => False
end
theorem strs_of : ∀ {ys : List Str} {us : List Value}, Vals (ys.map V.str) us → StrsAre us ys
  | [], _, .nil => .nil
  | y :: r, _, .cons q t => by
    obtain ⟨tk, rfl⟩ := q
    exact .cons y tk (strs_of t)
section
variable {X : Cx} {o e : Expr} {es : List Expr} {to : TE} {t : TA} {apos cpos : Pos}
def joinU : V → List V → Hp → VK → Prop := fun x vs H Q => match x, vs with
  | .str z, [.ref l] => (match H l with | some (.lst xs) => ∃ ys : List Str, xs = ys.map V.str ∧ (ys.map (·.length)).sum + ys.length * z.length ≤ 16777216 ∧ Q (.str (Txt.join z ys)) H | _ => False)
  | _, _ => False
theorem mt_join : MtR X "str.join" joinU := by
  intro pins s σ H x vs v us Q I rx rv h
  unfold joinU at h
  split at h
  · split at h
    · rename_i z l _ xs hH
      obtain ⟨ys, rfl, hz, q⟩ := h
      obtain ⟨t, rfl⟩ := rx
      obtain ⟨u, rfl, ru⟩ := rv.one
      cases ru
      obtain ⟨z', its, n, r, hl, e⟩ := I.lstM hH
      exact join_list (items := its.toArray) ⟨_, e, rfl, n, rfl⟩ (strs_of r) hz fun t' k => ⟨.str _, H, I.tok _, ⟨_, rfl⟩, q⟩
    · exact h.elim
  · exact h.elim
def isStrV : V → Prop
  | .str _ => True
  | _ => False
def tJoin (to : TE) (t : TA) : TE := fun σ H Q => to σ H fun x H1 => isStrV x ∧ t σ H1 fun xs H2 => joinU x xs H2 Q
theorem eu_join (ho : PE X o to) (ha : PA X (e :: es) t)
    (hbase : attributeBase o "join" X.env (eval o X.env) = eval o X.env := by rfl)
    (hfew : ((backTo cpos (starEach (e :: es) X.env)).all (fun x => !x.1) && (backToKw cpos (keywordEach [] X.env)).all (fun x => x.1.isSome)
      && decide ((e :: es).length + ([] : List Keyword).length + (if ([] : List Keyword).isEmpty then 0 else 1) < 30)) = true := by rfl)
    (hline : (apos.endLine == cpos.line) = true := by rfl) (hs : starEach (e :: es) X.env = (false, eval e X.env) :: starEach es X.env := by rfl) (hplain : (backTo cpos (starEach es X.env)).any (·.1) = false := by rfl) :
    PE X (.Call (.Attribute o "join" apos) (e :: es) [] cpos) (tJoin to t) := by
  intro pins s σ H Q I h
  refine wpAny_Call_method_late hbase hfew hline rfl (thn (ho pins s σ H _ I h) fun v s1 ⟨x, H1, I1, r1, ty, q1⟩ => ?_)
  have ty' : tyV X.K "str" x H1 := by cases x <;> first | rfl | exact ty.elim
  obtain ⟨h1, h2⟩ := tyV_is I1 r1 ty'
  refine ⟨"str", "str.join", PySem.F.plainAttrs_str, PySem.F.slot_str_join, PySem.F.type_str_join, h1, h2, ?_⟩
  have hA := ha cpos pins s1 σ H1 _ I1 q1
  rw [hs] at hA ⊢
  refine Calls.callWith_builtin (by show (false || (backTo cpos (starEach es X.env)).any (·.1)) = false; rw [hplain] <;> rfl) (Calls.evalArgs_plain ?_)
  exact thn hA fun us s2 ⟨vs, H2, I2, r2, q2⟩ => mt_join pins s2 σ H2 x vs v us Q I2 r1 r2 q2
end
def mulSU : R2 := fun x y H Q => match x, y with
  | .str z, .int n => (1 < n ∧ 0 < z.length ∧ z.length * n.toNat ≤ 1000000 ∧ n ≤ 1000000) ∧ Q (.str ⟨(List.replicate n.toNat z.cps).foldl (· ++ ·) #[]⟩) H
  | _, _ => False
def ixSU : R2 := fun x y H Q => match x, y with
  | .str z, .int i => (match atI z.cps.toList i with | some c => z.length ≤ sizeLine ∧ Q (.str ⟨#[c]⟩) H | none => False)
  | _, _ => False
section
variable {X : Cx} {i o : Expr} {pos p : Pos} {ty : TE} {d : Addr} {kvs : List (Key × V)} {x : Str}
def tGGet (kvs : List (Key × V)) (ty : TE) : TE := fun σ H Q => ty σ H fun y H1 => match keyOf y with | some k => (match valV kvs k with | some v => Q v H1 | none => False) | none => False
def tGIn (neg : Bool) (kvs : List (Key × V)) (ty : TE) : TE := fun σ H Q => ty σ H fun y H1 => match keyOf y with | some k => Q (.bl (if neg then !(valV kvs k).isSome else (valV kvs k).isSome)) H1 | none => False
end
def clrU : V → List V → Hp → VK → Prop := fun x vs H Q => match x, vs with
  | .ref l, [] => (match H l with | some (.lst xs) => Q .non (upd H l (.lst [])) | _ => False)
  | _, _ => False
section
variable {X : Cx} {o : Expr} {to : TE} {name : Str} {apos cpos : Pos} {id : String} {r : V → List V → Hp → VK → Prop}
def tLM0 (r : V → List V → Hp → VK → Prop) (to : TE) : TE := fun σ H Q => to σ H fun x H1 => isLst x H1 ∧ r x [] H1 Q
end
theorem lenS {us : List Value} {n : Nat} {p : List Value → Prop} (h : us.length = n + 1) (k : ∀ (a : Value) (r : List Value), r.length = n → p (a :: r)) : p us := by
  cases us with
  | nil => cases h
  | cons a r => exact k a r (Nat.succ.inj h)
theorem len0 {us : List Value} {p : List Value → Prop} (h : us.length = 0) (k : p []) : p us := by
  cases us with
  | nil => exact k
  | cons a r => cases h
theorem len1 {us : List Value} {p : List Value → Prop} (h : us.length = 1) (k : ∀ a : Value, p [a]) : p us := lenS h fun a r h => len0 (p := fun r => p (a :: r)) h (k a)
theorem len2 {us : List Value} {p : List Value → Prop} (h : us.length = 2) (k : ∀ a a1 : Value, p [a, a1]) : p us := lenS h fun a r h => len1 (p := fun r => p (a :: r)) h (k a)
theorem len3 {us : List Value} {p : List Value → Prop} (h : us.length = 3) (k : ∀ a a1 a2 : Value, p [a, a1, a2]) : p us := lenS h fun a r h => len2 (p := fun r => p (a :: r)) h (k a)
theorem fb1 {K : PySem.W.Frag} {x qual : Str} {st : Stmt} {f : Addr} {fd : FuncData} {p0 : Str} (F : Fun K x qual st f fd)
    (h : ∀ (kV doc pm : Value) (an : Option Addr) (cdv ct u0 : Value), bindArgs (PySem.W.fnOf x qual (defArgs st) (defBody st) (defScope st) .none kV doc pm an cdv ct) ⟨[u0], []⟩ = pure [(p0, u0)]) : Binds K fd [p0] [] :=
  F.binds fun kV doc pm an cdv ct us hl => len1 (p := fun us => bindArgs (PySem.W.fnOf x qual (defArgs st) (defBody st) (defScope st) .none kV doc pm an cdv ct) ⟨us, []⟩ = pure ([p0].zip us)) hl (h kV doc pm an cdv ct)
theorem fb2 {K : PySem.W.Frag} {x qual : Str} {st : Stmt} {f : Addr} {fd : FuncData} {p0 p1 : Str} (F : Fun K x qual st f fd)
    (h : ∀ (kV doc pm : Value) (an : Option Addr) (cdv ct u0 u1 : Value), bindArgs (PySem.W.fnOf x qual (defArgs st) (defBody st) (defScope st) .none kV doc pm an cdv ct) ⟨[u0, u1], []⟩ = pure [(p0, u0), (p1, u1)]) : Binds K fd [p0, p1] [] :=
  F.binds fun kV doc pm an cdv ct us hl => len2 (p := fun us => bindArgs (PySem.W.fnOf x qual (defArgs st) (defBody st) (defScope st) .none kV doc pm an cdv ct) ⟨us, []⟩ = pure ([p0, p1].zip us)) hl (h kV doc pm an cdv ct)
theorem fb3 {K : PySem.W.Frag} {x qual : Str} {st : Stmt} {f : Addr} {fd : FuncData} {p0 p1 p2 : Str} (F : Fun K x qual st f fd)
    (h : ∀ (kV doc pm : Value) (an : Option Addr) (cdv ct u0 u1 u2 : Value), bindArgs (PySem.W.fnOf x qual (defArgs st) (defBody st) (defScope st) .none kV doc pm an cdv ct) ⟨[u0, u1, u2], []⟩ = pure [(p0, u0), (p1, u1), (p2, u2)]) : Binds K fd [p0, p1, p2] [] :=
  F.binds fun kV doc pm an cdv ct us hl => len3 (p := fun us => bindArgs (PySem.W.fnOf x qual (defArgs st) (defBody st) (defScope st) .none kV doc pm an cdv ct) ⟨us, []⟩ = pure ([p0, p1, p2].zip us)) hl (h kV doc pm an cdv ct)
theorem seqG {t u : TS} {D : Ends} {σ : L2.St} {H : Hp} (h : ∀ R : TS, u = R → t { D with nx := R D } σ H) : tSeq t u D σ H := h u rfl
theorem ifG {c : TT} {t u : TS} {D : Ends} {σ : L2.St} {H : Hp} (h : ∀ T U : TS, t = T → u = U → c σ H fun b H1 => if b = true then T D σ H1 else U D σ H1) : tIfS c t u D σ H := h t u rfl rfl
theorem scal_nn  : scal (.non) (.non) = true := rfl
theorem scal_ni (y : Int) : scal (.non) (.int y) = true := rfl
theorem scal_in (x : Int) : scal (.int x) (.non) = true := rfl
theorem scal_nb (y : Bool) : scal (.non) (.bl y) = true := rfl
theorem scal_bn (x : Bool) : scal (.bl x) (.non) = true := rfl
theorem scal_ns (y : Str) : scal (.non) (.str y) = true := rfl
theorem scal_sn (x : Str) : scal (.str x) (.non) = true := rfl
theorem scal_ii (x : Int) (y : Int) : scal (.int x) (.int y) = true := rfl
theorem scal_bb (x : Bool) (y : Bool) : scal (.bl x) (.bl y) = true := rfl
theorem scal_ss (x : Str) (y : Str) : scal (.str x) (.str y) = true := rfl
theorem scal_is (x : Int) (y : Str) : scal (.int x) (.str y) = true := rfl
theorem scal_si (x : Str) (y : Int) : scal (.str x) (.int y) = true := rfl
theorem scal_bs (x : Bool) (y : Str) : scal (.bl x) (.str y) = true := rfl
theorem scal_sb (x : Str) (y : Bool) : scal (.str x) (.bl y) = true := rfl
theorem scal_rr (x : Addr) (y : Addr) : scal (.ref x) (.ref y) = false := rfl
theorem scal_nr (y : Addr) : scal (.non) (.ref y) = false := rfl
theorem scal_rn (x : Addr) : scal (.ref x) (.non) = false := rfl
def gS (b : Bool) (p : Prop) : Prop := b = true ∧ p
theorem gS_t (p : Prop) : gS true p = p := propext ⟨fun h => h.2, fun h => ⟨rfl, h⟩⟩
def rEqS : R2 := fun x y H Q => gS (scal x y) (Q (.bl (decide (x = y))) H)
def rNeS : R2 := fun x y H Q => gS (scal x y) (Q (.bl (!decide (x = y))) H)
open PySem.W in
theorem walkX {K : Params → Frag} {q : Program} {loose : List Str} {XP : (Str → Option Value) → Heap → Prop} {r : RowW} {d : DefRec} {kwd : List (Str × Expr)} {run : Value → List Value → Sem Value} {as : List Addr} {n t : Nat}
    (e : ∀ P, as = (K P).map (·.1)) (W : WalkO q loose XP (fun w h => (K w.params).In h) r d kwd run) : WalkX q loose XP (X.obsZ as) (X.valZ K n t) r d kwd run :=
  fun w s₀ s₁ mg mb G y a o pm cd doc dV kV h1 h2 h3 h4 h5 h6 args vals as' L hpre hl hr hw hlo =>
    W w s₀ s₁ mg mb G (InK.keeps w _ _ (X.z_facts e y).2.1 L.keeps) a o pm cd doc dV kV h1 h2 h3 h4 h5 h6 args vals as' hpre hl hr hw hlo
end LX

set_option Elab.async false
set_option linter.all false
set_option maxRecDepth 100000
namespace LX
open PySem PySem.Spec PyProof.Rows L2
section
variable {X : Cx}
end

section
variable {prog : Program} {w : World} {A : Around}
variable {E : Value → Shared → Prop} {s : Shared} {Q : Value → Shared → Prop}
end

section
variable {X : Cx}
end
end LX

set_option Elab.async false
set_option linter.all false
set_option maxRecDepth 100000
namespace LX
open PySem PySem.W
def runT (tb : String → Option Builtin) (p : Program) (w : World) (m : Nat) (ann : Option Value) : Nat → SharedT → Thread → Option SharedT
  | 0, _, _ => none
  | n + 1, z, t => match through t with
    | true => some z
    | false => match stepOk m ann t with
      | false => none
      | true => match stepT (denote tb) p w z t with
        | some (z', t') => runT tb p w m ann n z' t'
        | none => none
theorem runT_of {tb : String → Option Builtin} {p : Program} {w : World} {m : Nat} {ann : Option Value} : ∀ {n : Nat} {z z' : SharedT} {t : Thread}, runT tb p w m ann n z t = some z' → topRun tb p w m ann n z.abs t = some z'.abs
  | 0, _, _, _, h => by cases h
  | n + 1, z, z', t, h => by
    unfold runT at h
    unfold topRun
    cases e : through t with
    | true => rw [e] at h; cases h; rfl
    | false =>
      rw [e] at h
      cases q : stepOk m ann t with
      | false => rw [q] at h; cases h
      | true =>
        rw [q] at h
        cases hs : stepT (denote tb) p w z t with
        | none => rw [hs] at h; cases h
        | some r => obtain ⟨z2, t2⟩ := r; rw [hs] at h; rw [stepT_spec hs]; exact runT_of h
def growT : List Obj → Nat → BT → BT
  | [], _, t => t
  | o :: r, n, t => growT r (n + 1) (t.ins n o)
def seenT (p q : Program) (loose : List Str) (Xt : Shared → Bool) {α : Type} (Yf : Shared → α) (H : Heap) (g0 : Bool) (s : Shared) :=
  (staticsOk (importedModules p.main.body) H s.heap && namesBound p s.heap && gensDone s && laidKept H s.heap, openSeen q loose (importedModules p.main.body) Xt g0 s, Yf s)
theorem left_of_tree {p q : Program} {loose : List Str} {Xt : Shared → Bool} {α : Type} {Yf : Shared → α} {Ya : World → α} {N : Nat} {g0 : Bool} {H₀ : Params → Heap} {gs₀ : Array GenState} {d₀ : Drawn} {k₀ : Nat} {m₀ : Nat} {ann : Option Value} {zT : World → OsState → SharedT}
    (op : ∀ w : World, (fencedOpening treeTable p w N).map (fun s => (s.heap, s.gens, s.drawn, s.toks)) = some (H₀ w.params, gs₀, d₀, k₀))
    (size : ∀ w : World, ((H₀ w.params).isNs mainGlobals && gs₀.size == 0, (H₀ w.params).objs.size, (H₀ w.params).nsMap mainGlobals "__annotations__") = (true, m₀, ann))
    (ab : ∀ w os, (zT w os).abs = ⟨H₀ w.params, gs₀, d₀, k₀, os⟩)
    (run : ∀ w : World, (fun os => (runT treeTable p w m₀ ann N (zT w os) (topStub p)).map fun z => seenT p q loose Xt Yf (H₀ w.params) g0 z.abs) = fun _ => some (true, openGood q loose, Ya w)) : LeftO p q loose Xt Yf Ya N g0 := fun w => by
  obtain ⟨⟨h, gs, d, k, os⟩, e, e'⟩ := Option.map_eq_some_iff.mp (op w)
  obtain ⟨rfl, rfl, rfl, rfl⟩ : h = H₀ w.params ∧ gs = gs₀ ∧ d = d₀ ∧ k = k₀ := by simpa using e'
  obtain ⟨z1, z2, z3⟩ : _ ∧ _ ∧ _ := by simpa only [Prod.mk.injEq] using size w
  obtain ⟨z, r0, l⟩ := Option.map_eq_some_iff.mp (congrFun (run w) os)
  have r := runT_of r0
  rw [ab] at r
  obtain ⟨l1, l2, l3⟩ : _ ∧ _ ∧ _ := by simpa only [seenT, Prod.mk.injEq] using l
  have t : topFrom treeTable p w N ⟨H₀ w.params, gs, d, k, os⟩ = some z.abs := by
    unfold topFrom
    dsimp only
    rw [z1, z2, z3, r]
    show (match staticsOk (importedModules p.main.body) (H₀ w.params) z.abs.heap && namesBound p z.abs.heap && gensDone z.abs && laidKept (H₀ w.params) z.abs.heap with | true => _ | false => _) = _
    rw [l1]
  unfold openEnds
  rw [e]
  show (topFrom treeTable p w N _).map _ = _
  rw [t]
  exact congrArg some (Prod.ext l2 l3)
noncomputable def zBoot (m : Nat) (w : World) (os : OsState) : SharedT := ⟨growT (boot_heap w.params).objs.toList 0 .nil, m, (boot_heap w.params).life, Array.mk [], boot_drawn, boot_toks, os⟩
end LX

set_option Elab.async false
set_option linter.all false
set_option maxRecDepth 100000
namespace LX
open PySem PySem.Spec PyProof.Rows L2
section
variable {P : Program} {w : World} {H : Hp} {h : Heap} {ea b : Addr} {oe : Obj} {φ : Heap → Prop}
end
section
variable {X : Cx} {k : Nat} {f : Addr} {fd : FuncData} {ps : List Str} {sp : Sp} {ea : Addr} {oe : Obj} {x : Str} {p pos : Pos} {e : Expr} {es : List Expr} {t : TA}
end
section
variable {X : Cx} {c n : Str} {np pos : Pos} {b₀ : Stmt} {suite : List Stmt} {rest : List ExceptHandler} {C : Addr} {tr : Value → TS}
end
end LX

set_option Elab.async false
set_option linter.all false
set_option maxRecDepth 100000
namespace LX
open PySem PySem.Spec PyProof.Rows L2
section
variable {X : Cx} {tg : Expr}
end
section
variable {X : Cx}
end
end LX
namespace LX
open PySem PySem.Spec PyProof.Rows L2
theorem pg_tupK {X : Cx} {K : PySem.W.Frag} {es : List Expr} {k : Nat} {t : TGs} {n : Nat} {pos : Pos} (hK : X.K = K) (hc : X.calm = true) (h : PGs X es t)
    (hn : (assignEach es X.env).length = n := by rfl) (hst : (assignEach es X.env).findIdx? (·.1) = none := by rfl) : PG X (.Tuple es k pos) (gTup K n t) := by subst hK; exact pg_tup hc h hn hst
end LX

set_option Elab.async false
set_option linter.all false
set_option maxRecDepth 100000
namespace LX
open PySem PySem.Spec PyProof.Rows L2
def CompW2 (K : PySem.W.Frag) (J : It) (fv : L2.St) (tif : TT) (te : TE) (Q : List V → Hp → Prop) (H1 : Hp) : Prop := ∃ W : Nat → Nat → List V → Hp → Prop, (∃ m, W 0 m [] H1) ∧ ∀ i m acc H, W i m acc H →
  (J.stop i H ∧ acc.length ≤ sizeLine ∧ Q acc H) ∨ (J.go i H ∧ acc.length < sizeLine ∧ ∀ x H', J.yld i H x H' → ∃ a y1 y2, x = .ref a ∧ SqT K H' a [y1, y2] ∧ tif (some y1 :: some y2 :: fv) H' fun b H2 => if b = true then te (some y1 :: some y2 :: fv) H2 fun v H3 => ∃ m', m' < m ∧ W (i + 1) m' (acc ++ [v]) H3 else ∃ m', m' < m ∧ W (i + 1) m' acc H2)
def tComp2 (K : PySem.W.Frag) (wi : TI) (ixs : List Nat) (tif : TT) (te : TE) : TE := fun σ H Q => wi σ H fun J H1 => CompW2 K J (fvals ixs σ) tif te (fun acc H2 => ∀ D, H2 D = none → Q (.ref D) (upd H2 D (.lst acc))) H1
section
variable {X : Cx} {pins : List (Addr × Obj)} {σ : L2.St} {scope : Scope} {x xb : Str} {px pb tp pos : Pos} {kt : Nat} {fv : List Str} {ixs : List Nat} {elt iter : Expr} {ifs : List Expr} {tif : TT} {te : TE} {cl : List (Str × Addr)}

theorem blk_start2 {H2 : Hp} {s2 : Shared} {fp : List Addr} {h1 : Heap} {tk : Nat} {D C : Addr} {m : Str → Option Value} {dobj : Obj} (ok : CompOk scope x fv X.env.scope) (hvb : scope.names.lookup xb = some .local) (hix : ixs.map (fun k => X.N[k]?) = fv.map some)
    (hcl1 : ∀ y c, cl.lookup y = some c → X.env.cells.lookup y = some c) (hcl2 : ∀ y, (y, NameKind.free) ∈ scope.names → cl.lookup y = X.env.cells.lookup y)
    (I2 : Inv X pins σ H2 s2) (f2 : ∀ b ∈ fp, FpOk X pins H2 b) (fo : ∀ b ∈ fp, ∃ o, s2.heap.get? b = some o) (hD : s2.heap.objs.size ≤ D) (hC : s2.heap.objs.size ≤ C) (hDC : D ≠ C)
    (k1 : ∀ b o, s2.heap.get? b = some o → h1.get? b = some o) (hd : h1.get? D = some dobj) (hdd : ∀ v, dobj.data ≠ .cell v) (hm : h1.Ns C m) :
    Inv (blkCx X scope cl C (x :: xb :: fv) s2 H2 fp) [(D, dobj)] (none :: none :: fvals ixs σ) H2 { s2 with heap := h1, toks := tk } := by
  have o := I2.ok
  have fresh : ∀ a, s2.heap.objs.size ≤ a → H2 a = none := fun a ha => I2.hok.fresh ha
  have lenf : fv.length = ixs.length := by have := congrArg List.length hix; simpa using this.symm
  refine ⟨⟨o.mod, ok.kind, o.glob, o.blt, hC, fun y z c e1 e2 => o.inj y z c (hcl1 y c e1) (hcl1 z c e2), fun y hy => ?_, fun y c h => (nomatch (show false = true from h)), o.hd, o.frames, .inl rfl, fun b hb => ?_, I2.bs, Nat.le_trans o.bsz I2.sz, fun b ob e hb => ?_, fun b hb hs => ?_, I2.stack, I2.stkFree⟩,
    rfl, I2.bare, Un.kept k1, ⟨m, hm, fun i y v e1 e2 e3 => ?_⟩, fun y c e => ?_, fresh C hC, fun y c e => I2.freeC y c (hcl1 y c e), fun p hp => ?_, I2.hok.kept k1, ?_⟩
  · have hy' : (relabel scope X.env).names.lookup y = some .cell ∨ (relabel scope X.env).names.lookup y = some .free := hy
    have hmem : (y, NameKind.free) ∈ scope.names := by
      rcases hy' with z | z
      · exact relabel_from ok.nocell z (.inl rfl)
      · exact relabel_from ok.nocell z (.inr rfl)
    obtain ⟨c, e⟩ := o.has y (ok.free _ hmem rfl)
    exact ⟨c, by rw [show (blkCx X scope cl C (x :: xb :: fv) s2 H2 fp).env.cells = cl from rfl, hcl2 y hmem]; exact e⟩
  · obtain ⟨ob, e⟩ := fo b hb
    exact ⟨Nat.ne_of_lt (Nat.lt_of_lt_of_le (Heap.lt_size e) hC), fun y c z => (f2 b hb).2.2.2.2.1 y c (hcl1 y c z)⟩
  · rcases (f2 b hb).2.2.2.1 with z | z
    · exact o.noex b ob e z
    · exact absurd (Nat.lt_of_lt_of_le (Heap.lt_size e) (Nat.le_trans o.bsz z)) (Nat.lt_irrefl _)
  · exact (List.mem_cons.mp (I2.stkSub b hs)).elim (f2 b hb).2.1 (f2 b hb).2.2.1
  · rcases i with _ | _ | i
    · cases e2
    · cases e2
    · have e1' : fv[i]? = some y := by simpa [blkCx] using e1
      have e2' : (fvals ixs σ)[i]? = some (some v) := by simpa using e2
      have hi : i < ixs.length := by rw [← lenf]; exact (List.getElem?_eq_some_iff.mp e1').1
      have hk : X.N[ixs[i]]? = some y := by
        have := congrArg (fun l => l[i]?) hix
        simp only [List.getElem?_map] at this
        rw [e1', List.getElem?_eq_getElem hi] at this
        simpa using this
      have hv : σ[ixs[i]]? = some (some v) := by
        unfold fvals at e2'
        rw [List.getElem?_map, List.getElem?_eq_getElem hi] at e2'
        simp only [Option.map_some, Option.some.injEq] at e2'
        cases q : σ[ixs[i]]? with
        | none => rw [q] at e2'; cases e2'
        | some z => rw [q] at e2'; cases z with
          | none => cases e2'
          | some z' => cases e2'; rfl
      obtain ⟨hmem, hfr⟩ := ok.fv y (List.mem_of_getElem? e1')
      have hXk := ok.free _ hmem rfl
      obtain ⟨m0, hn0, hl0⟩ := I2.loc
      obtain ⟨u, r, l⟩ := hl0 _ y v hk hv (by rcases hXk with z | z; exact .inr (.inl z); exact .inr (.inr z))
      refine ⟨u, r, ?_⟩
      rcases l with ⟨k, _⟩ | ⟨_, c, e, ⟨oc, hoc, hocd⟩⟩
      · have k' : X.env.scope.names.lookup y = some .local := k
        rcases hXk with z | z <;> (rw [show X.env.scope.names.lookup y = _ from z] at k'; cases k')
      · exact .inr ⟨relabel_free hfr, c, by rw [show (blkCx X scope cl C (x :: xb :: fv) s2 H2 fp).env.cells = cl from rfl, hcl2 y hmem]; exact e, ⟨oc, k1 _ _ hoc, hocd⟩⟩
  · obtain ⟨v, oc, hoc, hocd⟩ := I2.cell y c (hcl1 y c e)
    exact ⟨v, oc, k1 _ _ hoc, hocd⟩
  · have e : p = (D, dobj) := by
      have hp' : p ∈ ([] : List (Addr × Obj)) ++ [(D, dobj)] := hp
      simpa using hp'
    subst e
    refine ⟨hd, fresh D hD, hDC, fun z => ?_, hdd⟩
    obtain ⟨_, ob, ho, _⟩ := I2.stack.mem z
    exact absurd (Nat.lt_of_lt_of_le (Heap.lt_size ho) hD) (Nat.lt_irrefl _)
  · show (none :: none :: fvals ixs σ).length = (x :: xb :: fv).length
    unfold fvals
    simp [lenf]

theorem blk_run2 {E : Value → Shared → Prop} {H2 : Hp} {s2 : Shared} {it : Addr} {fp : List Addr} {tn : Nat → Heap → Prop} {J : It} {Q : List V → Hp → Prop} {RR : Value → Addr → Result → Shared → Prop}
    (ok : CompOk scope x fv X.env.scope) (hvb : scope.names.lookup xb = some .local) (hnd : (x :: xb :: fv).Nodup) (hix : ixs.map (fun k => X.N[k]?) = fv.map some) (hc : X.calm = true)
    (hcl1 : ∀ y c, cl.lookup y = some c → X.env.cells.lookup y = some c) (hcl2 : ∀ y, (y, NameKind.free) ∈ scope.names → cl.lookup y = X.env.cells.lookup y)
    (hif : ∀ C s H fp, PIf (blkCx X scope cl C (x :: xb :: fv) s H fp) ifs tif) (he : ∀ C s H fp, PE (blkCx X scope cl C (x :: xb :: fv) s H fp) elt te)
    (I2 : Inv X pins σ H2 s2) (T : Turn X.prog X.w X.K (.Tuple [.Name x px, .Name xb pb] kt tp) J fp it tn) (st2 : tn 0 s2.heap) (f2 : ∀ b ∈ fp, FpOk X pins H2 b) (cw : CompW2 X.K J (fvals ixs σ) tif te Q H2)
    (hRR : ∀ (D C : Addr) (s' : Shared) (m : Str → Option Value) (acc : List V) (H' : Hp), s'.heap.Ns C m → Inv X pins σ (upd H' D (.lst acc)) s' → Loose X pins (upd H' D (.lst acc)) C → X.s₀.heap.objs.size ≤ C → C ≠ D → H' D = none → Q acc H' → RR (.ref D) C (.ok .next) s') :
    wpAny (model X.prog X.w) X.A (newList []) (fun acc s3 => wpAny (model X.prog X.w) X.A (newFunctionEnv scope X.env.globals cl [] X.env.qual none .none (some X.env)) (fun cenv s4 =>
      codeAny (model X.prog X.w) X.A (.compStart (.ListComp elt [⟨.Tuple [.Name x px, .Name xb pb] kt tp, iter, ifs, 0⟩] scope pos) 0 (.ref it) acc { cenv with scope := relabel scope X.env }) (RR acc cenv.locals) s4) E s3) E s2 := by
  obtain ⟨W, ⟨m0, w0⟩, turn⟩ := cw
  refine wpAny_newObj_type (wpAny_newFunctionEnv ok.nocell (by intro y hy; simp at hy) (fun h1 hns1 hsb1 => ?_) ok.kind)
  dsimp only at hns1 hsb1 ⊢
  generalize hH2 : s2.heap.push { cls := .type "list", dict := none, data := .seq ([] : List Value).toArray } = G at hns1 hsb1 ⊢
  have hC : G.objs.size = s2.heap.objs.size + 1 := by rw [← hH2, Heap.size_push]
  have hDC : s2.heap.objs.size ≠ G.objs.size := by rw [hC]; exact Nat.ne_of_lt (Nat.lt_succ_self _)
  have hCle : s2.heap.objs.size ≤ G.objs.size := by rw [hC]; exact Nat.le_succ _
  have old : ∀ b o, s2.heap.get? b = some o → h1.get? b = some o := fun b o e =>
    hsb1.extBut b o (by rw [hC]; exact Nat.ne_of_lt (Nat.lt_succ_of_lt (Heap.lt_size e))) (Heap.get?_push_of_some _ (hH2 ▸ Heap.get?_push_of_some _ e))
  have hacc : h1.get? s2.heap.objs.size = some { cls := .type "list", dict := none, data := .seq ([] : List Value).toArray } := hsb1.extBut _ _ hDC (Heap.get?_push_of_some _ (hH2 ▸ Heap.get?_push_size _ rfl))
  have st1 : tn 0 h1 := T.keep _ _ _ st2 fun b _ o e => old b o e
  have fo : ∀ b ∈ fp, ∃ o, s2.heap.get? b = some o := fun b hb => let ⟨o, e, _⟩ := T.obj _ _ st2 b hb; ⟨o, e⟩
  generalize hCg : G.objs.size = C at *
  generalize hDg : s2.heap.objs.size = D at *
  have hDle : s2.heap.objs.size ≤ D := by rw [hDg]; exact Nat.le_refl _
  have hCle' : s2.heap.objs.size ≤ C := by rw [hDg]; exact hCle
  -- what stays true of the iterator's objects
  have fpB : ∀ {H' : Hp} {o : Obj}, (∀ b ∈ fp, H' b = none) → ∀ b ∈ fp, FpOk (blkCx X scope cl C (x :: xb :: fv) s2 H2 fp) [(D, o)] H' b := fun {H' o} hn b hb => by
    obtain ⟨ob, e⟩ := fo b hb
    refine ⟨hn b hb, Nat.ne_of_lt (Nat.lt_of_lt_of_le (Heap.lt_size e) hCle'), fun z => (List.mem_cons.mp (I2.stkSub b z)).elim (f2 b hb).2.1 (f2 b hb).2.2.1, .inl hb, fun y c z => (f2 b hb).2.2.2.2.1 y c (hcl1 y c z), fun p hp => ?_⟩
    have ep : p = (D, o) := by
      have hp' : p ∈ ([] : List (Addr × Obj)) ++ [(D, o)] := hp
      simpa using hp'
    subst ep
    exact Nat.ne_of_gt (Nat.lt_of_lt_of_le (Heap.lt_size e) hDle)
  have loop : ∀ s3 : Shared, s3 = { s2 with heap := h1, toks := s2.toks + ([] : List (Str × Value)).length } →
      codeAny (model X.prog X.w) X.A (.compLoop (.ListComp elt [⟨.Tuple [.Name x px, .Name xb pb] kt tp, iter, ifs, 0⟩] scope pos) 0 (.ref it) (.ref D) (compEnvC scope cl C X.env)) (RR (.ref D) C) s3 := by
    rintro s3 rfl
    refine compLoopX (fun n s => ∃ i acc its cnt v0 v1 H, Inv (blkCx X scope cl C (x :: xb :: fv) s2 H2 fp) [(D, { cls := .type "list", data := .seq (List.toArray its) cnt })] (v0 :: v1 :: fvals ixs σ) H s ∧ Vals acc its ∧ tn i s.heap ∧ (∀ b ∈ fp, H b = none) ∧ W i n acc H) ?_ m0
      ⟨0, [], [], 0, none, none, H2, blk_start2 ok hvb hix hcl1 hcl2 I2 f2 fo hDle hCle' hDC old hacc (fun v z => nomatch z) hns1, .nil, st1, fun b hb => (f2 b hb).1, w0⟩
    rintro n s3 ⟨i, acc, its, cnt, v0, v1, H3, I3, rv, st3, fr3, w3⟩
    rcases turn i n acc H3 w3 with ⟨stop, hz, qn⟩ | ⟨go, hz, step⟩
    · refine thn (T.done (blkCx X scope cl C (x :: xb :: fv) s2 H2 fp) rfl rfl rfl hc i _ s3 _ H3 _ I3 (fpB fr3) st3 stop) fun r s4 ⟨hr, I4⟩ => ?_
      subst hr
      obtain ⟨pe, pn, pL, pF, _⟩ := I4.pin (D, { cls := .type "list", data := .seq (List.toArray its) cnt }) (List.mem_append_right _ (List.mem_singleton.mpr rfl))
      have I5 : Inv X pins σ H3 s4 := I2.call' (ch := fp) I4.os I4.base I4.hok I4.bare fun b hb => ⟨(f2 b hb).2.2.2.1, (f2 b hb).2.1, (f2 b hb).2.2.2.2.1, (f2 b hb).2.2.2.2.2⟩
      have lD : Loose X pins H3 D := loose_ge I2 hDle pn
      have I6 := track (o := .lst acc) I5 lD ⟨hz, its, cnt, rv, pe⟩
      obtain ⟨m4, hn4, _⟩ := I4.loc
      exact hRR D C s4 m4 acc H3 hn4 I6 (loose_ge I2 hCle' (by rw [upd_ne (Ne.symm hDC)]; exact I4.free)) (Nat.le_trans I2.sz hCle') (Ne.symm hDC) pn qn
    · refine thn (T.item (blkCx X scope cl C (x :: xb :: fv) s2 H2 fp) rfl rfl rfl hc i _ s3 _ H3 _ I3 (fpB fr3) st3 go) fun r s4 ⟨u, hr, h4⟩ => ?_
      subst hr
      refine thn h4 fun _ s5 ⟨y, H5, I5, r5, y5, st5, fr5⟩ => ?_
      have I5' := I5.pinned (fpB fr5) (T.obj _ _ st5)
      obtain ⟨ta, y1, y2, ey, hq2, step2⟩ := step y H5 y5
      have pg : PG (blkCx X scope cl C (x :: xb :: fv) s2 H2 fp) (.Tuple [.Name x px, .Name xb pb] kt tp) (gTup X.K 2 (gCons (gName 0) (gCons (gName 1) gNil))) := pg_tupK rfl hc (pgs_cons (pg_name (i := 0) hnd rfl (.inl (lookup_relabel_local ok.var)) (.inr (lookup_relabel_local ok.var))) (pgs_cons (pg_name (i := 1) hnd rfl (.inl (lookup_relabel_local hvb)) (.inr (lookup_relabel_local hvb))) pgs_nil))
      refine wpAny_mono (pg _ s5 _ H5 y u (fun σ6 H6 => σ6 = (some y1 :: some y2 :: fvals ixs σ) ∧ H6 = H5) I5' r5 ⟨ta, [y1, y2], ey, hq2, rfl, y1, [y2], rfl, y2, [], rfl, rfl, rfl, rfl⟩) (fun _ s6 h6 => ?_) (fun _ _ z => z)
      obtain ⟨σ6, H6, I6, rfl, rfl⟩ := h6
      have again : ∀ {σ7 : L2.St} {H7 : Hp} {s7 : Shared}, Inv (blkCx X scope cl C (x :: xb :: fv) s2 H2 fp) ([(D, { cls := .type "list", data := .seq (List.toArray its) cnt })] ++ pinsAt fp s5.heap) σ7 H7 s7 → tn (i + 1) s7.heap ∧ ∀ b ∈ fp, H7 b = none := fun {σ7 H7 s7} I7 => by
        refine ⟨T.keep _ _ _ st5 fun b hb o e => (I7.pin (b, o) (List.mem_append_right _ (List.mem_append_right _ (mem_pinsAt hb e)))).1, fun b hb => ?_⟩
        obtain ⟨o, e, d⟩ := T.obj _ _ st5 b hb
        exact (I7.pin (b, o) (List.mem_append_right _ (List.mem_append_right _ (mem_pinsAt hb e)))).2.1
      refine thn (hif _ _ _ _ _ s6 _ _ _ I6 step2) fun okb s7 ⟨H7, I7, q7⟩ => ?_
      cases okb with
      | false =>
        rw [if_neg Bool.false_ne_true] at q7 ⊢
        obtain ⟨m', hm, w7⟩ := q7
        obtain ⟨st7, fr7⟩ := again I7
        exact ⟨m', hm, i + 1, acc, its, cnt, some y1, some y2, H7, I7.unpinned, rv, st7, fr7, w7⟩
      | true =>
        rw [if_pos rfl] at q7 ⊢
        refine thn (he _ _ _ _ _ s7 _ H7 _ I7 q7) fun yv s8 ⟨v, H8, I8, r8, m', hm, w8⟩ => ?_
        obtain ⟨st8, fr8⟩ := again I8
        have I9 := I8.unpinned
        obtain ⟨pe, pn, pL, pF, _⟩ := I9.pin (D, { cls := .type "list", data := .seq (List.toArray its) cnt }) (List.mem_append_right _ (List.mem_singleton.mpr rfl))
        have lens : its.length = acc.length := rv.length.symm
        refine wpAny_list_append_plain ⟨cnt, pe⟩ (fun h9 hl9 hs9 => ?_) (by simp only [List.size_toArray]; omega)
        obtain ⟨cnt', pe'⟩ := hl9
        have I10 : Inv (blkCx X scope cl C (x :: xb :: fv) s2 H2 fp) [] (some y1 :: some y2 :: fvals ixs σ) H8 s8 := I9.pins_of fun p hp => nomatch hp
        have I11 : Inv (blkCx X scope cl C (x :: xb :: fv) s2 H2 fp) [] (some y1 :: some y2 :: fvals ixs σ) H8 { s8 with heap := h9 } := I10.turned (t' := s8.toks) (it := D) (fun b o hb e => (hs9.2 b hb).trans e) pn pL (.inr hDle)
          (fun z c e q => by
            obtain ⟨v', oc, hoc, _⟩ := I2.cell z c (hcl1 z c e)
            exact absurd (Nat.lt_of_lt_of_le (Heap.lt_size hoc) (by rw [q]; exact hDle)) (Nat.lt_irrefl _)) (fun p hp => nomatch hp)
        refine ⟨m', hm, i + 1, acc ++ [v], its ++ [yv], cnt', some y1, some y2, H8, I11.pins_of fun p hp => ?_, rv.append (.cons r8 .nil), T.keep _ _ _ st8 fun b hb o e => (hs9.2 b ?_).trans e, fr8, w8⟩
        · have ep : p = (D, { cls := .type "list", data := .seq (List.toArray (its ++ [yv])) cnt' }) := by simpa using hp
          subst ep
          exact ⟨by simpa using pe', pn, pL, pF, fun v z => nomatch z⟩
        · obtain ⟨ob, e'⟩ := fo b hb
          exact Nat.ne_of_lt (Nat.lt_of_lt_of_le (Heap.lt_size e') hDle)
  exact codeAny_compStart_list (loop _ rfl) (T.self _ 0 _ _ _ st1 (loop _ rfl))

theorem pe_comp2 {wi : TI} (hck : compOk scope x fv X.env.scope = true) (hvb : scope.names.lookup xb = some .local) (hnd : (x :: xb :: fv).Nodup) (hix : ixs.map (fun k => X.N[k]?) = fv.map some) (hc : X.calm = true) (hi : PI X (.Tuple [.Name x px, .Name xb pb] kt tp) iter wi)
    (hif : ∀ cl C s H fp, PIf (blkCx X scope cl C (x :: xb :: fv) s H fp) ifs tif) (he : ∀ cl C s H fp, PE (blkCx X scope cl C (x :: xb :: fv) s H fp) elt te) (hs : ∀ x, foldedSetIterable iter X.env x = pure x := by intro _; rfl) :
    PE X (.ListComp elt [⟨.Tuple [.Name x px, .Name xb pb] kt tp, iter, ifs, 0⟩] scope pos) (tComp2 X.K wi ixs tif te) := by
  intro pins s σ H Q I h
  have ok := compOk_of hck
  obtain ⟨cl, hclos, hcl1, hcl2⟩ := closure_of (scope := scope) (env := X.env) fun y hy e => I.ok.has y.1 (ok.free y hy e)
  rw [eval_ListComp]
  refine wpAny_comprehension_free (use := none) rfl hs hclos ok.kind ok.loc (thn (hi pins s σ H _ I h) fun v s1 h1 => thn h1 fun itv s2 h2 => ?_)
  obtain ⟨it, fp, tn, J, H2, e, I2, T, st2, f2, cw⟩ := h2
  subst e
  refine blk_run2 (Q := fun acc H2 => ∀ D, H2 D = none → Q (.ref D) (upd H2 D (.lst acc))) (RR := fun acc C => compPost (model X.prog X.w) X.A X.xe none (EP X pins σ Q) acc C) ok hvb hnd hix hc hcl1 hcl2 (hif cl) (he cl) I2 T st2 f2 cw ?_
  intro D C s' m acc H' hn I' lC hC hCD hD hQ
  exact ⟨m, hn, fun h' hs' => ⟨.ref D, _, loose_turn (t' := s'.toks) I' lC hC fun b o hb e => (hs'.2 b hb).trans e, rfl, hQ D hD⟩⟩
end

end LX

set_option Elab.async false
set_option linter.all false
set_option maxRecDepth 100000
namespace LX
open PySem PySem.Spec PyProof.Rows L2
def Itv (K : PySem.W.Frag) (a : Addr) (n : Nat) : It :=
  ⟨fun i H => ∃ xs x, SqL K H a xs ∧ xs.length = n ∧ i < n ∧ xs[n - 1 - i]? = some x, fun i H x H' => H' = H ∧ ∀ xs, SqL K H a xs → xs[n - 1 - i]? = some x, fun i H => n ≤ i⟩
theorem turn_rev {P : Program} {w : World} {K : PySem.W.Frag} {tg : Expr} (a it : Addr) (n : Nat) : Turn P w K tg (Itv K a n) [it] it (fun i h => i ≤ n ∧ h.IsRevIter it a ((n : Int) - 1 - (i : Int))) where
  mem := by simp
  obj := fun i h st b hb => by
    have e : b = it := by simpa using hb
    subst e
    obtain ⟨_, o, e, c, d⟩ := st
    exact ⟨o, e, fun v z => by rw [d] at z; cases z⟩
  keep := fun i h h' st k => ⟨st.1, st.2.at fun o e => k it (by simp) o e⟩
  item := by
    intro X hP hw hK hc i pins s σ H E I hf st hg
    subst hP hw hK
    obtain ⟨xs, x, hq, hl, hi, hx⟩ := hg
    obtain ⟨_, st⟩ := st
    obtain ⟨its, rv, p, hz⟩ := I.list hq
    obtain ⟨u, hu, ru⟩ := rv.get hx
    obtain ⟨f0, f1, f2, f3, f4, f5⟩ := hf it (by simp)
    have ei : (n : Int) - 1 - (i : Int) = ((n - 1 - i : Nat) : Int) := by omega
    rw [ei] at st
    refine wpAny_pyNext_rev_item st p.isList (x := u) (by simpa using hu) fun h' st' sb => ?_
    have I1 : Inv X pins σ H { s with heap := h' } := I.turned (t' := s.toks) (fun b o hb e => (sb.2 b hb).trans e) f0 f1 f3 f4 f5
    obtain ⟨o, e, c, d⟩ := id st'
    refine ⟨u, rfl, go_of (s := { s with heap := h' }) e c d (by decide) ⟨x, H, I1, ru, ⟨rfl, fun ys hy => by rw [I.list_inj hy hq]; exact hx⟩, ⟨by omega, ?_⟩, fun b hb => (hf b hb).1⟩⟩
    rw [show (n : Int) - 1 - ((i + 1 : Nat) : Int) = ((n - 1 - i : Nat) : Int) - 1 by omega]
    exact st'
  done := by
    intro X hP hw hK hc i pins s σ H E I hf st hg
    subst hP hw hK
    obtain ⟨f0, f1, f2, f3, f4, f5⟩ := hf it (by simp)
    have hg : n ≤ i := hg
    have st2 := st.2
    rw [show (n : Int) - 1 - (i : Int) = -1 by have := st.1; omega] at st2
    exact wpAny_pyNext_rev_end (I.ok.hd hc) st2 fun h' eb => ⟨rfl, I.turned (t' := s.toks) (fun b o hb e => eb b o hb e) f0 f1 f3 f4 f5⟩
  self := fun _ _ _ _ _ st h => wpAny_pyIter_revIter st.2 h
section
variable {X : Cx} {tg : Expr}
def iRev (K : PySem.W.Frag) (ta : TA) : TI := fun σ H R => ta σ H fun vs H1 => ∃ a xs, vs = [.ref a] ∧ SqL K H1 a xs ∧ R (Itv K a xs.length) H1
theorem pi_rev {a : Expr} {ta : TA} {p pos : Pos} {K : PySem.W.Frag} (hK : X.K = K) (hg : Gl X "reversed") (hm : X.mg "reversed" = none) (ha : PA X [a] ta) (hs : starEach [a] X.env = [(false, eval a X.env)] := by rfl) :
    PI X tg (.Call (.Name "reversed" p) [a] [] pos) (iRev K ta) := by
  subst hK
  intro pins s σ H R I h
  refine Call_ (ld_blt I hg hm PyProof.Rows.boot_reversed (PyProof.Rows.callWith_type1 (thn (ha pos pins s σ H _ I h) fun us s1 ⟨vs, H1, I1, r1, q1⟩ => ?_) (by rw [hs]; rfl) (by rfl)))
  obtain ⟨l, xs, e, hq, q⟩ := q1
  subst e
  cases r1 with
  | cons r rr =>
    cases rr
    cases r
    obtain ⟨its, rv, p, hz⟩ := I1.list hq
    refine call_reversed_list p.isList ?_
    have hr : (s1.heap.push (revObj l ((its.toArray.size : Int) - 1))).IsRevIter s1.heap.objs.size l ((its.toArray.size : Int) - 1) := ⟨_, Heap.get?_push_size _ rfl, rfl, rfl⟩
    refine wpAny_pyIter_revIter hr ?_
    have I2 : Inv X pins σ H1 { s1 with heap := s1.heap.push (revObj l ((its.toArray.size : Int) - 1)) } := I1.kept (t' := s1.toks) fun b o e => Heap.get?_push_of_some _ e
    refine ⟨s1.heap.objs.size, [s1.heap.objs.size], _, _, H1, rfl, I2, turn_rev l _ xs.length, ⟨Nat.zero_le _, ?_⟩, fun b hb => ?_, q⟩
    · have e1 : ((xs.length : Nat) : Int) - 1 - ((0 : Nat) : Int) = (its.toArray.size : Int) - 1 := by have := rv.length; simp; omega
      rw [e1]; exact hr
    · have e : b = s1.heap.objs.size := by simpa using hb
      subst e
      exact I1.fpOk (Nat.le_refl _) (I1.hok.fresh (Nat.le_refl _))
end
def strIU : List V → Hp → VK → Prop := fun xs H Q => match xs with
  | [.int i] => i.natAbs < 1000000 ∧ Q (.str (toString i)) H
  | _ => False
theorem cu_strI {X : Cx} : CallR X (.type "str") strIU := by
  intro pins s σ H xs us Q I r h
  unfold strIU at h
  split at h
  · rename_i i
    obtain ⟨hi, q⟩ := h
    obtain ⟨u, rfl, rx⟩ := vals1 r
    obtain ⟨t, rfl⟩ := rx
    refine PySem.P.str_of_int ?_ ⟨.str (toString i), H, I.tok _, ⟨_, rfl⟩, q⟩
    have h2 : i.natAbs.log2 ≤ 20 := by
      by_cases z : i.natAbs = 0
      · rw [z]; decide
      · have := (Nat.log2_lt z (k := 21)).mpr (Nat.lt_trans hi (by decide)); omega
    omega
  · exact h.elim
end LX

set_option Elab.async false
set_option linter.all false
set_option maxRecDepth 100000
namespace LX
open PySem PySem.Spec PyProof.Rows L2
section
variable {X : Cx} {a b : Expr} {ta tb : TE} {p1 p2 p3 pos : Pos} {c : Str} {k : Nat}
def tF3 (c : Str) (ta tb : TE) : TE := fun σ H Q => ta σ H fun v H1 => ∃ x : Str, v = .str x ∧ x.length ≤ 1000 ∧ tb σ H1 fun v2 H2 => ∃ i : Int, v2 = .int i ∧ (0 ≤ i ∧ i < 100) ∧ Q (.str (Str.empty ++ x ++ c ++ (toString i : String))) H2
theorem int_len {i : Int} (h : 0 ≤ i ∧ i < 100) : (Str.ofString (toString i)).length ≤ 2 := by
  have k : ∀ n : Fin 100, (Str.ofString (toString ((n.1 : Nat) : Int))).length ≤ 2 := by decide +kernel
  have := k ⟨i.toNat, by omega⟩
  rwa [show (((⟨i.toNat, by omega⟩ : Fin 100).1 : Nat) : Int) = i by show ((i.toNat : Nat) : Int) = i; omega] at this
theorem log_small {i : Int} (hi : i.natAbs < 1000000) : i.natAbs.log2 < 1920 := by
  have h2 : i.natAbs.log2 ≤ 20 := by
    by_cases z : i.natAbs = 0
    · rw [z]; decide
    · have := (Nat.log2_lt z (k := 21)).mpr (Nat.lt_trans hi (by decide)); omega
  omega
theorem pe_f3 (ha : PE X a ta) (hb : PE X b tb) (hc : c.length ≤ 1000)
    (he : evalEach [.FormattedValue a (-1) none p1, .Constant (.str c) k p2, .FormattedValue b (-1) none p3] X.env = [eval (.FormattedValue a (-1) none p1) X.env, eval (.Constant (.str c) k p2) X.env, eval (.FormattedValue b (-1) none p3) X.env] := by rfl) :
    PE X (.JoinedStr [.FormattedValue a (-1) none p1, .Constant (.str c) k p2, .FormattedValue b (-1) none p3] pos) (tF3 c ta tb) := by
  intro pins s σ H Q I h
  refine wpAny_JoinedStr ?_
  rw [he]
  refine wpAny_FormattedValue_plain (thn (ha pins s σ H _ I h) fun u s1 ⟨v, H1, I1, r1, x, ev, hx, q1⟩ => ?_)
  subst ev
  obtain ⟨t, rfl⟩ := r1
  have z : ∀ s2 : Shared, Inv X pins σ H1 s2 → Joins (model X.prog X.w) X.A X.xe [eval (.Constant (.str c) k p2) X.env, eval (.FormattedValue b (-1) none p3) X.env] (Str.empty ++ x) (fun out s₁ => out.length ≤ sizeLine ∧ EP X pins σ Q (.str out s₁.toks) { s₁ with toks := s₁.toks + 1 }) s2 := fun s2 I2 => by
    refine thn (pe_str (X := X) (x := c) (j := k) (pos := p2) pins s2 σ H1 (fun v H => v = .str c ∧ H = H1) I2 ⟨rfl, rfl⟩) fun u2 s3 ⟨v3, H3, I3, r3, e3, e4⟩ => ?_
    subst e3 e4
    obtain ⟨t3, rfl⟩ := r3
    refine ⟨c, t3, rfl, ?_, ?_⟩
    · have e0 : Str.empty.length = 0 := rfl
      rw [strLen_append, strLen_append, e0]; exact Nat.le_trans (by omega : _ ≤ 2000) (by decide)
    · refine wpAny_FormattedValue_plain (thn (hb pins s3 σ _ _ I3 q1) fun u4 s4 ⟨v4, H4, I4, r4, i, e4, hi, q4⟩ => ?_)
      subst e4
      obtain ⟨t4, rfl⟩ := r4
      refine wpAny_formatField_int (log_small (by omega)) ⟨_, _, rfl, ?_, ?_, ?_⟩
      · have e0 : Str.empty.length = 0 := rfl
        have := int_len hi
        rw [strLen_append, strLen_append, strLen_append, e0]; exact Nat.le_trans (by omega : _ ≤ 2002) (by decide)
      · have e0 : Str.empty.length = 0 := rfl
        have := int_len hi
        rw [strLen_append, strLen_append, strLen_append, e0]; exact Nat.le_trans (by omega : _ ≤ 2002) (by decide)
      · exact ⟨.str _, H4, I4.tok _, ⟨_, rfl⟩, q4⟩
  refine wpAny_formatField_str ⟨x, t, rfl, ?_, z _ I1⟩ ⟨x, _, rfl, ?_, z _ (I1.tok _)⟩ (Nat.le_trans hx (by decide))
  · have e0 : Str.empty.length = 0 := rfl
    rw [strLen_append, e0]; exact Nat.le_trans (by omega : _ ≤ 1000) (by decide)
  · have e0 : Str.empty.length = 0 := rfl
    rw [strLen_append, e0]; exact Nat.le_trans (by omega : _ ≤ 1000) (by decide)
end
end LX

set_option Elab.async false
set_option linter.all false
set_option maxRecDepth 100000
namespace LX
open PySem PySem.Spec PyProof.Rows L2
abbrev IsZipO (h : Heap) (z TI TO : Addr) (T : Addr) (b : Bool) : Prop :=
  h.get? z = some { cls := .type "zip", dict := none, data := .fields #[rawInt T, .bool b, .bool false, .ref TI, .ref TO], slots := #[] }
section
variable {prog : Program} {w : World} {A : Around} {E : Value → Shared → Prop} {s : Shared}
theorem zip_free2 {z TI TO T : Addr} {b : Bool} {Q : Bool → Shared → Prop} (hz : IsZipO s.heap z TI TO T b) (hT : ∃ o, s.heap.get? T = some o) 
    (hQ : ∀ h', IsZipO h' z TI TO T true → Heap.SameBut z s.heap h' → Q false { s with heap := h' }) : wpAny (model prog w) A (Builtin.SmallTypes.ownedTupleIsFree (.ref z)) Q E s := by
  unfold Builtin.SmallTypes.ownedTupleIsFree
  refine wpAny_bind (wpAny_field hz rfl (x := rawInt T) rfl ?_)
  obtain ⟨o, ho⟩ := hT
  have ld : ∀ {Q : Option Obj → Shared → Prop}, Q (some o) s → wpAny (model prog w) A (loadIfAlive (T : Int).toNat) Q E s := fun {Q} q => by
    rw [Int.toNat_natCast]
    intro Γ p _
    unfold loadIfAlive
    rw [Sem.wp_loadIfAlive, ho]
    simpa using q
  refine wpAny_bind (ld ?_)
  show wpAny _ _ (field (.ref z) 1 >>= _) _ _ _
  refine wpAny_bind (wpAny_field hz rfl (x := .bool b) rfl ?_)
  cases b with
  | true =>
    refine wpAny_pure ?_
    have := hQ s.heap hz (Heap.SameBut.refl _ _)
    exact this
  | false =>
    refine wpAny_bind (wpAny_setField_rec hz (by simp) fun h' hz' hs' => wpAny_pure (hQ h' hz' hs'))
theorem zip_next_item2 {z TI TO T i1 i2 l1 l2 : Addr} {b : Bool} {k1 k2 : Nat} {xs ys : Array Value} {x y : Value} {Q : Value → Shared → Prop} (D : ZipApart z TI TO i1 i2 l1 l2)
    (hz : IsZipO s.heap z TI TO T b) (hT : ∃ o, s.heap.get? T = some o) (hTI : IsPair s.heap TI (.ref i1) (.ref i2))
    (h1 : s.heap.IsListIter i1 l1 k1) (h2 : s.heap.IsListIter i2 l2 k2) (hl1 : s.heap.IsList l1 xs) (hl2 : s.heap.IsList l2 ys) (hx : xs[k1]? = some x) (hy : ys[k2]? = some y)
    (hQ : ∀ h', IsZipO h' z TI TO T true → h'.IsListIter i1 l1 (k1 + 1) → h'.IsListIter i2 l2 (k2 + 1) → IsPair h' s.heap.objs.size x y → h'.objs.size = s.heap.objs.size + 1 →
      (∀ c o, c ≠ z → c ≠ i1 → c ≠ i2 → s.heap.get? c = some o → h'.get? c = some o) → Q (.ref s.heap.objs.size) { s with heap := h' }) :
    wpAny (model prog w) A (Builtin.«zip.__next__» ⟨[.ref z], []⟩) (fun fin s' => ∃ v, fin = .done (.ret v) ∧ Q v s') E s := by
  show wpAny _ _ (field (.ref z) 2 >>= _) _ _ _
  refine wpAny_bind (wpAny_field hz rfl (x := .bool false) rfl ?_)
  show wpAny _ _ (field (.ref z) 3 >>= _) _ _ _
  refine wpAny_bind (wpAny_field hz rfl (x := .ref TI) rfl ?_)
  refine wpAny_bind (wpAny_seqItems hTI rfl ?_)
  show wpAny _ _ (Builtin.SmallTypes.ownedTupleIsFree (.ref z) >>= _) _ _ _
  refine wpAny_bind (zip_free2 hz hT fun h₁ hz₁ hs₁ => ?_)
  simp only [Bool.false_eq_true, if_false]
  refine wpAny_bind ?_
  simp only [List.forIn_toArray, List.forIn_cons, List.forIn_nil]
  refine wpAny_bind (wpAny_bind (wpAny_holding ?_))
  show wpAny _ _ (Builtin.SmallTypes.nextOf (.ref i1) >>= _) _ _ _
  refine wpAny_bind (wpAny_nextOf_list_item (h1.extBut hs₁.extBut D.i1z) (hl1.extBut hs₁.extBut D.l1z) hx fun h₂ h1₂ hs₂ => wpAny_pure (wpAny_pure ?_))
  refine wpAny_bind (wpAny_bind (wpAny_holding ?_))
  show wpAny _ _ (Builtin.SmallTypes.nextOf (.ref i2) >>= _) _ _ _
  refine wpAny_bind (wpAny_nextOf_list_item ((h2.extBut hs₁.extBut D.i2z).extBut hs₂.extBut D.i12.symm) ((hl2.extBut hs₁.extBut D.l2z).extBut hs₂.extBut D.l2i1) hy fun h₃ h2₃ hs₃ => wpAny_pure (wpAny_pure ?_))
  refine wpAny_pure ?_
  refine wpAny_bind (wpAny_newTuple ?_ (by show 2 ≤ sizeLine; decide))
  have hsz : h₃.objs.size = s.heap.objs.size := by rw [hs₃.1, hs₂.1, hs₁.1]
  have up : ∀ c o, c ≠ z → c ≠ i1 → c ≠ i2 → s.heap.get? c = some o → h₃.get? c = some o := fun c o c1 c2 c3 e => hs₃.extBut _ _ c3 (hs₂.extBut _ _ c2 (hs₁.extBut _ _ c1 e))
  have hz₃ : IsZipO h₃ z TI TO T true := hs₃.extBut _ _ D.i2z.symm (hs₂.extBut _ _ D.i1z.symm hz₁)
  have h1₃ : h₃.IsListIter i1 l1 (k1 + 1) := h1₂.extBut hs₃.extBut D.i12
  refine wpAny_pure ⟨_, rfl, ?_⟩
  show Q (.ref h₃.objs.size) _
  have q := hQ (h₃.push { cls := .type "tuple", data := .seq #[x, y] }) (Heap.get?_push_of_some _ hz₃) (h1₃.at fun o e => Heap.get?_push_of_some _ e) (h2₃.at fun o e => Heap.get?_push_of_some _ e) (by rw [← hsz]; exact Heap.get?_push_size _ rfl) (by rw [Heap.size_push, hsz]) (fun c o c1 c2 c3 e => Heap.get?_push_of_some _ (up c o c1 c2 c3 e))
  rw [hsz]
  exact q
theorem zip_next_end2 {z TI TO T i1 i2 l1 l2 : Addr} {b : Bool} {k1 : Nat} {xs : Array Value} {Q : Fin → Shared → Prop} (hh : A.handled = none) (D : ZipApart z TI TO i1 i2 l1 l2)
    (hz : IsZipO s.heap z TI TO T b) (hT : ∃ o, s.heap.get? T = some o) (hTI : IsPair s.heap TI (.ref i1) (.ref i2))
    (h1 : s.heap.IsListIter i1 l1 k1) (hl1 : s.heap.IsList l1 xs) (hx : xs[k1]? = none)
    (hE : ∀ h' e, (∀ c o, c ≠ z → c ≠ i1 → s.heap.get? c = some o → h'.get? c = some o) → (∃ o, h'.get? e = some o ∧ o.cls = .type "StopIteration") → E (.ref e) { s with heap := h' }) :
    wpAny (model prog w) A (Builtin.«zip.__next__» ⟨[.ref z], []⟩) Q E s := by
  show wpAny _ _ (field (.ref z) 2 >>= _) _ _ _
  refine wpAny_bind (wpAny_field hz rfl (x := .bool false) rfl ?_)
  show wpAny _ _ (field (.ref z) 3 >>= _) _ _ _
  refine wpAny_bind (wpAny_field hz rfl (x := .ref TI) rfl ?_)
  refine wpAny_bind (wpAny_seqItems hTI rfl ?_)
  show wpAny _ _ (Builtin.SmallTypes.ownedTupleIsFree (.ref z) >>= _) _ _ _
  refine wpAny_bind (zip_free2 hz hT fun h₁ hz₁ hs₁ => ?_)
  simp only [Bool.false_eq_true, if_false]
  refine wpAny_bind ?_
  simp only [List.forIn_toArray, List.forIn_cons, List.forIn_nil]
  refine wpAny_bind (wpAny_bind (wpAny_holding ?_))
  show wpAny _ _ (Builtin.SmallTypes.nextOf (.ref i1) >>= _) _ _ _
  exact wpAny_bind (wpAny_nextOf_list_end hh (h1.extBut hs₁.extBut D.i1z) (hl1.extBut hs₁.extBut D.l1z) hx fun h₂ e hs₂ he => hE h₂ e (fun c o c1 c2 q => hs₂ _ _ c2 (hs₁.extBut _ _ c1 q)) he)
structure ZipAt (h : Heap) (z TI TO i1 i2 l1 l2 : Addr) (xs ys : Array Value) (i : Nat) : Prop where
  zp : (IsZip h z TI TO .none ∧ ∃ a b, IsPair h TO a b) ∨ ∃ T b, IsZipO h z TI TO T b ∧ ∃ o, h.get? T = some o ∧ T ≠ z ∧ T ≠ TO ∧ T ≠ i1 ∧ T ≠ i2
  ti : IsPair h TI (.ref i1) (.ref i2)
  a1 : h.IsListIter i1 l1 i
  a2 : h.IsListIter i2 l2 i
  b1 : h.IsList l1 xs
  b2 : h.IsList l2 ys
theorem zip_item {z TI TO i1 i2 l1 l2 : Addr} {i : Nat} {xs ys : Array Value} {x y : Value} {Q : Option Value → Shared → Prop} (D : ZipApart z TI TO i1 i2 l1 l2) (Z : ZipAt s.heap z TI TO i1 i2 l1 l2 xs ys i) (hx : xs[i]? = some x) (hy : ys[i]? = some y)
    (hQ : ∀ h', ZipAt h' z TI TO i1 i2 l1 l2 xs ys (i + 1) → IsPair h' s.heap.objs.size x y → h'.objs.size = s.heap.objs.size + 1 → (∀ c o, c ≠ z → c ≠ TO → c ≠ i1 → c ≠ i2 → s.heap.get? c = some o → h'.get? c = some o) → Q (some (.ref s.heap.objs.size)) { s with heap := h' }) :
    wpAny (model prog w) A (pyNext (.ref z)) Q E s := by
  obtain ⟨zp, ti, a1, a2, b1, b2⟩ := Z
  have l1t : i1 < s.heap.objs.size := by obtain ⟨_, e, _⟩ := a1; exact Heap.lt_size e
  have l2t : i2 < s.heap.objs.size := by obtain ⟨_, e, _⟩ := a2; exact Heap.lt_size e
  rcases zp with ⟨hz, a, b, hTO⟩ | ⟨T, b, hz, o, hT, t1, t2, t3, t4⟩
  · have lz : z < s.heap.objs.size := Heap.lt_size hz
    have lo : TO < s.heap.objs.size := Heap.lt_size hTO
    refine wpAny_pyNext_zip_item D hz ti hTO a1 a2 b1 b2 hx hy fun h' e1 e2 e3 e4 e5 e6 e7 => hQ h' ⟨.inr ⟨_, false, e1, _, e5, Nat.ne_of_gt lz, Nat.ne_of_gt lo, Nat.ne_of_gt l1t, Nat.ne_of_gt l2t⟩, e7 _ _ D.TIz D.TITO D.TIi1 D.TIi2 ti, e3, e4, b1.at fun o q => e7 _ _ D.l1z D.l1TO D.l1i1 D.l1i2 q, b2.at fun o q => e7 _ _ D.l2z D.l2TO D.l2i1 D.l2i2 q⟩ e5 e6 e7
  · have hTy : s.TypeIs (.ref z) "zip" := ⟨_, hz, rfl⟩
    unfold pyNext
    refine wpAny_bind (wpAny_attempt (wpAny_callSpecial?_slot (name := Str.ofString "__next__") hTy F.slot_zip_next
      (wpAny_call_entry F.slot_zip_next hTy F.entry_zip_next (zip_next_item2 D hz ⟨o, hT⟩ ti a1 a2 b1 b2 hx hy fun h' e1 e3 e4 e5 e6 e7 => wpAny_pure ?_) (F.args_zip_next_1 _))))
    exact hQ h' ⟨.inr ⟨T, true, e1, o, e7 _ _ t1 t3 t4 hT, t1, t2, t3, t4⟩, e7 _ _ D.TIz D.TIi1 D.TIi2 ti, e3, e4, b1.at fun o q => e7 _ _ D.l1z D.l1i1 D.l1i2 q, b2.at fun o q => e7 _ _ D.l2z D.l2i1 D.l2i2 q⟩ e5 e6 (fun c o c1 _ c3 c4 q => e7 c o c1 c3 c4 q)
theorem zip_end {z TI TO i1 i2 l1 l2 : Addr} {i : Nat} {xs ys : Array Value} {Q : Option Value → Shared → Prop} (hh : A.handled = none) (D : ZipApart z TI TO i1 i2 l1 l2) (Z : ZipAt s.heap z TI TO i1 i2 l1 l2 xs ys i) (hx : xs[i]? = none)
    (hQ : ∀ h', (∀ c o, c ≠ z → c ≠ TO → c ≠ i1 → c ≠ i2 → s.heap.get? c = some o → h'.get? c = some o) → Q none { s with heap := h' }) :
    wpAny (model prog w) A (pyNext (.ref z)) Q E s := by
  obtain ⟨zp, ti, a1, a2, b1, b2⟩ := Z
  rcases zp with ⟨hz, a, b, hTO⟩ | ⟨T, b, hz, o, hT, t1, t2, t3, t4⟩
  · exact wpAny_pyNext_zip_end hh D hz ti hTO a1 a2 b1 b2 (.inl hx) hQ
  · have hTy : s.TypeIs (.ref z) "zip" := ⟨_, hz, rfl⟩
    unfold pyNext
    refine wpAny_bind (wpAny_attempt (wpAny_callSpecial?_slot (name := Str.ofString "__next__") hTy F.slot_zip_next
      (wpAny_call_entry F.slot_zip_next hTy F.entry_zip_next (zip_next_end2 (by exact hh) D hz ⟨o, hT⟩ ti a1 b1 hx fun h' e hk he => ?_) (F.args_zip_next_1 _))))
    obtain ⟨oe, ho, hc⟩ := he
    refine wpAny_bind (wpAny_isInstance (T := "StopIteration") (b := true) ⟨oe, ho, hc⟩ isSubtype_stop ?_)
    exact wpAny_pure (hQ _ fun c o c1 _ c3 _ q => hk c o c1 c3 q)
end
end LX

set_option Elab.async false
set_option linter.all false
set_option maxRecDepth 100000
namespace LX
open PySem PySem.Spec PyProof.Rows L2
structure PairsAt (h : Heap) (bs : Nat) (Ts : List Addr) (xs ys : Array Value) (i : Nat) : Prop where
  ln : Ts.length = i
  it : ∀ (j : Nat) (T : Addr), Ts[j]? = some T → T = bs + j ∧ ∃ x y, xs[j]? = some x ∧ ys[j]? = some y ∧ IsPair h T x y
section
variable {prog : Program} {w : World} {A : Around} {R : Result → Shared → Prop} {z TI TO i1 i2 l1 l2 : Addr} {xs ys : Array Value}
theorem zip_loop (hh : A.handled = none) (D : ZipApart z TI TO i1 i2 l1 l2) (hxy : xs.size = ys.size) (hn : xs.size ≤ sizeLine) (S : Addr) (bs : Nat) (hS1 : S ≠ z) (hS2 : S ≠ TO) (hS3 : S ≠ i1) (hS4 : S ≠ i2) (hS5 : S ≠ TI) (hS6 : S ≠ l1) (hS7 : S ≠ l2)
    (hb : z < bs ∧ TO < bs ∧ i1 < bs ∧ i2 < bs ∧ S < bs) (res : Value) :
    ∀ (k i : Nat) (s : Shared) (Ts : List Addr) (c : Nat), xs.size - i = k → i ≤ xs.size → s.heap.objs.size = bs + i → ZipAt s.heap z TI TO i1 i2 l1 l2 xs ys i → s.heap.get? S = some { cls := .type "list", dict := none, data := .seq (Ts.map Value.ref).toArray c, slots := #[] } → PairsAt s.heap bs Ts xs ys i →
    (∀ h' tk Ts' c', (∀ b o, b ≠ S → b ≠ z → b ≠ TO → b ≠ i1 → b ≠ i2 → s.heap.get? b = some o → h'.get? b = some o) → h'.get? S = some { cls := .type "list", dict := none, data := .seq (Ts'.map Value.ref).toArray c', slots := #[] } → PairsAt h' bs Ts' xs ys xs.size → R (.ok (.ret res)) { s with heap := h', toks := tk }) →
    codeAny (model prog w) A (.builtin "list.extend.loop" ⟨[.ref S, .ref z, res], []⟩) R s := by
  obtain ⟨hb1, hb2, hb3, hb4, hb5⟩ := hb
  intro k
  induction k with
  | zero =>
    intro i s Ts c hk hi hbs Z hS P hR
    have hin : i = xs.size := by omega
    subst hin
    refine codeAny_builtin F.entry_extend_loop ?_
    rw [Around.under_plainId F.plain_extend_loop _]
    show wpAny _ A.in1 (pyNext (.ref z) >>= _) _ _ s
    refine wpAny_bind (zip_end (by exact hh) D Z (by simp) fun h' hk' => ?_)
    refine wpAny_pure (hR h' s.toks Ts c (fun b o b1 b2 b3 b4 b5 e => hk' b o b2 b3 b4 b5 e) (hk' _ _ hS1 hS2 hS3 hS4 hS) ⟨P.ln, fun j T e => ?_⟩)
    obtain ⟨g0, x, y, e1, e2, e3⟩ := P.it j T e
    have g : bs ≤ T := by rw [g0]; exact Nat.le_add_right _ _
    exact ⟨g0, x, y, e1, e2, hk' _ _ (Nat.ne_of_gt (Nat.lt_of_lt_of_le hb1 g)) (Nat.ne_of_gt (Nat.lt_of_lt_of_le hb2 g)) (Nat.ne_of_gt (Nat.lt_of_lt_of_le hb3 g)) (Nat.ne_of_gt (Nat.lt_of_lt_of_le hb4 g)) e3⟩
  | succ k ih =>
    intro i s Ts c hk hi hbs Z hS P hR
    have hlt : i < xs.size := by omega
    refine codeAny_builtin F.entry_extend_loop ?_
    rw [Around.under_plainId F.plain_extend_loop _]
    show wpAny _ A.in1 (pyNext (.ref z) >>= _) _ _ s
    refine wpAny_bind (zip_item D Z (x := xs[i]) (y := ys[i]'(by omega)) (by simp [hlt]) (by simp [show i < ys.size by omega]) fun h' Z' pr sz' hk' => ?_)
    have hS' := hk' _ _ hS1 hS2 hS3 hS4 hS
    show wpAny _ A.in1 (updateSeq S (·.push (.ref s.heap.objs.size)) >>= _) _ _ _
    refine wpAny_bind ?_
    have oth : ∀ b o, b ≠ S → h'.get? b = some o → (h'.update S (Obj.mapSeq (·.push (Value.ref s.heap.objs.size)))).get? b = some o := fun b o hb e => (Heap.get?_update_other _ _ (Ne.symm hb)).trans e
    obtain ⟨c2, hS2'⟩ : ∃ c2, (h'.update S (Obj.mapSeq (·.push (Value.ref s.heap.objs.size)))).get? S = some { cls := .type "list", dict := none, data := .seq ((Ts ++ [s.heap.objs.size]).map Value.ref).toArray c2, slots := #[] } := by
      have := Heap.get?_update_self (Obj.mapSeq (·.push (Value.ref s.heap.objs.size))) hS' rfl
      exact ⟨c + 1, by rw [this]; simp [Obj.mapSeq]⟩
    refine wpAny_updateSeq hS' rfl (wpAny_pure ⟨plainId_quiet F.plain_extend_loop _, ih (i + 1) _ (Ts ++ [s.heap.objs.size]) c2 (by omega) hlt ?_ ?_ ?_ ?_ fun h'' tk Ts' c' k'' hS'' P'' => ?_⟩) ?_ ?_
    · show (h'.update S _).objs.size = bs + (i + 1)
      rw [(Heap.SameBut.update h' S _).1, sz', hbs]; rfl
    · obtain ⟨zp, ti, a1, a2, b1, b2⟩ := Z'
      refine ⟨?_, oth _ _ hS5.symm ti, a1.at fun o e => oth _ o hS3.symm e, a2.at fun o e => oth _ o hS4.symm e, b1.at fun o e => oth _ o hS6.symm e, b2.at fun o e => oth _ o hS7.symm e⟩
      rcases zp with ⟨q1, a, b, q2⟩ | ⟨T, b, q1, o, q2, t1, t2, t3, t4⟩
      · exact .inl ⟨oth _ _ hS1.symm q1, a, b, oth _ _ hS2.symm q2⟩
      · refine .inr ⟨T, b, oth _ _ hS1.symm q1, ?_⟩
        by_cases hTS : T = S
        · subst hTS
          exact ⟨_, Heap.get?_update_self _ hS' rfl, t1, t2, t3, t4⟩
        · exact ⟨o, oth _ _ hTS q2, t1, t2, t3, t4⟩
    · exact hS2'
    · refine ⟨by simp [P.ln], fun j T e => ?_⟩
      have nS : ∀ U : Addr, bs ≤ U → U ≠ S := fun U g => Nat.ne_of_gt (Nat.lt_of_lt_of_le hb5 g)
      by_cases cj : j < Ts.length
      · rw [List.getElem?_append_left cj] at e
        obtain ⟨g0, x, y, e1, e2, e3⟩ := P.it j T e
        have g : bs ≤ T := by rw [g0]; exact Nat.le_add_right _ _
        exact ⟨g0, x, y, e1, e2, oth _ _ (nS T g) (hk' _ _ (Nat.ne_of_gt (Nat.lt_of_lt_of_le hb1 g)) (Nat.ne_of_gt (Nat.lt_of_lt_of_le hb2 g)) (Nat.ne_of_gt (Nat.lt_of_lt_of_le hb3 g)) (Nat.ne_of_gt (Nat.lt_of_lt_of_le hb4 g)) e3)⟩
      · rw [List.getElem?_append_right (by omega)] at e
        have e0 : j - Ts.length = 0 := by
          cases q : j - Ts.length with
          | zero => rfl
          | succ n => rw [q] at e; simp at e
        rw [e0] at e
        have eT : s.heap.objs.size = T := by simpa using e
        have ej : j = i := by have := P.ln; omega
        subst eT ej
        exact ⟨hbs, _, _, by simp [hlt], by simp [show j < ys.size by omega], oth _ _ (nS _ (by rw [hbs]; exact Nat.le_add_right _ _)) pr⟩
    · exact hR h'' tk Ts' c' (fun b o b1 b2 b3 b4 b5 e => k'' b o b1 b2 b3 b4 b5 (oth b o b1 (hk' b o b2 b3 b4 b5 e))) hS'' P''
    · simp [P.ln]; omega
    · simp [P.ln]; omega
end
end LX

set_option Elab.async false
set_option linter.all false
set_option maxRecDepth 100000
namespace LX
section
open PySem PySem.Spec PySem.Calls PyProof.Rows PySem.W
theorem nolen_zip : typeLookup (.type "zip") "__len__" = pure none := by rw [typeLookup_type, builtinLookup_eq_fast]; kernel_rfl
theorem nohint_zip : typeLookup (.type "zip") "__length_hint__" = pure none := by rw [typeLookup_type, builtinLookup_eq_fast]; kernel_rfl
variable {prog : Program} {w : World} {A : Around} {E : Value → Shared → Prop} {s : Shared} {z TI TO i1 i2 l1 l2 : Addr} {xs ys : Array Value}
theorem zip_ty (Z : ZipAt s.heap z TI TO i1 i2 l1 l2 xs ys 0) : s.TypeIs (.ref z) "zip" := by
  rcases Z.zp with ⟨h, _⟩ | ⟨_, _, h, _⟩ <;> exact ⟨_, h, rfl⟩
theorem zip_iter {Q : Value → Shared → Prop} (Z : ZipAt s.heap z TI TO i1 i2 l1 l2 xs ys 0) (h : Q (.ref z) s) : wpAny (model prog w) A (pyIter (.ref z)) Q E s := by
  have hT := zip_ty Z
  refine wpAny_pyIter_slot hT F.slot_zip_iter (wpAny_call_entry F.slot_zip_iter hT F.entry_zip_iter ?_ (F.args_zip_iter_1 _))
  show wpAny _ _ (ret (.ref z)) _ _ s
  exact wpAny_pure ⟨_, rfl, "zip", _, hT, F.slot_zip_next.lookup, h⟩
theorem ZipAt.keep {h h' : Heap} {i : Nat} {S : Addr} (D : ZipApart z TI TO i1 i2 l1 l2) (Z : ZipAt h z TI TO i1 i2 l1 l2 xs ys i) (k : ∀ b o, b ≠ S → h.get? b = some o → h'.get? b = some o) (hS : ∃ o, h'.get? S = some o) (hS1 : S ≠ z) (hS2 : S ≠ TO) (hS3 : S ≠ i1) (hS4 : S ≠ i2) (hS5 : S ≠ TI) (hS6 : S ≠ l1) (hS7 : S ≠ l2) : ZipAt h' z TI TO i1 i2 l1 l2 xs ys i := by
  obtain ⟨zp, ti, a1, a2, b1, b2⟩ := Z
  refine ⟨?_, k _ _ hS5.symm ti, a1.at fun o e => k _ o hS3.symm e, a2.at fun o e => k _ o hS4.symm e, b1.at fun o e => k _ o hS6.symm e, b2.at fun o e => k _ o hS7.symm e⟩
  rcases zp with ⟨q1, a, b, q2⟩ | ⟨T, b, q1, o, q2, t1, t2, t3, t4⟩
  · exact .inl ⟨k _ _ hS1.symm q1, a, b, k _ _ hS2.symm q2⟩
  · refine .inr ⟨T, b, k _ _ hS1.symm q1, ?_⟩
    by_cases hTS : T = S
    · subst hTS
      obtain ⟨o', e'⟩ := hS
      exact ⟨o', e', t1, t2, t3, t4⟩
    · exact ⟨o, k _ _ hTS q2, t1, t2, t3, t4⟩
theorem zip_extend {R : Result → Shared → Prop} (hh : A.handled = none) (D : ZipApart z TI TO i1 i2 l1 l2) (Z : ZipAt s.heap z TI TO i1 i2 l1 l2 xs ys 0) (hxy : xs.size = ys.size) (hn : xs.size ≤ sizeLine) (S : Addr) (hS1 : S ≠ z) (hS2 : S ≠ TO) (hS3 : S ≠ i1) (hS4 : S ≠ i2) (hS5 : S ≠ TI) (hS6 : S ≠ l1) (hS7 : S ≠ l2)
    (hb : z < s.heap.objs.size ∧ TO < s.heap.objs.size ∧ i1 < s.heap.objs.size ∧ i2 < s.heap.objs.size ∧ S < s.heap.objs.size) (res : Value) (c₀ : Nat)
    (hS : s.heap.get? S = some { cls := .type "list", data := .seq #[] c₀ })
    (hR : ∀ h' tk Ts' c', (∀ b o, b ≠ S → b ≠ z → b ≠ TO → b ≠ i1 → b ≠ i2 → s.heap.get? b = some o → h'.get? b = some o) → h'.get? S = some { cls := .type "list", dict := none, data := .seq (Ts'.map Value.ref).toArray c', slots := #[] } → PairsAt h' s.heap.objs.size Ts' xs ys xs.size → R (.ok (.ret res)) { s with heap := h', toks := tk }) :
    wpAny (model prog w) A.in1 (Builtin.List.listExtendWith (.ref S) (.ref z) res)
      (fun fin s' => match fin with | .done f => R (.ok f) s' | .again c' => c'.quiet = true ∧ codeAny (model prog w) A c' R s') (fun e s' => R (.error e) s') s := by
  have hT := zip_ty Z
  unfold Builtin.List.listExtendWith
  refine wpAny_bind (wpAny_typeOf hT ?_)
  have h1 : Builtin.List.listSameRef (.ref S) (.ref z) = false := by simp [Builtin.List.listSameRef, hS1]
  have h2 : (Value.type "zip" == Value.type "list") = false := by decide
  have h3 : (Value.type "zip" == Value.type "tuple") = false := by decide
  simp only [h1, h2, h3, Bool.or_false, Bool.false_eq_true, if_false]
  refine wpAny_bind (zip_iter Z ?_)
  refine wpAny_bind (wpAny_holding ?_)
  unfold Builtin.List.listLengthHint
  refine wpAny_bind (wpAny_specialOf hT nolen_zip ?_)
  show wpAny _ A.in1 (specialOf (Value.ref z) (Str.ofString "__length_hint__") >>= _) _ _ _
  refine wpAny_bind (wpAny_specialOf hT nohint_zip ?_)
  refine wpAny_pure ?_
  show wpAny _ A.in1 (rule "list.extend.makes-room" >>= fun _ => Builtin.List.listTouch (.ref S) >>= fun _ =>
    again (.builtin "list.extend.loop" ⟨[.ref S, .ref z, res], []⟩)) _ _ _
  refine wpAny_bind (wpAny_rule ?_)
  refine wpAny_bind ?_
  show wpAny _ A.in1 (updateSeq S (·.push .none) >>= fun _ => updateSeq S (·.pop)) _ _ _
  refine wpAny_bind (wpAny_updateSeq hS rfl ?_)
  have hS₂ := Heap.get?_update_self (Obj.mapSeq (·.push Value.none)) hS rfl
  refine wpAny_updateSeq (hz := by seq_fits) hS₂ rfl ?_
  have hS₃ := Heap.get?_update_self (Obj.mapSeq (·.pop)) hS₂ rfl
  have oth : ∀ b o, b ≠ S → s.heap.get? b = some o → ((s.heap.update S (Obj.mapSeq (·.push Value.none))).update S (Obj.mapSeq (·.pop))).get? b = some o :=
    fun b o hb e => (Heap.get?_update_other _ _ (Ne.symm hb)).trans ((Heap.get?_update_other _ _ (Ne.symm hb)).trans e)
  have szz : ((s.heap.update S (Obj.mapSeq (·.push Value.none))).update S (Obj.mapSeq (·.pop))).objs.size = s.heap.objs.size := by
    rw [(Heap.SameBut.update (s.heap.update S (Obj.mapSeq (·.push Value.none))) S _).1, (Heap.SameBut.update s.heap S _).1]
  refine wpAny_pure ⟨plainId_quiet F.plain_extend_loop _, zip_loop hh D hxy hn S s.heap.objs.size hS1 hS2 hS3 hS4 hS5 hS6 hS7 hb res xs.size 0 _ [] _ rfl (Nat.zero_le _) szz (Z.keep D oth ⟨_, hS₃⟩ hS1 hS2 hS3 hS4 hS5 hS6 hS7) hS₃ ⟨rfl, fun j T e => by simp at e⟩ fun h' tk Ts' c' k' hS' P' => ?_⟩
  exact hR h' tk Ts' c' (fun b o b1 b2 b3 b4 b5 e => k' b o b1 b2 b3 b4 b5 (oth b o b1 e)) hS' P'
theorem zip_init {R : Result → Shared → Prop} (hh : A.handled = none) (D : ZipApart z TI TO i1 i2 l1 l2) (Z : ZipAt s.heap z TI TO i1 i2 l1 l2 xs ys 0) (hxy : xs.size = ys.size) (hn : xs.size ≤ sizeLine) (S : Addr) (hS1 : S ≠ z) (hS2 : S ≠ TO) (hS3 : S ≠ i1) (hS4 : S ≠ i2) (hS5 : S ≠ TI) (hS6 : S ≠ l1) (hS7 : S ≠ l2)
    (hb : z < s.heap.objs.size ∧ TO < s.heap.objs.size ∧ i1 < s.heap.objs.size ∧ i2 < s.heap.objs.size ∧ S < s.heap.objs.size)
    (hS : s.heap.get? S = some { cls := .type "list", data := .seq #[] })
    (hR : ∀ h' tk Ts' c', (∀ b o, b ≠ S → b ≠ z → b ≠ TO → b ≠ i1 → b ≠ i2 → s.heap.get? b = some o → h'.get? b = some o) → h'.get? S = some { cls := .type "list", dict := none, data := .seq (Ts'.map Value.ref).toArray c', slots := #[] } → PairsAt h' s.heap.objs.size Ts' xs ys xs.size → R (.ok (.ret .none)) { s with heap := h', toks := tk }) :
    wpAny (model prog w) A.in1 (Builtin.«list.__init__» ⟨[.ref S, .ref z], []⟩)
      (fun fin s' => match fin with | .done f => R (.ok f) s' | .again c' => c'.quiet = true ∧ codeAny (model prog w) A c' R s') (fun e s' => R (.error e) s') s := by
  show wpAny _ _ (do let old ← Builtin.List.listItems (.ref S); Builtin.List.listUpdate (.ref S) (fun _ => #[]); letGo old.toList.reverse; Builtin.List.listExtendWith (.ref S) (.ref z) .none) _ _ s
  refine wpAny_bind ?_
  unfold Builtin.List.listItems
  refine wpAny_bind (wpAny_seqItems hS rfl (wpAny_pure ?_))
  show wpAny _ _ (updateSeq S (fun _ => #[]) >>= fun _ => letGo (#[] : Array Value).toList.reverse >>= fun _ => Builtin.List.listExtendWith (.ref S) (.ref z) .none) _ _ s
  refine wpAny_bind (wpAny_updateSeq hS rfl ?_)
  have hS₂ := Heap.get?_update_self (Obj.mapSeq (fun _ => (#[] : Array Value))) hS rfl
  have oth : ∀ b o, b ≠ S → s.heap.get? b = some o → (s.heap.update S (Obj.mapSeq (fun _ => (#[] : Array Value)))).get? b = some o :=
    fun b o hb e => (Heap.get?_update_other _ _ (Ne.symm hb)).trans e
  have szz : (s.heap.update S (Obj.mapSeq (fun _ => (#[] : Array Value)))).objs.size = s.heap.objs.size := (Heap.SameBut.update s.heap S _).1
  refine wpAny_bind (wpAny_letGo ?_)
  refine zip_extend hh D (Z.keep D oth ⟨_, hS₂⟩ hS1 hS2 hS3 hS4 hS5 hS6 hS7) hxy hn S hS1 hS2 hS3 hS4 hS5 hS6 hS7 (by rw [szz]; exact hb) .none _ hS₂ (fun h' tk Ts' c' hk hS' hacc => ?_)
  have hacc' : PairsAt h' s.heap.objs.size Ts' xs ys xs.size := by rw [← szz]; exact hacc
  exact hR h' tk Ts' c' (fun b o b1 b2 b3 b4 b5 e => hk b o b1 b2 b3 b4 b5 (oth b o b1 e)) hS' hacc'
theorem call_list_zip {Q : Value → Shared → Prop} (hh : A.handled = none) (D : ZipApart z TI TO i1 i2 l1 l2) (Z : ZipAt s.heap z TI TO i1 i2 l1 l2 xs ys 0) (hxy : xs.size = ys.size) (hn : xs.size ≤ sizeLine)
    (hb : z < s.heap.objs.size ∧ TO < s.heap.objs.size ∧ i1 < s.heap.objs.size ∧ i2 < s.heap.objs.size ∧ TI < s.heap.objs.size ∧ l1 < s.heap.objs.size ∧ l2 < s.heap.objs.size)
    (hQ : ∀ h' tk Ts' c', (∀ b o, b ≠ z → b ≠ TO → b ≠ i1 → b ≠ i2 → s.heap.get? b = some o → h'.get? b = some o) → h'.get? s.heap.objs.size = some { cls := .type "list", dict := none, data := .seq (Ts'.map Value.ref).toArray c', slots := #[] } → PairsAt h' (s.heap.objs.size + 1) Ts' xs ys xs.size → Q (.ref s.heap.objs.size) { s with heap := h', toks := tk }) :
    wpAny (model prog w) A (call (.type "list") [.ref z]) Q E s := by
  refine callType_codes (Q₁ := fun obj s₁ => obj = .ref s.heap.objs.size ∧ s₁ = { s with heap := s.heap.push { cls := .type "list", data := .seq #[] } }) PySem.F.called_list (PySem.F.typeCall_list_1 _) PySem.F.entry_list_init
    (code_list_new _ ⟨rfl, rfl⟩) fun obj s₁ h₁ => ?_
  obtain ⟨rfl, rfl⟩ := h₁
  obtain ⟨q1, q2, q3, q4, q5, q6, q7⟩ := hb
  have hS : (s.heap.push { cls := .type "list", data := .seq #[] }).get? s.heap.objs.size = some { cls := .type "list", data := .seq #[] } := Heap.get?_push_size _ rfl
  have szp : (s.heap.push { cls := .type "list", data := .seq #[] }).objs.size = s.heap.objs.size + 1 := Heap.size_push ..
  have kp : ∀ b o, b ≠ s.heap.objs.size → s.heap.get? b = some o → (s.heap.push { cls := .type "list", data := .seq #[] }).get? b = some o := fun b o _ e => Heap.get?_push_of_some _ e
  refine ⟨⟨_, hS, rfl⟩, PySem.F.args_list_init_2 _ _, zip_init (A := A.in1) hh D (Z.keep D kp ⟨_, hS⟩ (Nat.ne_of_gt q1) (Nat.ne_of_gt q2) (Nat.ne_of_gt q3) (Nat.ne_of_gt q4) (Nat.ne_of_gt q5) (Nat.ne_of_gt q6) (Nat.ne_of_gt q7)) hxy hn _ (Nat.ne_of_gt q1) (Nat.ne_of_gt q2) (Nat.ne_of_gt q3) (Nat.ne_of_gt q4) (Nat.ne_of_gt q5) (Nat.ne_of_gt q6) (Nat.ne_of_gt q7) (by rw [szp]; exact ⟨Nat.lt_succ_of_lt q1, Nat.lt_succ_of_lt q2, Nat.lt_succ_of_lt q3, Nat.lt_succ_of_lt q4, Nat.lt_succ_self _⟩) hS (fun h' tk Ts' c' hk hS' hacc => ?_)⟩
  have hacc' : PairsAt h' (s.heap.objs.size + 1) Ts' xs ys xs.size := by rw [← szp]; exact hacc
  exact ⟨rfl, hQ h' tk Ts' c' (fun b o b1 b2 b3 b4 e => hk b o (Nat.ne_of_lt (Heap.lt_size e)) b1 b2 b3 b4 (Heap.get?_push_of_some _ e)) hS' hacc'⟩
end
end LX

set_option Elab.async false
set_option linter.all false
set_option maxRecDepth 100000
namespace LX
open PySem PySem.Spec PyProof.Rows L2
def zipH (H : Hp) (D : Addr) (xs ys : List V) : Hp := fun b => if b = D then some (.lst ((List.range xs.length).map fun j => V.ref (D + 1 + j))) else if D < b then (match xs[b - (D + 1)]?, ys[b - (D + 1)]? with | some x, some y => some (.tup [x, y]) | _, _ => none) else H b
theorem zipH_lt {H : Hp} {D b : Addr} {xs ys : List V} (h : b < D) : zipH H D xs ys b = H b := by
  unfold zipH; rw [if_neg (Nat.ne_of_lt h), if_neg (Nat.lt_asymm h)]
theorem zipH_at {H : Hp} {D : Addr} {xs ys : List V} : zipH H D xs ys D = some (.lst ((List.range xs.length).map fun j => V.ref (D + 1 + j))) := by
  unfold zipH; rw [if_pos rfl]
theorem zipH_pr {H : Hp} {D : Addr} {xs ys : List V} {j : Nat} {x y : V} (hx : xs[j]? = some x) (hy : ys[j]? = some y) : zipH H D xs ys (D + 1 + j) = some (.tup [x, y]) := by
  unfold zipH
  have h2 : D < D + 1 + j := Nat.lt_of_lt_of_le (Nat.lt_succ_self D) (Nat.le_add_right (D + 1) j)
  have h1 : D + 1 + j ≠ D := Nat.ne_of_gt h2
  rw [if_neg h1, if_pos h2, Nat.add_sub_cancel_left, hx, hy]
section
variable {X : Cx} {a b : Expr} {p p' pos pos' : Pos}
def tLZip (ta : TA) : TE := fun σ H Q => ta σ H fun vs H1 => ∃ l1 l2 xs ys, vs = [.ref l1, .ref l2] ∧ H1 l1 = some (.lst xs) ∧ H1 l2 = some (.lst ys) ∧ xs.length = ys.length ∧
  ∀ D H', Same H1 H' → H1 D = none → H' D = some (.lst ((List.range xs.length).map fun j => V.ref (D + 1 + j))) → (∀ (j : Nat) x y, xs[j]? = some x → ys[j]? = some y → H' (D + 1 + j) = some (.tup [x, y])) → Q (.ref D) H'
theorem pe_listZip {ta : TA} (hc : X.calm = true) (hg : Gl X "list") (hm : X.mg "list" = none) (hg' : Gl X "zip") (hm' : X.mg "zip" = none) (ha : PA X [a, b] ta)
    (hs : starEach [a, b] X.env = [(false, eval a X.env), (false, eval b X.env)] := by rfl) (hs' : starEach [b] X.env = [(false, eval b X.env)] := by rfl) (hs2 : starEach [Expr.Call (.Name "zip" p') [a, b] [] pos'] X.env = [(false, eval (.Call (.Name "zip" p') [a, b] [] pos') X.env)] := by rfl) :
    PE X (.Call (.Name "list" p) [.Call (.Name "zip" p') [a, b] [] pos'] [] pos) (tLZip ta) := by
  intro pins s σ H Q I h
  refine wpAny_Call_Name_kw (ld_blt I hg hm PyProof.Rows.boot_list ?_)
  refine PyProof.Rows.callWith_type1 ?_ hs2 rfl
  rw [hs2]
  show wpAny _ _ (spliced ((false, eval (.Call (.Name "zip" p') [a, b] [] pos') X.env) :: [])) _ _ s
  refine Calls.spliced_cons ?_
  refine wpAny_Call_Name_kw (ld_blt I hg' hm' PyProof.Rows.boot_zip ?_)
  refine PyProof.Rows.callWith_type1 (thn (ha pos' pins s σ H _ I h) fun us s1 ⟨vs, H1, I1, r1, q1⟩ => ?_) (by rw [hs, hs']) (by rw [hs']; rfl)
  obtain ⟨l1, l2, xs, ys, e, e1, e2, hl, q⟩ := q1
  subst e
  cases r1 with
  | cons r rr =>
  cases rr with
  | cons r' rr =>
  cases rr
  cases r
  cases r'
  obtain ⟨is1, rv1, p1, hz1⟩ := I1.list (.inl (.inl e1))
  obtain ⟨is2, rv2, p2, hz2⟩ := I1.list (.inl (.inl e2))
  have ln1 := rv1.length
  have ln2 := rv2.length
  have lt1 : l1 < s1.heap.objs.size := let ⟨_, ho, _⟩ := p1.isList; Heap.lt_size ho
  have lt2 : l2 < s1.heap.objs.size := let ⟨_, ho, _⟩ := p2.isList; Heap.lt_size ho
  refine call_zip_2 p1.isList p2.isList fun h1 z1 z2 z3 z4 z5 z6 z7 => ?_
  refine Calls.spliced_nil ?_
  have Dj := PySem.W.ktu_apart s1.heap.objs.size l1 l2 lt1 lt2
  have szl : s1.heap.objs.size < h1.objs.size := by rw [z6]; omega
  refine call_list_zip (s := { s1 with heap := h1 }) (xs := is1.toArray) (ys := is2.toArray) (I1.ok.hd hc) Dj ⟨.inl ⟨z1, _, _, z3⟩, z2, z4, z5, p1.isList.at fun o e => z7 _ o e, p2.isList.at fun o e => z7 _ o e⟩ (by simp; omega) (by simp; omega)
    ⟨by show _ < h1.objs.size; rw [z6]; exact Nat.lt_succ_self _, by show _ < h1.objs.size; rw [z6]; exact Nat.lt_add_of_pos_right (by decide) |> fun (h : _ + 3 < _ + 3 + 2) => h, szl, by show _ < h1.objs.size; rw [z6]; exact Nat.add_lt_add_left (by decide) _, by show _ < h1.objs.size; rw [z6]; exact Nat.add_lt_add_left (by decide) _, Nat.lt_trans lt1 szl, Nat.lt_trans lt2 szl⟩ fun h' tk Ts c kp e P => ?_
  dsimp only at kp e P ⊢
  have lo : s1.heap.objs.size + 4 < h1.objs.size := by rw [z6]; exact Nat.lt_succ_self _
  have kp' : ∀ b o, s1.heap.get? b = some o → h'.get? b = some o := fun b o eb => by
    have lb := Heap.lt_size eb
    exact kp b o (Nat.ne_of_lt (Nat.lt_of_lt_of_le lb (Nat.le_add_right _ _))) (Nat.ne_of_lt (Nat.lt_of_lt_of_le lb (Nat.le_add_right _ _))) (Nat.ne_of_lt lb) (Nat.ne_of_lt (Nat.lt_of_lt_of_le lb (Nat.le_add_right _ _))) (z7 b o eb)
  generalize h1.objs.size = D at *
  have old : ∀ b o, H1 b = some o → b < D := fun b o eb => Nat.lt_trans (I1.hok.lt eb) szl
  have sm : Same H1 (zipH H1 D xs ys) := fun b o eb => by rw [zipH_lt (old b o eb)]; exact eb
  have Dn : H1 D = none := I1.hok.fresh (Nat.le_of_lt szl)
  have un : Un (frs X.stack) [] H1 (zipH H1 D xs ys) s1.heap h' := by
    refine ⟨fun b o q _ _ _ => kp' b o q, fun b o q _ _ _ => ⟨o.slots, kp' b o q⟩, fun b o q n _ => ?_, fun b o q _ => ⟨o, kp' b o q⟩, fun b _ q => sm b _ q, fun b _ _ q => sm b _ q, fun b ps q => ⟨#[], by rw [sm b _ q]; simp⟩⟩
    rw [zipH_lt (Nat.lt_trans (Heap.lt_size q) szl)]; exact n
  have ok : HOk X.prog X.w (zipH H1 D xs ys) h' := fun b o q => by
    by_cases c1 : b < D
    · rw [zipH_lt c1] at q
      exact (I1.hok b o q).stay (fun c v _ r => kp' c v r) (fun c r => sm c _ r) fun c _ r => sm c _ r
    · by_cases c2 : b = D
      · subst c2
        rw [zipH_at] at q; cases q
        refine ⟨by simp; exact hz1, Ts.map Value.ref, c, vals_of (by have := P.ln; simp at this ⊢; omega) fun j x u e1 e2 => ?_, e⟩
        rw [List.getElem?_map] at e1 e2
        obtain ⟨j', e3, rfl⟩ := Option.map_eq_some_iff.mp e1
        obtain ⟨T, e4, rfl⟩ := Option.map_eq_some_iff.mp e2
        have ej : j' = j := by
          have hj := (List.getElem?_eq_some_iff.mp e3)
          obtain ⟨hj1, hj2⟩ := hj
          simpa using hj2.symm
        subst ej
        rw [(P.it j' T e4).1]
        rfl
      · unfold zipH at q
        rw [if_neg c2] at q
        have c3 : D < b := Nat.lt_of_le_of_ne (Nat.le_of_not_lt c1) (Ne.symm c2)
        rw [if_pos c3] at q
        split at q
        · rename_i x y hx hy
          cases q
          obtain ⟨j, rfl⟩ : ∃ j, b = D + 1 + j := ⟨b - (D + 1), (Nat.add_sub_cancel' c3).symm⟩
          rw [Nat.add_sub_cancel_left] at hx hy
          obtain ⟨u, hu, ru⟩ := rv1.get hx
          obtain ⟨v, hv, rv⟩ := rv2.get hy
          have jl : j < Ts.length := by rw [P.ln]; simpa using (List.getElem?_eq_some_iff.mp hu).1
          obtain ⟨e5, x', y', e6, e7, e8⟩ := P.it j Ts[j] (List.getElem?_eq_getElem jl)
          have e6' : is1[j]? = some x' := by simpa using e6
          have e7' : is2[j]? = some y' := by simpa using e7
          rw [hu] at e6'; cases e6'
          rw [hv] at e7'; cases e7'
          rw [e5] at e8
          exact ⟨by show 2 ≤ sizeLine; decide, [u, v], .cons ru (.cons rv .nil), ⟨_, e8, rfl, _, rfl⟩⟩
        · cases q
  exact ⟨.ref D, _, I1.call (g' := s1.gens) (d' := s1.drawn) (t' := tk) un ok I1.bare (fun b hb => nomatch hb), rfl, q D _ sm Dn zipH_at fun j x y hx hy => zipH_pr hx hy⟩
theorem pe_comp2K {K : PySem.W.Frag} {scope : Scope} {x xb : Str} {px pb tp : Pos} {kt : Nat} {fv : List Str} {ixs : List Nat} {elt iter : Expr} {ifs : List Expr} {tif : TT} {te : TE} {wi : TI} (hK : X.K = K) (hck : compOk scope x fv X.env.scope = true) (hvb : scope.names.lookup xb = some .local) (hnd : (x :: xb :: fv).Nodup) (hix : ixs.map (fun k => X.N[k]?) = fv.map some) (hc : X.calm = true) (hi : PI X (.Tuple [.Name x px, .Name xb pb] kt tp) iter wi)
    (hif : ∀ cl C s H fp, PIf (blkCx X scope cl C (x :: xb :: fv) s H fp) ifs tif) (he : ∀ cl C s H fp, PE (blkCx X scope cl C (x :: xb :: fv) s H fp) elt te) (hs : ∀ x, foldedSetIterable iter X.env x = pure x := by intro _; rfl) :
    PE X (.ListComp elt [⟨.Tuple [.Name x px, .Name xb pb] kt tp, iter, ifs, 0⟩] scope pos) (tComp2 K wi ixs tif te) := by
  subst hK; exact pe_comp2 hck hvb hnd hix hc hi hif he hs
end
theorem comp2_rev {K : PySem.W.Frag} {a : Addr} {xs : List V} {fv : L2.St} {tif : TT} {te : TE} {Q : List V → Hp → Prop} {H1 : Hp} (ps : List (V × V)) (fn : V × V → V) (hq : H1 a = some (.lst xs)) (hn : xs.length = ps.length) (hz : xs.length ≤ 1000)
    (hx : ∀ (j : Nat) (x : V) (y : V × V), xs[j]? = some x → ps[j]? = some y → ∃ T, x = .ref T ∧ H1 T = some (.tup [y.1, y.2]))
    (hs : ∀ y ∈ ps, ∀ H, Same H1 H → ∀ (Rt : V → Hp → Prop) (Rf : Hp → Prop), (∀ H3, Same H1 H3 → Rt (fn y) H3) → tif (some y.1 :: some y.2 :: fv) H fun b H2 => if b = true then te (some y.1 :: some y.2 :: fv) H2 Rt else Rf H2)
    (hd : ∀ H, Same H1 H → Q (ps.map fn).reverse H) : CompW2 K (Itv K a xs.length) fv tif te Q H1 := by
  have big : 1000 < sizeLine := by decide
  refine ⟨fun i m acc H => m = xs.length - i ∧ i ≤ xs.length ∧ Same H1 H ∧ acc = (ps.map fn).reverse.take i, ⟨xs.length, by simp, Nat.zero_le _, Same.refl _, by simp⟩, ?_⟩
  rintro i m acc H ⟨rfl, hi, sm, rfl⟩
  have sq : SqL K H a xs := .inl (.inl (sm _ _ hq))
  have al : ((ps.map fn).reverse.take i).length ≤ xs.length := by rw [List.length_take, List.length_reverse, List.length_map]; omega
  by_cases hlt : i < xs.length
  · have h1 : xs.length - 1 - i < xs.length := by omega
    have h2 : xs.length - 1 - i < ps.length := by omega
    refine .inr ⟨⟨xs, xs[xs.length - 1 - i], sq, rfl, hlt, List.getElem?_eq_getElem h1⟩, Nat.lt_of_le_of_lt al (by omega), fun x H' y => ?_⟩
    obtain ⟨rfl, y⟩ := y
    have ex := y xs sq
    obtain ⟨T, rfl, hT⟩ := hx _ x ps[xs.length - 1 - i] ex (List.getElem?_eq_getElem h2)
    refine ⟨T, _, _, rfl, .inl (.inl (sm _ _ hT)), hs _ (List.getElem_mem h2) H' sm _ _ fun H3 s3 => ⟨xs.length - (i + 1), by omega, rfl, hlt, s3, ?_⟩⟩
    rw [List.take_succ]
    congr 1
    have h3 : (ps.map fn).reverse[i]? = some (fn ps[xs.length - 1 - i]) := by
      rw [List.getElem?_reverse (by rw [List.length_map]; omega), List.length_map, List.getElem?_map, ← hn, List.getElem?_eq_getElem h2]; rfl
    rw [h3]; rfl
  · have e : i = xs.length := by omega
    subst e
    refine .inl ⟨Nat.le_refl _, Nat.le_trans al (by omega), ?_⟩
    rw [List.take_of_length_le (by rw [List.length_reverse, List.length_map]; omega)]
    exact hd H sm
end LX

set_option Elab.async false
set_option linter.all false
set_option maxRecDepth 100000
namespace KW
open PySem L2 LX Lf
seal L2.PE L2.PT L2.PW L2.PS L2.PSs L2.PA L2.PI L2.PG L2.PC LX.PH LX.PIf L2.PPs L2.PO L2.OpR L2.UnR L2.CallR L2.IxR L2.MtR
local macro_rules | `(tactic| simp_arith [$xs,*]) => `(tactic| simp only [tRet, tRetN, tIfS, tAsg, gName, tDrop, tNext, vU, tC, tOp, tUn, rIU, rIC, rPowU, neg_i, rIsNU, rNotNU, tTestU, bU, tAnd, tOr, tNot, tAndU, tOrU, tNotU, L2.tIf, tFldU, fldU, sFldU, setU, sFldAugU, iaddU, tMethU, recU, tCallU, tMakeU, tCons, tNil, tCB, allU, isiU, minU, tDGetU, dgU, keyOf, sDPutU, dpU, sLPutU, lpU, tTup, tLst, tComp, tDNewK, fvals, L2.start, cx_body, cx_blk, cx_try, cx_mark, List.map_cons, List.map_nil, List.length_cons, List.length_nil, List.cons_append, List.nil_append, List.append_nil, List.getElem?_cons_zero, List.getElem?_cons_succ, List.replicate, List.set_cons_zero, List.set_cons_succ, Nat.sub_self, Nat.add_one_sub_one, Nat.sub_zero, true_and, and_true, scal_nn, scal_ni, scal_in, scal_nb, scal_bn, scal_ns, scal_sn, scal_ii, scal_bb, scal_ss, scal_is, scal_si, scal_bs, scal_sb, scal_rr, scal_nr, scal_rn, if_true, reduceIte, Bool.false_eq_true, Option.join_some, Option.join, upd_same, give_p, give_n, give_0, add_eq, addO, mul_eq, mulO, len_eq, lenO, list_eq, listO, int_eq, intO, oneR, ix_eq, ixO, eq_eq, ne_eq', gEq_t, gEq_f, gNe_t, gNe_f, Option.bind_some, id_eq, tLM, isLst, appU, pop0U, idxU, idxO, cntU, inU, inO, listDU, sortU, tDiU, diU, tDPopU, isDK, dpopU, tChU, isxU, tLRng1, tLRng2, tLRev, tJoin, isStrV, mulSU, ixSU, tGGet, tGIn, clrU, tLM0, tAug, ipI, rEqS, rNeS, gS_t, $xs,*])
def top (i : Nat) : Stmt := PySem.Challenge.pw_lockflight_k16_flights_drawn.main.body.getD i (.Pass ⟨0, 0, 0, 0⟩)
abbrev s_drawing : Stmt := top 10
abbrev s_chamber_line : Stmt := top 11
abbrev s_init : Stmt := inClass (top 14) 0
abbrev s_levels : Stmt := inClass (top 14) 1
abbrev s_boats : Stmt := inClass (top 14) 2
abbrev s_waiting : Stmt := inClass (top 14) 3
abbrev s_through : Stmt := inClass (top 14) 4
abbrev s_drawn : Stmt := inClass (top 14) 5
abbrev s_out : Stmt := inClass (top 14) 6
abbrev s_side : Stmt := inClass (top 14) 7
abbrev s_place : Stmt := inClass (top 14) 8
abbrev s_come : Stmt := inClass (top 14) 9
abbrev s_let : Stmt := inClass (top 14) 10
abbrev s_sail : Stmt := inClass (top 14) 11
abbrev s_summit : Stmt := inClass (top 14) 12
abbrev s_is_chamber : Stmt := inClass (top 14) 13
abbrev s_can_give : Stmt := inClass (top 14) 14
abbrev s_can_take : Stmt := inClass (top 14) 15
abbrev s_is_level : Stmt := inClass (top 14) 16
abbrev s_give : Stmt := inClass (top 14) 17
abbrev s_take : Stmt := inClass (top 14) 18
abbrev s_leave : Stmt := inClass (top 14) 19
abbrev s_enter : Stmt := inClass (top 14) 20
abbrev s_l_cell_at : Stmt := top 16
abbrev s_l_whole : Stmt := top 17
abbrev s_l_bools : Stmt := top 18
abbrev s_l_numbers : Stmt := top 19
abbrev s_l_stands : Stmt := top 20
abbrev s_l_levels : Stmt := top 21
abbrev s_l_new : Stmt := top 22
abbrev s_l_let_word : Stmt := top 23
abbrev s_l_let : Stmt := top 24
abbrev s_l_then : Stmt := top 25
abbrev s_l_sail_word : Stmt := top 26
abbrev s_l_sail : Stmt := top 27
abbrev s_l_come : Stmt := top 28
abbrev s_l_lets : Stmt := top 29
abbrev s_l_sails : Stmt := top 30
abbrev s_l_step : Stmt := top 31
abbrev s_l_text : Stmt := top 32
abbrev s_law : Stmt := top 33
set_option genInjectivity false in
structure Adr where
  c_Flight : Addr
  c_BadFlight : Addr
  c_NoGate : Addr
  c_NoFall : Addr
  c_NoBoat : Addr
  c_NotFirst : Addr
  c_Shut : Addr
  c_Occupied : Addr
  c_BadText : Addr
  k_MOST_CHAMBERS : Tok
  f_drawing : Addr
  d_drawing : FuncData
  f_chamber_line : Addr
  d_chamber_line : FuncData
  f_init : Addr
  d_init : FuncData
  f_levels : Addr
  d_levels : FuncData
  f_boats : Addr
  d_boats : FuncData
  f_waiting : Addr
  d_waiting : FuncData
  f_through : Addr
  d_through : FuncData
  f_drawn : Addr
  d_drawn : FuncData
  f_out : Addr
  d_out : FuncData
  f_side : Addr
  d_side : FuncData
  f_place : Addr
  d_place : FuncData
  f_come : Addr
  d_come : FuncData
  f_let : Addr
  d_let : FuncData
  f_sail : Addr
  d_sail : FuncData
  f_summit : Addr
  d_summit : FuncData
  f_is_chamber : Addr
  d_is_chamber : FuncData
  f_can_give : Addr
  d_can_give : FuncData
  f_can_take : Addr
  d_can_take : FuncData
  f_is_level : Addr
  d_is_level : FuncData
  f_give : Addr
  d_give : FuncData
  f_take : Addr
  d_take : FuncData
  f_leave : Addr
  d_leave : FuncData
  f_enter : Addr
  d_enter : FuncData
  f_l_cell_at : Addr
  d_l_cell_at : FuncData
  f_l_whole : Addr
  d_l_whole : FuncData
  f_l_bools : Addr
  d_l_bools : FuncData
  f_l_numbers : Addr
  d_l_numbers : FuncData
  f_l_stands : Addr
  d_l_stands : FuncData
  f_l_levels : Addr
  d_l_levels : FuncData
  f_l_new : Addr
  d_l_new : FuncData
  f_l_let_word : Addr
  d_l_let_word : FuncData
  f_l_let : Addr
  d_l_let : FuncData
  f_l_then : Addr
  d_l_then : FuncData
  f_l_sail_word : Addr
  d_l_sail_word : FuncData
  f_l_sail : Addr
  d_l_sail : FuncData
  f_l_come : Addr
  d_l_come : FuncData
  f_l_lets : Addr
  d_l_lets : FuncData
  f_l_sails : Addr
  d_l_sails : FuncData
  f_l_step : Addr
  d_l_step : FuncData
  f_l_text : Addr
  d_l_text : FuncData
  f_law : Addr
  d_law : FuncData
set_option genInjectivity false in
structure Txt (w : World) (K : PySem.W.Frag) (mg : Str → Option Value) (t : Adr) : Prop where
  cl : Cls K t.c_Flight
  mkc : Mk K t.c_Flight t.f_init
  g_Flight : mg "Flight" = some (.ref t.c_Flight)
  g_BadFlight : mg "BadFlight" = some (.ref t.c_BadFlight)
  g_NoGate : mg "NoGate" = some (.ref t.c_NoGate)
  g_NoFall : mg "NoFall" = some (.ref t.c_NoFall)
  g_NoBoat : mg "NoBoat" = some (.ref t.c_NoBoat)
  g_NotFirst : mg "NotFirst" = some (.ref t.c_NotFirst)
  g_Shut : mg "Shut" = some (.ref t.c_Shut)
  g_Occupied : mg "Occupied" = some (.ref t.c_Occupied)
  x_BadFlight : PySem.W.excIn K t.c_BadFlight [.type "ValueError", .type "Exception", .type "BaseException", .type "object"] "ValueError.__new__" = true
  x_NoGate : PySem.W.excIn K t.c_NoGate [.type "ValueError", .type "Exception", .type "BaseException", .type "object"] "ValueError.__new__" = true
  x_NoFall : PySem.W.excIn K t.c_NoFall [.type "ValueError", .type "Exception", .type "BaseException", .type "object"] "ValueError.__new__" = true
  x_NoBoat : PySem.W.excIn K t.c_NoBoat [.type "ValueError", .type "Exception", .type "BaseException", .type "object"] "ValueError.__new__" = true
  x_NotFirst : PySem.W.excIn K t.c_NotFirst [.type "ValueError", .type "Exception", .type "BaseException", .type "object"] "ValueError.__new__" = true
  x_Shut : PySem.W.excIn K t.c_Shut [.type "ValueError", .type "Exception", .type "BaseException", .type "object"] "ValueError.__new__" = true
  x_Occupied : PySem.W.excIn K t.c_Occupied [.type "ValueError", .type "Exception", .type "BaseException", .type "object"] "ValueError.__new__" = true
  g_MOST_CHAMBERS : mg "MOST_CHAMBERS" = some (.int 8 t.k_MOST_CHAMBERS)
  n_gone : NoAttr K t.c_Flight "gone"
  n_high : NoAttr K t.c_Flight "high"
  n_inside : NoAttr K t.c_Flight "inside"
  n_lockfuls_drawn : NoAttr K t.c_Flight "lockfuls_drawn"
  n_lockfuls_out : NoAttr K t.c_Flight "lockfuls_out"
  n_rows : NoAttr K t.c_Flight "rows"
  n_sides : NoAttr K t.c_Flight "sides"
  F_drawing : Fun K "drawing" "drawing" s_drawing t.f_drawing t.d_drawing
  b_drawing : Binds K t.d_drawing ["flight"] []
  g_drawing : mg "drawing" = some (.ref t.f_drawing)
  F_chamber_line : Fun K "chamber_line" "chamber_line" s_chamber_line t.f_chamber_line t.d_chamber_line
  b_chamber_line : Binds K t.d_chamber_line ["high", "boat"] []
  g_chamber_line : mg "chamber_line" = some (.ref t.f_chamber_line)
  F_init : Fun K "__init__" "Flight.__init__" s_init t.f_init t.d_init
  b_init : Binds K t.d_init ["self", "levels"] []
  F_levels : Fun K "levels" "Flight.levels" s_levels t.f_levels t.d_levels
  b_levels : Binds K t.d_levels ["self"] []
  m_levels : Meth K t.c_Flight "levels" t.f_levels
  F_boats : Fun K "boats" "Flight.boats" s_boats t.f_boats t.d_boats
  b_boats : Binds K t.d_boats ["self"] []
  m_boats : Meth K t.c_Flight "boats" t.f_boats
  F_waiting : Fun K "waiting" "Flight.waiting" s_waiting t.f_waiting t.d_waiting
  b_waiting : Binds K t.d_waiting ["self", "side"] []
  m_waiting : Meth K t.c_Flight "waiting" t.f_waiting
  F_through : Fun K "through" "Flight.through" s_through t.f_through t.d_through
  b_through : Binds K t.d_through ["self"] []
  m_through : Meth K t.c_Flight "through" t.f_through
  F_drawn : Fun K "drawn" "Flight.drawn" s_drawn t.f_drawn t.d_drawn
  b_drawn : Binds K t.d_drawn ["self"] []
  m_drawn : Meth K t.c_Flight "drawn" t.f_drawn
  F_out : Fun K "out" "Flight.out" s_out t.f_out t.d_out
  b_out : Binds K t.d_out ["self"] []
  m_out : Meth K t.c_Flight "out" t.f_out
  F_side : Fun K "side" "Flight.side" s_side t.f_side t.d_side
  b_side : Binds K t.d_side ["self", "boat"] []
  m_side : Meth K t.c_Flight "side" t.f_side
  F_place : Fun K "place" "Flight.place" s_place t.f_place t.d_place
  b_place : Binds K t.d_place ["self", "boat"] []
  m_place : Meth K t.c_Flight "place" t.f_place
  F_come : Fun K "come" "Flight.come" s_come t.f_come t.d_come
  b_come : Binds K t.d_come ["self", "side"] []
  m_come : Meth K t.c_Flight "come" t.f_come
  F_let : Fun K "let" "Flight.let" s_let t.f_let t.d_let
  b_let : Binds K t.d_let ["self", "gate"] []
  m_let : Meth K t.c_Flight "let" t.f_let
  F_sail : Fun K "sail" "Flight.sail" s_sail t.f_sail t.d_sail
  b_sail : Binds K t.d_sail ["self", "boat"] []
  m_sail : Meth K t.c_Flight "sail" t.f_sail
  F_summit : Fun K "summit" "Flight.summit" s_summit t.f_summit t.d_summit
  b_summit : Binds K t.d_summit ["self"] []
  m_summit : Meth K t.c_Flight "summit" t.f_summit
  F_is_chamber : Fun K "is_chamber" "Flight.is_chamber" s_is_chamber t.f_is_chamber t.d_is_chamber
  b_is_chamber : Binds K t.d_is_chamber ["self", "place"] []
  m_is_chamber : Meth K t.c_Flight "is_chamber" t.f_is_chamber
  F_can_give : Fun K "can_give" "Flight.can_give" s_can_give t.f_can_give t.d_can_give
  b_can_give : Binds K t.d_can_give ["self", "place"] []
  m_can_give : Meth K t.c_Flight "can_give" t.f_can_give
  F_can_take : Fun K "can_take" "Flight.can_take" s_can_take t.f_can_take t.d_can_take
  b_can_take : Binds K t.d_can_take ["self", "place"] []
  m_can_take : Meth K t.c_Flight "can_take" t.f_can_take
  F_is_level : Fun K "is_level" "Flight.is_level" s_is_level t.f_is_level t.d_is_level
  b_is_level : Binds K t.d_is_level ["self", "gate"] []
  m_is_level : Meth K t.c_Flight "is_level" t.f_is_level
  F_give : Fun K "give" "Flight.give" s_give t.f_give t.d_give
  b_give : Binds K t.d_give ["self", "place"] []
  m_give : Meth K t.c_Flight "give" t.f_give
  F_take : Fun K "take" "Flight.take" s_take t.f_take t.d_take
  b_take : Binds K t.d_take ["self", "place"] []
  m_take : Meth K t.c_Flight "take" t.f_take
  F_leave : Fun K "leave" "Flight.leave" s_leave t.f_leave t.d_leave
  b_leave : Binds K t.d_leave ["self", "place", "side"] []
  m_leave : Meth K t.c_Flight "leave" t.f_leave
  F_enter : Fun K "enter" "Flight.enter" s_enter t.f_enter t.d_enter
  b_enter : Binds K t.d_enter ["self", "place", "boat"] []
  m_enter : Meth K t.c_Flight "enter" t.f_enter
  F_l_cell_at : Fun K "_law_cell_at" "_law_cell_at" s_l_cell_at t.f_l_cell_at t.d_l_cell_at
  b_l_cell_at : Binds K t.d_l_cell_at ["script", "k"] []
  g_l_cell_at : mg "_law_cell_at" = some (.ref t.f_l_cell_at)
  F_l_whole : Fun K "_law_whole" "_law_whole" s_l_whole t.f_l_whole t.d_l_whole
  b_l_whole : Binds K t.d_l_whole ["found"] []
  g_l_whole : mg "_law_whole" = some (.ref t.f_l_whole)
  F_l_bools : Fun K "_law_bools" "_law_bools" s_l_bools t.f_l_bools t.d_l_bools
  b_l_bools : Binds K t.d_l_bools ["found", "due"] []
  g_l_bools : mg "_law_bools" = some (.ref t.f_l_bools)
  F_l_numbers : Fun K "_law_numbers" "_law_numbers" s_l_numbers t.f_l_numbers t.d_l_numbers
  b_l_numbers : Binds K t.d_l_numbers ["found", "due"] []
  g_l_numbers : mg "_law_numbers" = some (.ref t.f_l_numbers)
  F_l_stands : Fun K "_law_stands" "_law_stands" s_l_stands t.f_l_stands t.d_l_stands
  b_l_stands : Binds K t.d_l_stands ["flight", "state"] []
  g_l_stands : mg "_law_stands" = some (.ref t.f_l_stands)
  F_l_levels : Fun K "_law_levels" "_law_levels" s_l_levels t.f_l_levels t.d_l_levels
  b_l_levels : Binds K t.d_l_levels ["script", "start"] []
  g_l_levels : mg "_law_levels" = some (.ref t.f_l_levels)
  F_l_new : Fun K "_law_new" "_law_new" s_l_new t.f_l_new t.d_l_new
  b_l_new : Binds K t.d_l_new ["levels"] []
  g_l_new : mg "_law_new" = some (.ref t.f_l_new)
  F_l_let_word : Fun K "_law_let_word" "_law_let_word" s_l_let_word t.f_l_let_word t.d_l_let_word
  b_l_let_word : Binds K t.d_l_let_word ["state", "gate"] []
  g_l_let_word : mg "_law_let_word" = some (.ref t.f_l_let_word)
  F_l_let : Fun K "_law_let" "_law_let" s_l_let t.f_l_let t.d_l_let
  b_l_let : Binds K t.d_l_let ["state", "gate"] []
  g_l_let : mg "_law_let" = some (.ref t.f_l_let)
  F_l_then : Fun K "_law_then" "_law_then" s_l_then t.f_l_then t.d_l_then
  b_l_then : Binds K t.d_l_then ["state", "boat"] []
  g_l_then : mg "_law_then" = some (.ref t.f_l_then)
  F_l_sail_word : Fun K "_law_sail_word" "_law_sail_word" s_l_sail_word t.f_l_sail_word t.d_l_sail_word
  b_l_sail_word : Binds K t.d_l_sail_word ["state", "boat"] []
  g_l_sail_word : mg "_law_sail_word" = some (.ref t.f_l_sail_word)
  F_l_sail : Fun K "_law_sail" "_law_sail" s_l_sail t.f_l_sail t.d_l_sail
  b_l_sail : Binds K t.d_l_sail ["state", "boat"] []
  g_l_sail : mg "_law_sail" = some (.ref t.f_l_sail)
  F_l_come : Fun K "_law_come" "_law_come" s_l_come t.f_l_come t.d_l_come
  b_l_come : Binds K t.d_l_come ["state", "side"] []
  g_l_come : mg "_law_come" = some (.ref t.f_l_come)
  F_l_lets : Fun K "_law_lets" "_law_lets" s_l_lets t.f_l_lets t.d_l_lets
  b_l_lets : Binds K t.d_l_lets ["state"] []
  g_l_lets : mg "_law_lets" = some (.ref t.f_l_lets)
  F_l_sails : Fun K "_law_sails" "_law_sails" s_l_sails t.f_l_sails t.d_l_sails
  b_l_sails : Binds K t.d_l_sails ["state"] []
  g_l_sails : mg "_law_sails" = some (.ref t.f_l_sails)
  F_l_step : Fun K "_law_step" "_law_step" s_l_step t.f_l_step t.d_l_step
  b_l_step : Binds K t.d_l_step ["flight", "state", "cell"] []
  g_l_step : mg "_law_step" = some (.ref t.f_l_step)
  F_l_text : Fun K "_law_text" "_law_text" s_l_text t.f_l_text t.d_l_text
  b_l_text : Binds K t.d_l_text ["state"] []
  g_l_text : mg "_law_text" = some (.ref t.f_l_text)
  F_law : Fun K "law" "law" s_law t.f_law t.d_law
  b_law : Binds K t.d_law ["script"] []
  g_law : mg "law" = some (.ref t.f_law)
  z_all : mg "all" = none
  z_bool : mg "bool" = none
  z_int : mg "int" = none
  z_isinstance : mg "isinstance" = none
  z_len : mg "len" = none
  z_list : mg "list" = none
  z_min : mg "min" = none
  z_range : mg "range" = none
  z_reversed : mg "reversed" = none
  z_sorted : mg "sorted" = none
  z_str : mg "str" = none
  z_zip : mg "zip" = none
  q_int_int : PySem.W.kitOne K (.type "int") (.type "int") = some true
  q_int_bool : PySem.W.kitOne K (.type "int") (.type "bool") = some false
  q_bool_bool : PySem.W.kitOne K (.type "bool") (.type "bool") = some true
  q_list_list : PySem.W.kitOne K (.type "list") (.type "list") = some true
  q_str_str : PySem.W.kitOne K (.type "str") (.type "str") = some true

theorem ixN_nat {n : Nat} {i : Int} (h0 : 0 ≤ i) (h1 : i < n) : ixN n i = some i.toNat := by
  unfold ixN; simp [h0, h1]
structure FA where
  p : Addr
  h : Addr
  i : Addr
  r : Addr
  u : Addr
  d : Addr
  s : Addr
  g : Addr
def FA.foot (a : FA) : List Addr := [a.p, a.h, a.i, a.r, a.u, a.d, a.s, a.g]
def flds (a : FA) (dr ou : Int) : List (Str × V) := [("high", .ref a.h), ("inside", .ref a.i), ("rows", .ref a.r), ("sides", .ref a.s), ("gone", .ref a.g), ("lockfuls_drawn", .int dr), ("lockfuls_out", .int ou)]
theorem fl_high (a : FA) (dr ou : Int) : (flds a dr ou).lookup ("high" : Str) = some (V.ref a.h) := rfl
theorem fl_drawn (a : FA) (dr ou : Int) : (flds a dr ou).lookup ("lockfuls_drawn" : Str) = some (V.int dr) := rfl
theorem fl_out (a : FA) (dr ou : Int) : (flds a dr ou).lookup ("lockfuls_out" : Str) = some (V.int ou) := rfl
theorem fl_inside (a : FA) (dr ou : Int) : (flds a dr ou).lookup ("inside" : Str) = some (V.ref a.i) := rfl
theorem fl_rows (a : FA) (dr ou : Int) : (flds a dr ou).lookup ("rows" : Str) = some (V.ref a.r) := rfl
theorem fl_sides (a : FA) (dr ou : Int) : (flds a dr ou).lookup ("sides" : Str) = some (V.ref a.s) := rfl
theorem fl_gone (a : FA) (dr ou : Int) : (flds a dr ou).lookup ("gone" : Str) = some (V.ref a.g) := rfl
theorem fl_putD (a : FA) (dr ou x : Int) : putF "lockfuls_drawn" (.int x) (flds a dr ou) = flds a x ou := rfl
theorem fl_putO (a : FA) (dr ou x : Int) : putF "lockfuls_out" (.int x) (flds a dr ou) = flds a dr x := rfl
theorem fl_len (a : FA) (dr ou : Int) : (flds a dr ou).length = 7 := rfl
theorem fn_summit (a : FA) (dr ou : Int) : (flds a dr ou).lookup ("summit" : Str) = none := rfl
theorem fn_is_chamber (a : FA) (dr ou : Int) : (flds a dr ou).lookup ("is_chamber" : Str) = none := rfl
theorem fn_can_give (a : FA) (dr ou : Int) : (flds a dr ou).lookup ("can_give" : Str) = none := rfl
theorem fn_can_take (a : FA) (dr ou : Int) : (flds a dr ou).lookup ("can_take" : Str) = none := rfl
theorem fn_give (a : FA) (dr ou : Int) : (flds a dr ou).lookup ("give" : Str) = none := rfl
theorem fn_take (a : FA) (dr ou : Int) : (flds a dr ou).lookup ("take" : Str) = none := rfl
theorem fn_let (a : FA) (dr ou : Int) : (flds a dr ou).lookup ("let" : Str) = none := rfl
theorem fn_levels (a : FA) (dr ou : Int) : (flds a dr ou).lookup ("levels" : Str) = none := rfl
theorem fn_drawn (a : FA) (dr ou : Int) : (flds a dr ou).lookup ("drawn" : Str) = none := rfl
theorem fn_out (a : FA) (dr ou : Int) : (flds a dr ou).lookup ("out" : Str) = none := rfl
theorem fn_boats (a : FA) (dr ou : Int) : (flds a dr ou).lookup ("boats" : Str) = none := rfl
theorem fn_waiting (a : FA) (dr ou : Int) : (flds a dr ou).lookup ("waiting" : Str) = none := rfl
theorem fn_through (a : FA) (dr ou : Int) : (flds a dr ou).lookup ("through" : Str) = none := rfl
theorem fn_side (a : FA) (dr ou : Int) : (flds a dr ou).lookup ("side" : Str) = none := rfl
theorem fn_place (a : FA) (dr ou : Int) : (flds a dr ou).lookup ("place" : Str) = none := rfl
theorem fn_come (a : FA) (dr ou : Int) : (flds a dr ou).lookup ("come" : Str) = none := rfl
theorem fn_sail (a : FA) (dr ou : Int) : (flds a dr ou).lookup ("sail" : Str) = none := rfl
theorem fn_is_level (a : FA) (dr ou : Int) : (flds a dr ou).lookup ("is_level" : Str) = none := rfl
theorem fn_leave (a : FA) (dr ou : Int) : (flds a dr ou).lookup ("leave" : Str) = none := rfl
theorem fn_enter (a : FA) (dr ou : Int) : (flds a dr ou).lookup ("enter" : Str) = none := rfl
def bls (l : List Bool) : List V := l.map V.bl
def insV (l : List (Option Int)) : List V := l.map fun x => match x with | none => V.non | some b => V.int b
def intV (l : List Int) : List V := l.map V.int
def sid (b : Bool) : V := .str (if b then "down" else "up")
def sidV (l : List Bool) : List V := l.map sid
structure FlAt (t : Adr) (H : Hp) (a : FA) (f : Fl) : Prop where
  ob : ∃ dx, H a.p = some (.ins t.c_Flight dx (flds a f.drawn f.out))
  hi : H a.h = some (.lst (bls f.high))
  ins : H a.i = some (.lst (insV f.inside))
  row : H a.r = some (.dK [(Sum.inr "up", .ref a.u), (Sum.inr "down", .ref a.d)])
  up : H a.u = some (.lst (intV f.up))
  dn : H a.d = some (.lst (intV f.down))
  sd : H a.s = some (.lst (sidV f.sides))
  gn : H a.g = some (.lst (intV f.gone))
  nd : a.foot.Nodup


theorem at_bls {l : List Bool} {i : Int} (h0 : 0 ≤ i) (h1 : i < l.length) : atI (bls l) i = some (.bl (l.getD i.toNat false)) := by
  unfold atI bls
  rw [List.length_map, ixN_nat h0 h1]
  have : i.toNat < l.length := by omega
  simp [List.getD, this]
theorem set_bls (l : List Bool) (j : Nat) (b : Bool) : (bls l).set j (.bl b) = bls (l.set j b) := by unfold bls; rw [List.map_set]
theorem len_bls (l : List Bool) : (bls l).length = l.length := by unfold bls; simp
theorem FlAt.ne {t : Adr} {H : Hp} {a : FA} {f : Fl} (F : FlAt t H a f) : (a.p ≠ a.h ∧ a.p ≠ a.i ∧ a.p ≠ a.r ∧ a.p ≠ a.u ∧ a.p ≠ a.d ∧ a.p ≠ a.s ∧ a.p ≠ a.g) ∧ (a.h ≠ a.i ∧ a.h ≠ a.r ∧ a.h ≠ a.u ∧ a.h ≠ a.d ∧ a.h ≠ a.s ∧ a.h ≠ a.g) ∧
    (a.i ≠ a.r ∧ a.i ≠ a.u ∧ a.i ≠ a.d ∧ a.i ≠ a.s ∧ a.i ≠ a.g) ∧ (a.r ≠ a.u ∧ a.r ≠ a.d ∧ a.r ≠ a.s ∧ a.r ≠ a.g) ∧ (a.u ≠ a.d ∧ a.u ≠ a.s ∧ a.u ≠ a.g) ∧ (a.d ≠ a.s ∧ a.d ≠ a.g) ∧ a.s ≠ a.g := by
  have n := F.nd
  simp only [FA.foot, List.nodup_cons, List.mem_cons, List.not_mem_nil, or_false, not_or, List.nodup_nil, and_true, not_false_eq_true] at n
  exact n
theorem FlAt.setHigh {t : Adr} {H : Hp} {a : FA} {f : Fl} (F : FlAt t H a f) (h : List Bool) : FlAt t (upd H a.h (.lst (bls h))) a { f with high := h } := by
  obtain ⟨⟨n1, _⟩, ⟨n2, n3, n4, n5, n6, n7⟩, _⟩ := F.ne
  obtain ⟨⟨dx, h1⟩, h2, h3, h4, h5, h6, h7, h8, h9⟩ := F
  exact ⟨⟨dx, by rw [upd_ne n1]; exact h1⟩, upd_same, by rw [upd_ne n2.symm]; exact h3, by rw [upd_ne n3.symm]; exact h4, by rw [upd_ne n4.symm]; exact h5, by rw [upd_ne n5.symm]; exact h6, by rw [upd_ne n6.symm]; exact h7, by rw [upd_ne n7.symm]; exact h8, h9⟩
theorem FlAt.setWater {t : Adr} {H : Hp} {a : FA} {f : Fl} {dx : Addr} (F : FlAt t H a f) (x y : Int) : FlAt t (upd H a.p (.ins t.c_Flight dx (flds a x y))) a { f with drawn := x, out := y } := by
  obtain ⟨⟨n1, n2, n3, n4, n5, n6, n7⟩, _⟩ := F.ne
  obtain ⟨_, h2, h3, h4, h5, h6, h7, h8, h9⟩ := F
  exact ⟨⟨dx, upd_same⟩, by rw [upd_ne n1.symm]; exact h2, by rw [upd_ne n2.symm]; exact h3, by rw [upd_ne n3.symm]; exact h4, by rw [upd_ne n4.symm]; exact h5, by rw [upd_ne n5.symm]; exact h6, by rw [upd_ne n6.symm]; exact h7, by rw [upd_ne n7.symm]; exact h8, h9⟩
theorem FlAt.but {t : Adr} {H H' : Hp} {a : FA} {f : Fl} {xs : List Addr} (F : FlAt t H a f) (b : But xs H H') (n : ∀ y ∈ a.foot, y ∉ xs) : FlAt t H' a f := by
  obtain ⟨⟨dx, h1⟩, h2, h3, h4, h5, h6, h7, h8, h9⟩ := F
  exact ⟨⟨dx, b _ _ h1 (n _ (by simp [FA.foot]))⟩, b _ _ h2 (n _ (by simp [FA.foot])), b _ _ h3 (n _ (by simp [FA.foot])), b _ _ h4 (n _ (by simp [FA.foot])), b _ _ h5 (n _ (by simp [FA.foot])), b _ _ h6 (n _ (by simp [FA.foot])), b _ _ h7 (n _ (by simp [FA.foot])), b _ _ h8 (n _ (by simp [FA.foot])), h9⟩
theorem FlAt.same {t : Adr} {H H' : Hp} {a : FA} {f : Fl} (F : FlAt t H a f) (s : Same H H') : FlAt t H' a f := F.but (xs := []) (But.same s) fun _ _ z => nomatch z
theorem mp (a : FA) : a.p ∈ a.foot := by simp [FA.foot]
theorem mh (a : FA) : a.h ∈ a.foot := by simp [FA.foot]

section
variable {P : Program} {w : World} {K : PySem.W.Frag} {mg : Str → Option Value} {base : Heap} {t : Adr}
inductive sp_summit (t : Adr) (vs : List V) (H : Hp) (Q : VK) (E_ : XK) : Prop
  | mk (a : FA) (f : Fl) (z0 : vs = [.ref a.p]) (z1 : FlAt t H a f) (z2 : Q (.int ((f.high.length : Int) + 1)) H) : sp_summit t vs H Q E_
inductive sp_place (t : Adr) (v : Fl → Int → V) (vs : List V) (H : Hp) (Q : VK) (E_ : XK) : Prop
  | mk (a : FA) (f : Fl) (p : Int) (z0 : vs = [.ref a.p, .int p]) (z1 : FlAt t H a f) (z2 : Q (v f p) H) : sp_place t v vs H Q E_
theorem sc_summit : FnScope ["self"] ["self"] (defScope s_summit) := ⟨rfl, rfl, rfl, by decide +kernel, rfl, by decide +kernel, by decide +kernel⟩
set_option maxHeartbeats 800000 in
theorem ok_summit (T : Txt w K mg t) : FnOk P w K mg base (CXe P w) 1 t.f_summit t.d_summit ["self"] (sp_summit t) := by
  refine okX T.F_summit sc_summit (fun vs H Q E h => ?_) (fun cdv A outer s H vs Q E hr h => ?_)
  · obtain ⟨a, f, rfl, _⟩ := h; rfl
  · obtain ⟨a, f, rfl, hF, k⟩ := h
    obtain ⟨⟨dx, h1⟩, h2, _⟩ := id hF
    refine ⟨_, (pss_one (ps_ret (pe_op ou_add (pe_callB cu_len rfl T.z_len PySem.boot_len (pa_cons (eu_fldK (K := K) rfl (pu 0)) pa_nil)) pe_int))), ?_⟩
    simp_arith [tSeq, h1, h2, T.cl, T.n_high, T.n_inside, T.n_rows, T.n_sides, T.n_gone, T.n_lockfuls_drawn, T.n_lockfuls_out, fl_high, fl_drawn, fl_out, fn_summit, fn_is_chamber, fn_can_give, fn_can_take, fn_give, fn_take, fn_let, fn_levels, fn_drawn, fn_out, fn_boats, fn_waiting, fn_through, fn_side, fn_place, fn_come, fn_sail, fn_is_level, fn_leave, fn_enter, fl_putD, fl_putO, fl_len]
    simpa [bls] using k
theorem sc_is_chamber : FnScope ["self", "place"] ["self", "place"] (defScope s_is_chamber) := ⟨rfl, rfl, rfl, by decide +kernel, rfl, by decide +kernel, by decide +kernel⟩
set_option maxHeartbeats 800000 in
theorem ok_is_chamber (T : Txt w K mg t) : FnOk P w K mg base (CXe P w) 2 t.f_is_chamber t.d_is_chamber ["self", "place"] (sp_place t fun f p => .bl (isCh f.high.length p)) := by
  have G_summit := ok_summit (P := P) (w := w) (base := base) T
  refine okX T.F_is_chamber sc_is_chamber (fun vs H Q E h => ?_) (fun cdv A outer s H vs Q E hr h => ?_)
  · obtain ⟨a, f, p, rfl, _⟩ := h; rfl
  · obtain ⟨a, f, p, rfl, hF, k⟩ := h
    obtain ⟨⟨dx, h1⟩, h2, _⟩ := id hF
    refine ⟨_, (pss_one (ps_ret (eu_and (pe_cmpR ou_gt (pu 1) pe_int (nomark _)) (pe_one (pe_cmpR ou_lt (pu 1) (eu_meth0 (pu 0) T.cl T.m_summit G_summit (hr.mono (by decide)) T.b_summit passB) (nomark _)))))), ?_⟩
    simp_arith [tSeq, h1, h2, T.cl, T.n_high, T.n_inside, T.n_rows, T.n_sides, T.n_gone, T.n_lockfuls_drawn, T.n_lockfuls_out, fl_high, fl_drawn, fl_out, fn_summit, fn_is_chamber, fn_can_give, fn_can_take, fn_give, fn_take, fn_let, fn_levels, fn_drawn, fn_out, fn_boats, fn_waiting, fn_through, fn_side, fn_place, fn_come, fn_sail, fn_is_level, fn_leave, fn_enter, fl_putD, fl_putO, fl_len]
    unfold isCh at k
    by_cases c : 0 < p
    · simp only [c, decide_true, if_true, Bool.true_and] at k ⊢
      exact ⟨a, f, rfl, hF, k⟩
    · simp only [c, decide_false, Bool.false_eq_true, if_false, Bool.false_and] at k ⊢
      exact k
theorem sc_can_give : FnScope ["self", "place"] ["self", "place"] (defScope s_can_give) := ⟨rfl, rfl, rfl, by decide +kernel, rfl, by decide +kernel, by decide +kernel⟩
set_option maxHeartbeats 800000 in
theorem ok_can_give (T : Txt w K mg t) : FnOk P w K mg base (CXe P w) 3 t.f_can_give t.d_can_give ["self", "place"] (sp_place t fun f p => .bl (Lf.canGive f.high p)) := by
  have G_is_chamber := ok_is_chamber (P := P) (w := w) (base := base) T
  refine okX T.F_can_give sc_can_give (fun vs H Q E h => ?_) (fun cdv A outer s H vs Q E hr h => ?_)
  · obtain ⟨a, f, p, rfl, _⟩ := h; rfl
  · obtain ⟨a, f, p, rfl, hF, k⟩ := h
    obtain ⟨⟨dx, h1⟩, h2, _⟩ := id hF
    refine ⟨_, (pss_one (ps_ret (pe_ifExp (tu_val (eu_meth (pu 0) T.cl T.m_is_chamber G_is_chamber (hr.mono (by decide)) T.b_is_chamber passB (pa_cons (pu 1) pa_nil))) (eu_ix xu_seq (eu_fldK (K := K) rfl (pu 0)) (pe_op ou_sub (pu 1) pe_int)) pe_bl))), ?_⟩
    simp_arith [tSeq, h1, h2, T.cl, T.n_high, T.n_inside, T.n_rows, T.n_sides, T.n_gone, T.n_lockfuls_drawn, T.n_lockfuls_out, fl_high, fl_drawn, fl_out, fn_summit, fn_is_chamber, fn_can_give, fn_can_take, fn_give, fn_take, fn_let, fn_levels, fn_drawn, fn_out, fn_boats, fn_waiting, fn_through, fn_side, fn_place, fn_come, fn_sail, fn_is_level, fn_leave, fn_enter, fl_putD, fl_putO, fl_len]
    refine ⟨a, f, p, rfl, hF, ?_⟩
    try dsimp only at k
    unfold Lf.canGive at k
    cases c : isCh f.high.length p with
    | true =>
      have c' : 0 < p ∧ p < (f.high.length : Int) + 1 := by simpa [isCh] using c
      rw [c] at k
      simp_arith [tSeq, h1, h2, T.cl, T.n_high, T.n_inside, T.n_rows, T.n_sides, T.n_gone, T.n_lockfuls_drawn, T.n_lockfuls_out, fl_high, fl_drawn, fl_out, fn_summit, fn_is_chamber, fn_can_give, fn_can_take, fn_give, fn_take, fn_let, fn_levels, fn_drawn, fn_out, fn_boats, fn_waiting, fn_through, fn_side, fn_place, fn_come, fn_sail, fn_is_level, fn_leave, fn_enter, fl_putD, fl_putO, fl_len, c]
      rw [at_bls (by omega) (by omega)]
      simp only [give_p, true_and]
      exact k
    | false =>
      rw [c] at k
      simp_arith [tSeq, h1, h2, T.cl, T.n_high, T.n_inside, T.n_rows, T.n_sides, T.n_gone, T.n_lockfuls_drawn, T.n_lockfuls_out, fl_high, fl_drawn, fl_out, fn_summit, fn_is_chamber, fn_can_give, fn_can_take, fn_give, fn_take, fn_let, fn_levels, fn_drawn, fn_out, fn_boats, fn_waiting, fn_through, fn_side, fn_place, fn_come, fn_sail, fn_is_level, fn_leave, fn_enter, fl_putD, fl_putO, fl_len, c]
      exact k
theorem sc_can_take : FnScope ["self", "place"] ["self", "place"] (defScope s_can_take) := ⟨rfl, rfl, rfl, by decide +kernel, rfl, by decide +kernel, by decide +kernel⟩
set_option maxHeartbeats 800000 in
theorem ok_can_take (T : Txt w K mg t) : FnOk P w K mg base (CXe P w) 3 t.f_can_take t.d_can_take ["self", "place"] (sp_place t fun f p => .bl (Lf.canTake f.high p)) := by
  have G_is_chamber := ok_is_chamber (P := P) (w := w) (base := base) T
  refine okX T.F_can_take sc_can_take (fun vs H Q E h => ?_) (fun cdv A outer s H vs Q E hr h => ?_)
  · obtain ⟨a, f, p, rfl, _⟩ := h; rfl
  · obtain ⟨a, f, p, rfl, hF, k⟩ := h
    obtain ⟨⟨dx, h1⟩, h2, _⟩ := id hF
    refine ⟨_, (pss_one (ps_ret (pe_ifExp (tu_val (eu_meth (pu 0) T.cl T.m_is_chamber G_is_chamber (hr.mono (by decide)) T.b_is_chamber passB (pa_cons (pu 1) pa_nil))) (eu_not (eu_ix xu_seq (eu_fldK (K := K) rfl (pu 0)) (pe_op ou_sub (pu 1) pe_int))) pe_bl))), ?_⟩
    simp_arith [tSeq, h1, h2, T.cl, T.n_high, T.n_inside, T.n_rows, T.n_sides, T.n_gone, T.n_lockfuls_drawn, T.n_lockfuls_out, fl_high, fl_drawn, fl_out, fn_summit, fn_is_chamber, fn_can_give, fn_can_take, fn_give, fn_take, fn_let, fn_levels, fn_drawn, fn_out, fn_boats, fn_waiting, fn_through, fn_side, fn_place, fn_come, fn_sail, fn_is_level, fn_leave, fn_enter, fl_putD, fl_putO, fl_len]
    refine ⟨a, f, p, rfl, hF, ?_⟩
    try dsimp only at k
    unfold Lf.canTake at k
    cases c : isCh f.high.length p with
    | true =>
      have c' : 0 < p ∧ p < (f.high.length : Int) + 1 := by simpa [isCh] using c
      rw [c] at k
      simp_arith [tSeq, h1, h2, T.cl, T.n_high, T.n_inside, T.n_rows, T.n_sides, T.n_gone, T.n_lockfuls_drawn, T.n_lockfuls_out, fl_high, fl_drawn, fl_out, fn_summit, fn_is_chamber, fn_can_give, fn_can_take, fn_give, fn_take, fn_let, fn_levels, fn_drawn, fn_out, fn_boats, fn_waiting, fn_through, fn_side, fn_place, fn_come, fn_sail, fn_is_level, fn_leave, fn_enter, fl_putD, fl_putO, fl_len, c]
      rw [at_bls (by omega) (by omega)]
      simp only [give_p, true_and]
      exact k
    | false =>
      rw [c] at k
      simp_arith [tSeq, h1, h2, T.cl, T.n_high, T.n_inside, T.n_rows, T.n_sides, T.n_gone, T.n_lockfuls_drawn, T.n_lockfuls_out, fl_high, fl_drawn, fl_out, fn_summit, fn_is_chamber, fn_can_give, fn_can_take, fn_give, fn_take, fn_let, fn_levels, fn_drawn, fn_out, fn_boats, fn_waiting, fn_through, fn_side, fn_place, fn_come, fn_sail, fn_is_level, fn_leave, fn_enter, fl_putD, fl_putO, fl_len, c]
      exact k
inductive sp_do (t : Adr) (F : Fl → Int → Fl) (v : Fl → Int → V) (vs : List V) (H : Hp) (Q : VK) (E_ : XK) : Prop
  | mk (a : FA) (f : Fl) (p : Int) (z0 : vs = [.ref a.p, .int p]) (z1 : FlAt t H a f) (z2 : ∀ H', FlAt t H' a (F f p) → But a.foot H H' → Q (v f p) H') : sp_do t F v vs H Q E_
def giveF (f : Fl) (p : Int) : Fl := { f with high := giveH f.high p, drawn := f.drawn + (if isCh f.high.length p then 0 else 1) }
def takeF (f : Fl) (p : Int) : Fl := { f with high := takeH f.high p, out := f.out + (if isCh f.high.length p then 0 else 1) }
theorem sc_give : FnScope ["self", "place"] ["self", "place"] (defScope s_give) := ⟨rfl, rfl, rfl, by decide +kernel, rfl, by decide +kernel, by decide +kernel⟩
set_option maxHeartbeats 800000 in
theorem ok_give (T : Txt w K mg t) : FnOk P w K mg base (CXe P w) 3 t.f_give t.d_give ["self", "place"] (sp_do t giveF fun _ _ => .non) := by
  have G_is_chamber := ok_is_chamber (P := P) (w := w) (base := base) T
  refine okX T.F_give sc_give (fun vs H Q E h => ?_) (fun cdv A outer s H vs Q E hr h => ?_)
  · obtain ⟨a, f, p, rfl, _⟩ := h; rfl
  · obtain ⟨a, f, p, rfl, hF, k⟩ := h
    obtain ⟨⟨dx, h1⟩, h2, _⟩ := id hF
    refine ⟨_, (pss_one (ps_if (tu_val (eu_meth (pu 0) T.cl T.m_is_chamber G_is_chamber (hr.mono (by decide)) T.b_is_chamber passB (pa_cons (pu 1) pa_nil))) (pss_one (su_lput (eu_fldK (K := K) rfl (pu 0)) (pe_op ou_sub (pu 1) pe_int) pe_bl)) (pss_one (su_fldaugK (K := K) rfl (pu 0) pe_int iu_add)))), ?_⟩
    simp_arith [tSeq, h1, h2, T.cl, T.n_high, T.n_inside, T.n_rows, T.n_sides, T.n_gone, T.n_lockfuls_drawn, T.n_lockfuls_out, fl_high, fl_drawn, fl_out, fn_summit, fn_is_chamber, fn_can_give, fn_can_take, fn_give, fn_take, fn_let, fn_levels, fn_drawn, fn_out, fn_boats, fn_waiting, fn_through, fn_side, fn_place, fn_come, fn_sail, fn_is_level, fn_leave, fn_enter, fl_putD, fl_putO, fl_len]
    refine ⟨a, f, p, rfl, hF, ?_⟩
    unfold giveF giveH at k
    cases c : isCh f.high.length p with
    | true =>
      have c' : 0 < p ∧ p < (f.high.length : Int) + 1 := by simpa [isCh] using c
      simp only [c, if_true, Int.add_zero] at k
      simp_arith [tSeq, h1, h2, T.cl, T.n_high, T.n_inside, T.n_rows, T.n_sides, T.n_gone, T.n_lockfuls_drawn, T.n_lockfuls_out, fl_high, fl_drawn, fl_out, fn_summit, fn_is_chamber, fn_can_give, fn_can_take, fn_give, fn_take, fn_let, fn_levels, fn_drawn, fn_out, fn_boats, fn_waiting, fn_through, fn_side, fn_place, fn_come, fn_sail, fn_is_level, fn_leave, fn_enter, fl_putD, fl_putO, fl_len, c]
      rw [len_bls, ixN_nat (by omega) (by omega)]
      simp only [set_bls]
      exact k _ (hF.setHigh _) (But.upd (mh a))
    | false =>
      simp only [c, Bool.false_eq_true, if_false] at k
      simp_arith [tSeq, h1, h2, T.cl, T.n_high, T.n_inside, T.n_rows, T.n_sides, T.n_gone, T.n_lockfuls_drawn, T.n_lockfuls_out, fl_high, fl_drawn, fl_out, fn_summit, fn_is_chamber, fn_can_give, fn_can_take, fn_give, fn_take, fn_let, fn_levels, fn_drawn, fn_out, fn_boats, fn_waiting, fn_through, fn_side, fn_place, fn_come, fn_sail, fn_is_level, fn_leave, fn_enter, fl_putD, fl_putO, fl_len, c]
      exact ⟨by decide, k _ (hF.setWater _ _) (But.upd (mp a))⟩
theorem sc_take : FnScope ["self", "place"] ["self", "place"] (defScope s_take) := ⟨rfl, rfl, rfl, by decide +kernel, rfl, by decide +kernel, by decide +kernel⟩
set_option maxHeartbeats 800000 in
theorem ok_take (T : Txt w K mg t) : FnOk P w K mg base (CXe P w) 3 t.f_take t.d_take ["self", "place"] (sp_do t takeF fun _ _ => .non) := by
  have G_is_chamber := ok_is_chamber (P := P) (w := w) (base := base) T
  refine okX T.F_take sc_take (fun vs H Q E h => ?_) (fun cdv A outer s H vs Q E hr h => ?_)
  · obtain ⟨a, f, p, rfl, _⟩ := h; rfl
  · obtain ⟨a, f, p, rfl, hF, k⟩ := h
    obtain ⟨⟨dx, h1⟩, h2, _⟩ := id hF
    refine ⟨_, (pss_one (ps_if (tu_val (eu_meth (pu 0) T.cl T.m_is_chamber G_is_chamber (hr.mono (by decide)) T.b_is_chamber passB (pa_cons (pu 1) pa_nil))) (pss_one (su_lput (eu_fldK (K := K) rfl (pu 0)) (pe_op ou_sub (pu 1) pe_int) pe_bl)) (pss_one (su_fldaugK (K := K) rfl (pu 0) pe_int iu_add)))), ?_⟩
    simp_arith [tSeq, h1, h2, T.cl, T.n_high, T.n_inside, T.n_rows, T.n_sides, T.n_gone, T.n_lockfuls_drawn, T.n_lockfuls_out, fl_high, fl_drawn, fl_out, fn_summit, fn_is_chamber, fn_can_give, fn_can_take, fn_give, fn_take, fn_let, fn_levels, fn_drawn, fn_out, fn_boats, fn_waiting, fn_through, fn_side, fn_place, fn_come, fn_sail, fn_is_level, fn_leave, fn_enter, fl_putD, fl_putO, fl_len]
    refine ⟨a, f, p, rfl, hF, ?_⟩
    unfold takeF takeH at k
    cases c : isCh f.high.length p with
    | true =>
      have c' : 0 < p ∧ p < (f.high.length : Int) + 1 := by simpa [isCh] using c
      simp only [c, if_true, Int.add_zero] at k
      simp_arith [tSeq, h1, h2, T.cl, T.n_high, T.n_inside, T.n_rows, T.n_sides, T.n_gone, T.n_lockfuls_drawn, T.n_lockfuls_out, fl_high, fl_drawn, fl_out, fn_summit, fn_is_chamber, fn_can_give, fn_can_take, fn_give, fn_take, fn_let, fn_levels, fn_drawn, fn_out, fn_boats, fn_waiting, fn_through, fn_side, fn_place, fn_come, fn_sail, fn_is_level, fn_leave, fn_enter, fl_putD, fl_putO, fl_len, c]
      rw [len_bls, ixN_nat (by omega) (by omega)]
      simp only [set_bls]
      exact k _ (hF.setHigh _) (But.upd (mh a))
    | false =>
      simp only [c, Bool.false_eq_true, if_false] at k
      simp_arith [tSeq, h1, h2, T.cl, T.n_high, T.n_inside, T.n_rows, T.n_sides, T.n_gone, T.n_lockfuls_drawn, T.n_lockfuls_out, fl_high, fl_drawn, fl_out, fn_summit, fn_is_chamber, fn_can_give, fn_can_take, fn_give, fn_take, fn_let, fn_levels, fn_drawn, fn_out, fn_boats, fn_waiting, fn_through, fn_side, fn_place, fn_come, fn_sail, fn_is_level, fn_leave, fn_enter, fl_putD, fl_putO, fl_len, c]
      exact ⟨by decide, k _ (hF.setWater _ _) (But.upd (mp a))⟩
inductive sp_let (t : Adr) (vs : List V) (H : Hp) (Q : VK) (E : XK) : Prop
  | mk (a : FA) (f : Fl) (g : Int) (z0 : vs = [.ref a.p, .int g]) (z1 : FlAt t H a f) (z2 : (match letOut f.high g with | .noGate => E (.ref t.c_NoGate) none H | .noFall => E (.ref t.c_NoFall) none H | .done => ∀ H', FlAt t H' a (f.let g) → But a.foot H H' → Q (.int (f.let g).drawn) H')) : sp_let t vs H Q E
theorem let_give {f : Fl} {g : Int} : takeF (giveF f (g + 1)) g = f.let g := by
  unfold takeF giveF Fl.let letH
  have : (giveH f.high (g + 1)).length = f.high.length := by unfold giveH; split <;> simp
  simp only [this]
theorem sc_let : FnScope ["self", "gate"] ["self", "gate"] (defScope s_let) := ⟨rfl, rfl, rfl, by decide +kernel, rfl, by decide +kernel, by decide +kernel⟩
set_option maxHeartbeats 800000 in
theorem ok_let (T : Txt w K mg t) : FnOk P w K mg base (CXe P w) 4 t.f_let t.d_let ["self", "gate"] (sp_let t) := by
  have G_summit := ok_summit (P := P) (w := w) (base := base) T
  have G_can_give := ok_can_give (P := P) (w := w) (base := base) T
  have G_can_take := ok_can_take (P := P) (w := w) (base := base) T
  have G_give := ok_give (P := P) (w := w) (base := base) T
  have G_take := ok_take (P := P) (w := w) (base := base) T
  refine okX T.F_let sc_let (fun vs H Q E h => ?_) (fun cdv A outer s H vs Q E hr h => ?_)
  · obtain ⟨a, f, p, rfl, _⟩ := h; rfl
  · obtain ⟨a, f, g, rfl, hF, k⟩ := h
    obtain ⟨dx, h1⟩ := hF.ob
    refine ⟨_, (pss_cons (ps_if (PW.pt (pw_or (tu_cmp ou_lt (pu 1) pe_int (nomark _)) (pw_or1 (tu_cmp ou_ge (pu 1) (eu_meth0 (pu 0) T.cl T.m_summit G_summit (hr.mono (by decide)) T.b_summit passB) (nomark _))))) (pss_one (ps_raise raiseB rfl T.x_NoGate PySem.F.excBase_ValueError rfl T.g_NoGate (pa_cons pe_str pa_nil))) pss_nil)
 (pss_cons (ps_if (pt_not (tu_val (eu_meth (pu 0) T.cl T.m_can_give G_can_give (hr.mono (by decide)) T.b_can_give passB (pa_cons (pe_op ou_add (pu 1) pe_int) pa_nil)))) (pss_one (ps_raise raiseB rfl T.x_NoFall PySem.F.excBase_ValueError rfl T.g_NoFall (pa_cons pe_str pa_nil))) pss_nil)
 (pss_cons (ps_if (pt_not (tu_val (eu_meth (pu 0) T.cl T.m_can_take G_can_take (hr.mono (by decide)) T.b_can_take passB (pa_cons (pu 1) pa_nil)))) (pss_one (ps_raise raiseB rfl T.x_NoFall PySem.F.excBase_ValueError rfl T.g_NoFall (pa_cons pe_str pa_nil))) pss_nil)
 (pss_cons (ps_expr (eu_meth (pu 0) T.cl T.m_give G_give (hr.mono (by decide)) T.b_give passB (pa_cons (pe_op ou_add (pu 1) pe_int) pa_nil)))
 (pss_cons (ps_expr (eu_meth (pu 0) T.cl T.m_take G_take (hr.mono (by decide)) T.b_take passB (pa_cons (pu 1) pa_nil)))
 (pss_one (ps_ret (eu_fldK (K := K) rfl (pu 0))))))))), ?_⟩
    refine seqG fun R hR => ?_
    try simp_arith [h1, fn_summit, fn_is_chamber, fn_can_give, fn_can_take, fn_give, fn_take, fn_let, fn_levels, fn_drawn, fn_out, fn_boats, fn_waiting, fn_through, fn_side, fn_place, fn_come, fn_sail, fn_is_level, fn_leave, fn_enter]
    unfold letOut at k
    by_cases c0 : g < 0
    · rw [if_pos (.inl c0)] at k
      rw [if_pos (decide_eq_true c0)]
      try simp_arith [tRaise]
      exact ⟨by decide, k⟩
    rw [if_neg (fun z => c0 (of_decide_eq_true z))]
    refine ⟨a, f, rfl, hF, ?_⟩
    try simp_arith [true_and]
    by_cases c1 : (f.high.length : Int) + 1 ≤ g
    · rw [if_pos (.inr c1)] at k
      rw [if_pos (decide_eq_true c1)]
      try simp_arith [tRaise]
      exact ⟨by decide, k⟩
    rw [if_neg (fun z => c1 (of_decide_eq_true z))]
    rw [if_neg (fun z => z.elim c0 c1)] at k
    subst hR
    refine seqG fun R hR => ?_
    try simp_arith [h1, fn_summit, fn_is_chamber, fn_can_give, fn_can_take, fn_give, fn_take, fn_let, fn_levels, fn_drawn, fn_out, fn_boats, fn_waiting, fn_through, fn_side, fn_place, fn_come, fn_sail, fn_is_level, fn_leave, fn_enter]
    refine ⟨a, f, g + 1, rfl, hF, ?_⟩
    cases c2 : Lf.canGive f.high (g + 1) with
    | false =>
      rw [c2] at k
      try simp_arith [c2, Bool.not_false, tRaise]
      exact ⟨by decide, k⟩
    | true =>
      rw [c2] at k
      try simp_arith [c2, Bool.not_true]
      subst hR
      refine seqG fun R hR => ?_
      try simp_arith [h1, fn_summit, fn_is_chamber, fn_can_give, fn_can_take, fn_give, fn_take, fn_let, fn_levels, fn_drawn, fn_out, fn_boats, fn_waiting, fn_through, fn_side, fn_place, fn_come, fn_sail, fn_is_level, fn_leave, fn_enter]
      refine ⟨a, f, g, rfl, hF, ?_⟩
      cases c3 : Lf.canTake f.high g with
      | false =>
        rw [c3] at k
        try simp_arith [c3, Bool.not_false, tRaise]
        exact ⟨by decide, k⟩
      | true =>
        rw [c3] at k
        try simp_arith [c3, Bool.not_true]
        subst hR
        refine seqG fun R hR => ?_
        try simp_arith [h1, fn_summit, fn_is_chamber, fn_can_give, fn_can_take, fn_give, fn_take, fn_let, fn_levels, fn_drawn, fn_out, fn_boats, fn_waiting, fn_through, fn_side, fn_place, fn_come, fn_sail, fn_is_level, fn_leave, fn_enter]
        refine ⟨a, f, g + 1, rfl, hF, fun H1 F1 b1 => ?_⟩
        subst hR
        refine seqG fun R hR => ?_
        obtain ⟨dx1, h1⟩ := F1.ob
        try simp_arith [h1, fn_summit, fn_is_chamber, fn_can_give, fn_can_take, fn_give, fn_take, fn_let, fn_levels, fn_drawn, fn_out, fn_boats, fn_waiting, fn_through, fn_side, fn_place, fn_come, fn_sail, fn_is_level, fn_leave, fn_enter]
        refine ⟨a, _, g, rfl, F1, fun H2 F2 b2 => ?_⟩
        subst hR
        obtain ⟨dx2, h1⟩ := F2.ob
        try simp_arith [h1, T.cl, T.n_lockfuls_drawn, fl_drawn]
        have k' : ∀ H', FlAt t H' a (f.let g) → But a.foot H H' → Q (.int (f.let g).drawn) H' := k
        rw [← let_give] at k'
        exact k' _ F2 (b1.trans b2)
inductive sp_get (t : Adr) (v : Fl → V) (vs : List V) (H : Hp) (Q : VK) (E_ : XK) : Prop
  | mk (a : FA) (f : Fl) (z0 : vs = [.ref a.p]) (z1 : FlAt t H a f) (z2 : Q (v f) H) : sp_get t v vs H Q E_
theorem sc_drawn : FnScope ["self"] ["self"] (defScope s_drawn) := ⟨rfl, rfl, rfl, by decide +kernel, rfl, by decide +kernel, by decide +kernel⟩
set_option maxHeartbeats 800000 in
theorem ok_drawn (T : Txt w K mg t) : FnOk P w K mg base (CXe P w) 1 t.f_drawn t.d_drawn ["self"] (sp_get t fun f => .int f.drawn) := by
  refine okX T.F_drawn sc_drawn (fun vs H Q E h => ?_) (fun cdv A outer s H vs Q E hr h => ?_)
  · obtain ⟨a, f, rfl, _⟩ := h; rfl
  · obtain ⟨a, f, rfl, hF, k⟩ := h
    obtain ⟨⟨dx, h1⟩, h2, _⟩ := id hF
    refine ⟨_, (pss_one (ps_ret (eu_fldK (K := K) rfl (pu 0)))), ?_⟩
    simp_arith [tSeq, h1, h2, T.cl, T.n_high, T.n_inside, T.n_rows, T.n_sides, T.n_gone, T.n_lockfuls_drawn, T.n_lockfuls_out, fl_high, fl_drawn, fl_out, fn_summit, fn_is_chamber, fn_can_give, fn_can_take, fn_give, fn_take, fn_let, fn_levels, fn_drawn, fn_out, fn_boats, fn_waiting, fn_through, fn_side, fn_place, fn_come, fn_sail, fn_is_level, fn_leave, fn_enter, fl_putD, fl_putO, fl_len]
    exact k
theorem sc_out : FnScope ["self"] ["self"] (defScope s_out) := ⟨rfl, rfl, rfl, by decide +kernel, rfl, by decide +kernel, by decide +kernel⟩
set_option maxHeartbeats 800000 in
theorem ok_out (T : Txt w K mg t) : FnOk P w K mg base (CXe P w) 1 t.f_out t.d_out ["self"] (sp_get t fun f => .int f.out) := by
  refine okX T.F_out sc_out (fun vs H Q E h => ?_) (fun cdv A outer s H vs Q E hr h => ?_)
  · obtain ⟨a, f, rfl, _⟩ := h; rfl
  · obtain ⟨a, f, rfl, hF, k⟩ := h
    obtain ⟨⟨dx, h1⟩, h2, _⟩ := id hF
    refine ⟨_, (pss_one (ps_ret (eu_fldK (K := K) rfl (pu 0)))), ?_⟩
    simp_arith [tSeq, h1, h2, T.cl, T.n_high, T.n_inside, T.n_rows, T.n_sides, T.n_gone, T.n_lockfuls_drawn, T.n_lockfuls_out, fl_high, fl_drawn, fl_out, fn_summit, fn_is_chamber, fn_can_give, fn_can_take, fn_give, fn_take, fn_let, fn_levels, fn_drawn, fn_out, fn_boats, fn_waiting, fn_through, fn_side, fn_place, fn_come, fn_sail, fn_is_level, fn_leave, fn_enter, fl_putD, fl_putO, fl_len]
    exact k
inductive sp_new (t : Adr) (v : Fl → List V) (vs : List V) (H : Hp) (Q : VK) (E_ : XK) : Prop
  | mk (a : FA) (f : Fl) (z0 : vs = [.ref a.p]) (z1 : FlAt t H a f) (z2 : ∀ l, H l = none → Q (.ref l) (upd H l (.lst (v f)))) : sp_new t v vs H Q E_
theorem sc_levels : FnScope ["self"] ["self"] (defScope s_levels) := ⟨rfl, rfl, rfl, by decide +kernel, rfl, by decide +kernel, by decide +kernel⟩
set_option maxHeartbeats 800000 in
theorem ok_levels (T : Txt w K mg t) : FnOk P w K mg base (CXe P w) 1 t.f_levels t.d_levels ["self"] (sp_new t fun f => bls f.high) := by
  refine okX T.F_levels sc_levels (fun vs H Q E h => ?_) (fun cdv A outer s H vs Q E hr h => ?_)
  · obtain ⟨a, f, rfl, _⟩ := h; rfl
  · obtain ⟨a, f, rfl, hF, k⟩ := h
    obtain ⟨⟨dx, h1⟩, h2, _⟩ := id hF
    refine ⟨_, (pss_one (ps_ret (pe_callTy cu_list rfl T.z_list PyProof.Rows.boot_list (pa_cons (eu_fldK (K := K) rfl (pu 0)) pa_nil)))), ?_⟩
    simp_arith [tSeq, h1, h2, T.cl, T.n_high, T.n_inside, T.n_rows, T.n_sides, T.n_gone, T.n_lockfuls_drawn, T.n_lockfuls_out, fl_high, fl_drawn, fl_out, fn_summit, fn_is_chamber, fn_can_give, fn_can_take, fn_give, fn_take, fn_let, fn_levels, fn_drawn, fn_out, fn_boats, fn_waiting, fn_through, fn_side, fn_place, fn_come, fn_sail, fn_is_level, fn_leave, fn_enter, fl_putD, fl_putO, fl_len]
    exact k
end
theorem in_intV (b : Int) : ∀ l : List Int, inV (.int b) (intV l) = decide (b ∈ l)
  | [] => rfl
  | x :: r => by
    have ih := in_intV b r
    unfold inV intV at ih ⊢
    rw [List.map_cons, List.any_cons, ih]
    by_cases e : x = b
    · subst e; simp [eqV]
    · have e' : ¬ b = x := fun z => e z.symm
      simp [eqV, e, e']
theorem in_insV (b : Int) : ∀ l : List (Option Int), inV (.int b) (insV l) = decide (some b ∈ l)
  | [] => rfl
  | none :: r => by
    have ih := in_insV b r
    unfold inV insV at ih ⊢
    rw [List.map_cons, List.any_cons, ih]
    simp [eqV]
  | some x :: r => by
    have ih := in_insV b r
    unfold inV insV at ih ⊢
    rw [List.map_cons, List.any_cons, ih]
    by_cases e : x = b
    · subst e; simp [eqV]
    · have e' : ¬ b = x := fun z => e z.symm
      simp [eqV, e, e']
theorem flat_intV (l : List Int) : (intV l).all flatV = true := by unfold intV; simp [List.all_eq_true, flatV]
theorem flat_insV (l : List (Option Int)) : (insV l).all flatV = true := by
  unfold insV
  rw [List.all_eq_true]
  intro v hv
  obtain ⟨x, _, rfl⟩ := List.mem_map.mp hv
  cases x <;> rfl
theorem find_insV (b : Int) : ∀ {l : List (Option Int)}, some b ∈ l → findV (.int b) (insV l) = some (l.idxOf (some b))
  | [], h => by cases h
  | none :: r, h => by
    have h' : some b ∈ r := by simpa using h
    have ih := find_insV b h'
    unfold insV at ih ⊢
    rw [List.map_cons]
    unfold findV
    rw [if_neg (by simp [eqV]), ih]
    simp [List.idxOf_cons]
  | some x :: r, h => by
    by_cases e : x = b
    · subst e
      unfold insV
      rw [List.map_cons]
      unfold findV
      rw [if_pos (by simp [eqV])]
      simp [List.idxOf_cons]
    · have e' : ¬ b = x := fun z => e z.symm
      have h' : some b ∈ r := by simpa [e, e'] using h
      have ih := find_insV b h'
      unfold insV at ih ⊢
      rw [List.map_cons]
      unfold findV
      rw [if_neg (by simp [eqV, e]), ih]
      have : (some x == some b) = false := by simp [e]
      simp [List.idxOf_cons, this]
theorem len_intV (l : List Int) : (intV l).length = l.length := by unfold intV; simp
theorem len_insV (l : List (Option Int)) : (insV l).length = l.length := by unfold insV; simp
theorem len_sidV (l : List Bool) : (sidV l).length = l.length := by unfold sidV; simp
theorem at_sidV {l : List Bool} {i : Int} (h0 : 0 ≤ i) (h1 : i < l.length) : atI (sidV l) i = some (sid (l.getD i.toNat false)) := by
  unfold atI sidV
  rw [List.length_map, ixN_nat h0 h1]
  have : i.toNat < l.length := by omega
  simp [List.getD, this]
def insOne (x : Option Int) : V := match x with | none => .non | some b => .int b
theorem at_insV {l : List (Option Int)} {i : Int} (h0 : 0 ≤ i) (h1 : i < l.length) : atI (insV l) i = some (insOne (l.getD i.toNat none)) := by
  unfold atI insV
  rw [List.length_map, ixN_nat h0 h1]
  have : i.toNat < l.length := by omega
  simp [List.getD, this]
  rfl
theorem ins_non (x : Option Int) : decide (insOne x = .non) = decide (x = none) := by cases x <;> simp [insOne]
theorem set_insV (l : List (Option Int)) (j : Nat) (b : Option Int) : (insV l).set j (insOne b) = insV (l.set j b) := by unfold insV; rw [List.map_set]; rfl
theorem set_insN (l : List (Option Int)) (j : Nat) : (insV l).set j .non = insV (l.set j none) := set_insV l j none
theorem set_insI (l : List (Option Int)) (j : Nat) (b : Int) : (insV l).set j (.int b) = insV (l.set j (some b)) := set_insV l j (some b)
theorem row_up (x y : Addr) : valV [(Sum.inr (Str.ofString "up"), V.ref x), (Sum.inr (Str.ofString "down"), V.ref y)] ((Sum.inr (Str.ofString "up")) : Key) = some (.ref x) := rfl
theorem row_dn (x y : Addr) : valV [(Sum.inr (Str.ofString "up"), V.ref x), (Sum.inr (Str.ofString "down"), V.ref y)] ((Sum.inr (Str.ofString "down")) : Key) = some (.ref y) := rfl
def FA.w (a : FA) (b : Bool) : Addr := if b then a.d else a.u
theorem row_at (a : FA) (b : Bool) : valV [(Sum.inr (Str.ofString "up"), V.ref a.u), (Sum.inr (Str.ofString "down"), V.ref a.d)] ((Sum.inr (if b then Str.ofString "down" else Str.ofString "up")) : Key) = some (.ref (a.w b)) := by cases b <;> rfl
theorem sid_eq (b : Bool) : sid b = .str (if b then Str.ofString "down" else Str.ofString "up") := by unfold sid; cases b <;> rfl
theorem sid_up (b : Bool) : decide (V.str (if b then Str.ofString "down" else Str.ofString "up") = V.str (Str.ofString "up")) = !b := by cases b <;> decide
theorem sid_dn (b : Bool) : decide (V.str (if b then Str.ofString "down" else Str.ofString "up") = V.str (Str.ofString "down")) = b := by cases b <;> decide
theorem FlAt.rw {t : Adr} {H : Hp} {a : FA} {f : Fl} (F : FlAt t H a f) (b : Bool) : H (a.w b) = some (.lst (intV (f.row b))) := by
  cases b
  · exact F.up
  · exact F.dn
theorem FlAt.setIns {t : Adr} {H : Hp} {a : FA} {f : Fl} (F : FlAt t H a f) (h : List (Option Int)) : FlAt t (upd H a.i (.lst (insV h))) a { f with inside := h } := by
  obtain ⟨⟨_, n1, _⟩, ⟨n2, _⟩, ⟨n3, n4, n5, n6, n7⟩, _⟩ := F.ne
  obtain ⟨⟨dx, h1⟩, h2, h3, h4, h5, h6, h7, h8, h9⟩ := F
  exact ⟨⟨dx, by rw [upd_ne n1]; exact h1⟩, by rw [upd_ne n2]; exact h2, upd_same, by rw [upd_ne n3.symm]; exact h4, by rw [upd_ne n4.symm]; exact h5, by rw [upd_ne n5.symm]; exact h6, by rw [upd_ne n6.symm]; exact h7, by rw [upd_ne n7.symm]; exact h8, h9⟩
theorem FlAt.setGone {t : Adr} {H : Hp} {a : FA} {f : Fl} (F : FlAt t H a f) (h : List Int) : FlAt t (upd H a.g (.lst (intV h))) a { f with gone := h } := by
  obtain ⟨⟨_, _, _, _, _, _, n1⟩, ⟨_, _, _, _, _, n2⟩, ⟨_, _, _, _, n3⟩, ⟨_, _, _, n4⟩, ⟨_, _, n5⟩, ⟨_, n6⟩, n7⟩ := F.ne
  obtain ⟨⟨dx, h1⟩, h2, h3, h4, h5, h6, h7, h8, h9⟩ := F
  exact ⟨⟨dx, by rw [upd_ne n1]; exact h1⟩, by rw [upd_ne n2]; exact h2, by rw [upd_ne n3]; exact h3, by rw [upd_ne n4]; exact h4, by rw [upd_ne n5]; exact h5, by rw [upd_ne n6]; exact h6, by rw [upd_ne n7]; exact h7, upd_same, h9⟩
theorem FlAt.setSides {t : Adr} {H : Hp} {a : FA} {f : Fl} (F : FlAt t H a f) (h : List Bool) : FlAt t (upd H a.s (.lst (sidV h))) a { f with sides := h } := by
  obtain ⟨⟨_, _, _, _, _, n1, _⟩, ⟨_, _, _, _, n2, _⟩, ⟨_, _, _, n3, _⟩, ⟨_, _, n4, _⟩, ⟨_, n5, _⟩, ⟨n6, _⟩, n7⟩ := F.ne
  obtain ⟨⟨dx, h1⟩, h2, h3, h4, h5, h6, h7, h8, h9⟩ := F
  exact ⟨⟨dx, by rw [upd_ne n1]; exact h1⟩, by rw [upd_ne n2]; exact h2, by rw [upd_ne n3]; exact h3, by rw [upd_ne n4]; exact h4, by rw [upd_ne n5]; exact h5, by rw [upd_ne n6]; exact h6, upd_same, by rw [upd_ne n7.symm]; exact h8, h9⟩
theorem FlAt.setUp {t : Adr} {H : Hp} {a : FA} {f : Fl} (F : FlAt t H a f) (h : List Int) : FlAt t (upd H a.u (.lst (intV h))) a { f with up := h } := by
  obtain ⟨⟨_, _, _, n1, _, _, _⟩, ⟨_, _, n2, _, _, _⟩, ⟨_, n3, _, _, _⟩, ⟨n4, _, _, _⟩, ⟨n5, n6, n7⟩, _⟩ := F.ne
  obtain ⟨⟨dx, h1⟩, h2, h3, h4, h5, h6, h7, h8, h9⟩ := F
  exact ⟨⟨dx, by rw [upd_ne n1]; exact h1⟩, by rw [upd_ne n2]; exact h2, by rw [upd_ne n3]; exact h3, by rw [upd_ne n4]; exact h4, upd_same, by rw [upd_ne n5.symm]; exact h6, by rw [upd_ne n6.symm]; exact h7, by rw [upd_ne n7.symm]; exact h8, h9⟩
theorem FlAt.setDn {t : Adr} {H : Hp} {a : FA} {f : Fl} (F : FlAt t H a f) (h : List Int) : FlAt t (upd H a.d (.lst (intV h))) a { f with down := h } := by
  obtain ⟨⟨_, _, _, _, n1, _, _⟩, ⟨_, _, _, n2, _, _⟩, ⟨_, _, n3, _, _⟩, ⟨_, n4, _, _⟩, ⟨n5, _, _⟩, ⟨n6, n7⟩, _⟩ := F.ne
  obtain ⟨⟨dx, h1⟩, h2, h3, h4, h5, h6, h7, h8, h9⟩ := F
  exact ⟨⟨dx, by rw [upd_ne n1]; exact h1⟩, by rw [upd_ne n2]; exact h2, by rw [upd_ne n3]; exact h3, by rw [upd_ne n4]; exact h4, by rw [upd_ne n5]; exact h5, upd_same, by rw [upd_ne n6.symm]; exact h7, by rw [upd_ne n7.symm]; exact h8, h9⟩
def setRow (f : Fl) (b : Bool) (h : List Int) : Fl := if b then { f with down := h } else { f with up := h }
theorem FlAt.setRow {t : Adr} {H : Hp} {a : FA} {f : Fl} (F : FlAt t H a f) (b : Bool) (h : List Int) : FlAt t (upd H (a.w b) (.lst (intV h))) a (setRow f b h) := by
  cases b
  · exact F.setUp h
  · exact F.setDn h
theorem mw (a : FA) (b : Bool) : a.w b ∈ a.foot := by cases b <;> simp [FA.foot, FA.w]
theorem mi (a : FA) : a.i ∈ a.foot := by simp [FA.foot]
theorem mg' (a : FA) : a.g ∈ a.foot := by simp [FA.foot]
theorem ms (a : FA) : a.s ∈ a.foot := by simp [FA.foot]
section
variable {P : Program} {w : World} {K : PySem.W.Frag} {mg : Str → Option Value} {base : Heap} {t : Adr}
theorem sc_through : FnScope ["self"] ["self"] (defScope s_through) := ⟨rfl, rfl, rfl, by decide +kernel, rfl, by decide +kernel, by decide +kernel⟩
set_option maxHeartbeats 800000 in
theorem ok_through (T : Txt w K mg t) : FnOk P w K mg base (CXe P w) 1 t.f_through t.d_through ["self"] (sp_new t fun f => intV f.gone) := by
  refine okX T.F_through sc_through (fun vs H Q E h => ?_) (fun cdv A outer s H vs Q E hr h => ?_)
  · obtain ⟨a, f, rfl, _⟩ := h; rfl
  · obtain ⟨a, f, rfl, hF, k⟩ := h
    obtain ⟨⟨dx, h1⟩, h2, h3, h4, h5, h6, h7, h8, h9⟩ := id hF
    refine ⟨_, (pss_one (ps_ret (pe_callTy cu_list rfl T.z_list PyProof.Rows.boot_list (pa_cons (eu_fldK (K := K) rfl (pu 0)) pa_nil)))), ?_⟩
    simp_arith [tSeq, h1, h2, T.cl, T.n_high, T.n_inside, T.n_rows, T.n_sides, T.n_gone, T.n_lockfuls_drawn, T.n_lockfuls_out, fl_high, fl_drawn, fl_out, fn_summit, fn_is_chamber, fn_can_give, fn_can_take, fn_give, fn_take, fn_let, fn_levels, fn_drawn, fn_out, fn_boats, fn_waiting, fn_through, fn_side, fn_place, fn_come, fn_sail, fn_is_level, fn_leave, fn_enter, fl_putD, fl_putO, fl_len, h8, fl_gone]
    exact k
theorem sc_boats : FnScope ["self"] ["self"] (defScope s_boats) := ⟨rfl, rfl, rfl, by decide +kernel, rfl, by decide +kernel, by decide +kernel⟩
set_option maxHeartbeats 800000 in
theorem ok_boats (T : Txt w K mg t) : FnOk P w K mg base (CXe P w) 1 t.f_boats t.d_boats ["self"] (sp_new t fun f => insV f.inside) := by
  refine okX T.F_boats sc_boats (fun vs H Q E h => ?_) (fun cdv A outer s H vs Q E hr h => ?_)
  · obtain ⟨a, f, rfl, _⟩ := h; rfl
  · obtain ⟨a, f, rfl, hF, k⟩ := h
    obtain ⟨⟨dx, h1⟩, h2, h3, h4, h5, h6, h7, h8, h9⟩ := id hF
    refine ⟨_, (pss_one (ps_ret (pe_callTy cu_list rfl T.z_list PyProof.Rows.boot_list (pa_cons (eu_fldK (K := K) rfl (pu 0)) pa_nil)))), ?_⟩
    simp_arith [tSeq, h1, h2, T.cl, T.n_high, T.n_inside, T.n_rows, T.n_sides, T.n_gone, T.n_lockfuls_drawn, T.n_lockfuls_out, fl_high, fl_drawn, fl_out, fn_summit, fn_is_chamber, fn_can_give, fn_can_take, fn_give, fn_take, fn_let, fn_levels, fn_drawn, fn_out, fn_boats, fn_waiting, fn_through, fn_side, fn_place, fn_come, fn_sail, fn_is_level, fn_leave, fn_enter, fl_putD, fl_putO, fl_len, h3, fl_inside]
    exact k
inductive sp_wait (t : Adr) (vs : List V) (H : Hp) (Q : VK) (E_ : XK) : Prop
  | mk (a : FA) (f : Fl) (b : Bool) (z0 : vs = [.ref a.p, sid b]) (z1 : FlAt t H a f) (z2 : ∀ l, H l = none → Q (.ref l) (upd H l (.lst (intV (f.row b))))) : sp_wait t vs H Q E_
theorem sc_waiting : FnScope ["self", "side"] ["self", "side"] (defScope s_waiting) := ⟨rfl, rfl, rfl, by decide +kernel, rfl, by decide +kernel, by decide +kernel⟩
set_option maxHeartbeats 800000 in
theorem ok_waiting (T : Txt w K mg t) : FnOk P w K mg base (CXe P w) 1 t.f_waiting t.d_waiting ["self", "side"] (sp_wait t) := by
  refine okX T.F_waiting sc_waiting (fun vs H Q E h => ?_) (fun cdv A outer s H vs Q E hr h => ?_)
  · obtain ⟨a, f, b, rfl, _⟩ := h; rfl
  · obtain ⟨a, f, b, rfl, hF, k⟩ := h
    have hu1 := hu_of hr
    obtain ⟨⟨dx, h1⟩, h2, h3, h4, h5, h6, h7, h8, h9⟩ := id hF
    have hw := hF.rw b
    refine ⟨_, (pss_one (ps_ret (pe_callTy cu_list rfl T.z_list PyProof.Rows.boot_list (pa_cons (eu_dget hu1 (eu_fldK (K := K) rfl (pu 0)) (pu 1)) pa_nil)))), ?_⟩
    simp_arith [tSeq, h1, h2, T.cl, T.n_high, T.n_inside, T.n_rows, T.n_sides, T.n_gone, T.n_lockfuls_drawn, T.n_lockfuls_out, fl_high, fl_drawn, fl_out, fn_summit, fn_is_chamber, fn_can_give, fn_can_take, fn_give, fn_take, fn_let, fn_levels, fn_drawn, fn_out, fn_boats, fn_waiting, fn_through, fn_side, fn_place, fn_come, fn_sail, fn_is_level, fn_leave, fn_enter, fl_putD, fl_putO, fl_len, sid_eq, h4, fl_rows, row_at, hw]
    exact k
inductive sp_side (t : Adr) (vs : List V) (H : Hp) (Q : VK) (E : XK) : Prop
  | mk (a : FA) (f : Fl) (b : Int) (z0 : vs = [.ref a.p, .int b]) (z1 : FlAt t H a f) (z2 : (if b < 0 ∨ (f.sides.length : Int) ≤ b then E (.ref t.c_NoBoat) none H else Q (sid (f.side b)) H)) : sp_side t vs H Q E
theorem sc_side : FnScope ["self", "boat"] ["self", "boat"] (defScope s_side) := ⟨rfl, rfl, rfl, by decide +kernel, rfl, by decide +kernel, by decide +kernel⟩
set_option maxHeartbeats 800000 in
theorem ok_side (T : Txt w K mg t) : FnOk P w K mg base (CXe P w) 1 t.f_side t.d_side ["self", "boat"] (sp_side t) := by
  refine okX T.F_side sc_side (fun vs H Q E h => ?_) (fun cdv A outer s H vs Q E hr h => ?_)
  · obtain ⟨a, f, b, rfl, _⟩ := h; rfl
  · obtain ⟨a, f, b, rfl, hF, k⟩ := h
    obtain ⟨⟨dx, h1⟩, h2, h3, h4, h5, h6, h7, h8, h9⟩ := id hF
    refine ⟨_, (pss_cons (ps_if (PW.pt (pw_or (tu_cmp ou_lt (pu 1) pe_int (nomark _)) (pw_or1 (tu_cmp ou_ge (pu 1) (pe_callB cu_len rfl T.z_len PySem.boot_len (pa_cons (eu_fldK (K := K) rfl (pu 0)) pa_nil)) (nomark _))))) (pss_one (ps_raise raiseB rfl T.x_NoBoat PySem.F.excBase_ValueError rfl T.g_NoBoat (pa_cons pe_str pa_nil))) pss_nil)
 (pss_one (ps_ret (eu_ix xu_seq (eu_fldK (K := K) rfl (pu 0)) (pu 1))))), ?_⟩
    simp only [tSeq]
    simp_arith [h1, h2, T.cl, T.n_high, T.n_inside, T.n_rows, T.n_sides, T.n_gone, T.n_lockfuls_drawn, T.n_lockfuls_out, fl_high, fl_drawn, fl_out, fn_summit, fn_is_chamber, fn_can_give, fn_can_take, fn_give, fn_take, fn_let, fn_levels, fn_drawn, fn_out, fn_boats, fn_waiting, fn_through, fn_side, fn_place, fn_come, fn_sail, fn_is_level, fn_leave, fn_enter, fl_putD, fl_putO, fl_len, h7, fl_sides, len_sidV, tRaise]
    by_cases c0 : b < 0
    · rw [if_pos (.inl c0)] at k
      simp only [c0, decide_true, if_true]
      exact ⟨by decide, k⟩
    · by_cases c1 : (f.sides.length : Int) ≤ b
      · rw [if_pos (.inr c1)] at k
        simp only [c0, c1, decide_true, decide_false, if_true, Bool.false_eq_true, if_false]
        exact ⟨by decide, k⟩
      · rw [if_neg (by omega)] at k
        simp only [c0, c1, decide_false, Bool.false_eq_true, if_false]
        rw [at_sidV (by omega) (by omega)]
        simp only [give_p, true_and]
        exact k
inductive sp_plc (t : Adr) (vs : List V) (H : Hp) (Q : VK) (E : XK) : Prop
  | mk (a : FA) (f : Fl) (b : Int) (z0 : vs = [.ref a.p, .int b]) (z1 : FlAt t H a f) (z2 : f.inside.length ≤ 1000) (z3 : (match f.place? b with | none => E (.ref t.c_NoBoat) none H | some p => Q (.int p) H)) : sp_plc t vs H Q E
theorem sc_place : FnScope ["self", "boat"] ["self", "boat"] (defScope s_place) := ⟨rfl, rfl, rfl, by decide +kernel, rfl, by decide +kernel, by decide +kernel⟩
set_option maxHeartbeats 800000 in
theorem ok_place (T : Txt w K mg t) : FnOk P w K mg base (CXe P w) 2 t.f_place t.d_place ["self", "boat"] (sp_plc t) := by
  have G_summit := ok_summit (P := P) (w := w) (base := base) T
  refine okX T.F_place sc_place (fun vs H Q E h => ?_) (fun cdv A outer s H vs Q E hr h => ?_)
  · obtain ⟨a, f, b, rfl, _⟩ := h; rfl
  · obtain ⟨a, f, b, rfl, hF, hz, k⟩ := h
    have hu1 := hu_of hr
    obtain ⟨⟨dx, h1⟩, h2, h3, h4, h5, h6, h7, h8, h9⟩ := id hF
    refine ⟨_, (pss_cons (ps_if (tu_cmp ou_in (pu 1) (eu_dget hu1 (eu_fldK (K := K) rfl (pu 0)) pe_str) rfl) (pss_one (ps_ret pe_int)) pss_nil)
 (pss_cons (ps_if (tu_cmp ou_in (pu 1) (eu_dget hu1 (eu_fldK (K := K) rfl (pu 0)) pe_str) rfl) (pss_one (ps_ret (eu_meth0 (pu 0) T.cl T.m_summit G_summit (hr.mono (by decide)) T.b_summit passB))) pss_nil)
 (pss_cons (ps_if (tu_cmp ou_in (pu 1) (eu_fldK (K := K) rfl (pu 0)) rfl) (pss_one (ps_ret (pe_op ou_add (eu_lm PySem.F.slot_list_index PySem.F.type_list_index mu_index (eu_fldK (K := K) rfl (pu 0)) (pa_cons (pu 1) pa_nil)) pe_int))) pss_nil)
 (pss_one (ps_raise raiseB rfl T.x_NoBoat PySem.F.excBase_ValueError rfl T.g_NoBoat (pa_cons pe_str pa_nil)))))), ?_⟩
    unfold Fl.place? at k
    refine seqG fun R hR => ?_
    refine ifG fun T1 U1 hT1 hU1 => ?_
    try simp_arith [h1, T.cl, T.n_rows, h4, h5, fl_rows, row_up, row_dn, flatV, flat_intV, in_intV]
    by_cases c0 : b ∈ f.up
    · rw [if_pos c0] at k
      rw [if_pos (decide_eq_true c0)]
      subst hT1
      try simp_arith [true_and]
      exact k
    · rw [if_neg c0] at k
      rw [if_neg (fun z => c0 (of_decide_eq_true z))]
      subst hU1
      try simp_arith [true_and]
      subst hR
      refine seqG fun R hR => ?_
      refine ifG fun T1 U1 hT1 hU1 => ?_
      try simp_arith [h1, T.cl, T.n_rows, h4, h6, fl_rows, row_up, row_dn, flatV, flat_intV, in_intV]
      by_cases c1 : b ∈ f.down
      · rw [if_pos c1] at k
        rw [if_pos (decide_eq_true c1)]
        subst hT1
        try simp_arith [h1, fn_summit, fn_is_chamber, fn_can_give, fn_can_take, fn_give, fn_take, fn_let, fn_levels, fn_drawn, fn_out, fn_boats, fn_waiting, fn_through, fn_side, fn_place, fn_come, fn_sail, fn_is_level, fn_leave, fn_enter]
        exact ⟨a, f, rfl, hF, k⟩
      · rw [if_neg c1] at k
        rw [if_neg (fun z => c1 (of_decide_eq_true z))]
        subst hU1
        try simp_arith [true_and]
        subst hR
        refine seqG fun R hR => ?_
        refine ifG fun T1 U1 hT1 hU1 => ?_
        try simp_arith [h1, T.cl, T.n_inside, h3, fl_inside, flatV, flat_insV, in_insV]
        by_cases c2 : some b ∈ f.inside
        · rw [if_pos c2] at k
          rw [if_pos (decide_eq_true c2)]
          subst hT1
          try simp_arith [h1, T.cl, T.n_inside, h3, fl_inside, flatV, flat_insV, find_insV b c2]
          exact k
        · rw [if_neg c2] at k
          rw [if_neg (fun z => c2 (of_decide_eq_true z))]
          subst hU1
          try simp_arith [true_and]
          subst hR
          try simp_arith [tRaise]
          exact ⟨by decide, k⟩
theorem sc_is_level : FnScope ["self", "gate"] ["self", "gate"] (defScope s_is_level) := ⟨rfl, rfl, rfl, by decide +kernel, rfl, by decide +kernel, by decide +kernel⟩
set_option maxHeartbeats 800000 in
theorem ok_is_level (T : Txt w K mg t) : FnOk P w K mg base (CXe P w) 4 t.f_is_level t.d_is_level ["self", "gate"] (sp_place t fun f p => .bl (Lf.level f.high p)) := by
  have G_can_give := ok_can_give (P := P) (w := w) (base := base) T
  have G_can_take := ok_can_take (P := P) (w := w) (base := base) T
  refine okX T.F_is_level sc_is_level (fun vs H Q E h => ?_) (fun cdv A outer s H vs Q E hr h => ?_)
  · obtain ⟨a, f, p, rfl, _⟩ := h; rfl
  · obtain ⟨a, f, p, rfl, hF, k⟩ := h
    obtain ⟨⟨dx, h1⟩, h2, _⟩ := id hF
    refine ⟨_, (pss_one (ps_ret (eu_and (eu_meth (pu 0) T.cl T.m_can_give G_can_give (hr.mono (by decide)) T.b_can_give passB (pa_cons (pu 1) pa_nil)) (pe_one (eu_meth (pu 0) T.cl T.m_can_take G_can_take (hr.mono (by decide)) T.b_can_take passB (pa_cons (pe_op ou_add (pu 1) pe_int) pa_nil)))))), ?_⟩
    simp_arith [tSeq, h1, h2, T.cl, T.n_high, T.n_inside, T.n_rows, T.n_sides, T.n_gone, T.n_lockfuls_drawn, T.n_lockfuls_out, fl_high, fl_drawn, fl_out, fn_summit, fn_is_chamber, fn_can_give, fn_can_take, fn_give, fn_take, fn_let, fn_levels, fn_drawn, fn_out, fn_boats, fn_waiting, fn_through, fn_side, fn_place, fn_come, fn_sail, fn_is_level, fn_leave, fn_enter, fl_putD, fl_putO, fl_len]
    refine ⟨a, f, p, rfl, hF, ?_⟩
    try dsimp only at k
    unfold Lf.level at k
    cases c : Lf.canGive f.high p with
    | true =>
      rw [c] at k
      simp_arith [tSeq, h1, h2, T.cl, T.n_high, T.n_inside, T.n_rows, T.n_sides, T.n_gone, T.n_lockfuls_drawn, T.n_lockfuls_out, fl_high, fl_drawn, fl_out, fn_summit, fn_is_chamber, fn_can_give, fn_can_take, fn_give, fn_take, fn_let, fn_levels, fn_drawn, fn_out, fn_boats, fn_waiting, fn_through, fn_side, fn_place, fn_come, fn_sail, fn_is_level, fn_leave, fn_enter, fl_putD, fl_putO, fl_len, c]
      refine ⟨a, f, p + 1, rfl, hF, ?_⟩
      simpa using k
    | false =>
      rw [c] at k
      simp_arith [tSeq, h1, h2, T.cl, T.n_high, T.n_inside, T.n_rows, T.n_sides, T.n_gone, T.n_lockfuls_drawn, T.n_lockfuls_out, fl_high, fl_drawn, fl_out, fn_summit, fn_is_chamber, fn_can_give, fn_can_take, fn_give, fn_take, fn_let, fn_levels, fn_drawn, fn_out, fn_boats, fn_waiting, fn_through, fn_side, fn_place, fn_come, fn_sail, fn_is_level, fn_leave, fn_enter, fl_putD, fl_putO, fl_len, c]
      simpa using k
inductive sp_lv (t : Adr) (vs : List V) (H : Hp) (Q : VK) (E_ : XK) : Prop
  | mk (a : FA) (f : Fl) (p : Int) (b : Bool) (z0 : vs = [.ref a.p, .int p, sid b]) (z1 : FlAt t H a f) (z2 : f.inside.length = f.high.length) (z3 : (isCh f.high.length p = false → f.row b ≠ [])) (z4 : ∀ H', FlAt t H' a (f.leave p b) → But a.foot H H' → Q .non H') : sp_lv t vs H Q E_
theorem sc_leave : FnScope ["self", "place", "side"] ["self", "place", "side"] (defScope s_leave) := ⟨rfl, rfl, rfl, by decide +kernel, rfl, by decide +kernel, by decide +kernel⟩
set_option maxHeartbeats 800000 in
theorem ok_leave (T : Txt w K mg t) : FnOk P w K mg base (CXe P w) 3 t.f_leave t.d_leave ["self", "place", "side"] (sp_lv t) := by
  have G_is_chamber := ok_is_chamber (P := P) (w := w) (base := base) T
  refine okX T.F_leave sc_leave (fun vs H Q E h => ?_) (fun cdv A outer s H vs Q E hr h => ?_)
  · obtain ⟨a, f, p, b, rfl, _⟩ := h; rfl
  · obtain ⟨a, f, p, b, rfl, hF, hz, hn, k⟩ := h
    have hu1 := hu_of hr
    obtain ⟨⟨dx, h1⟩, h2, h3, h4, h5, h6, h7, h8, h9⟩ := id hF
    have hw := hF.rw b
    refine ⟨_, (pss_one (ps_if (tu_val (eu_meth (pu 0) T.cl T.m_is_chamber G_is_chamber (hr.mono (by decide)) T.b_is_chamber passB (pa_cons (pu 1) pa_nil))) (pss_one (su_lput (eu_fldK (K := K) rfl (pu 0)) (pe_op ou_sub (pu 1) pe_int) pe_non)) (pss_one (ps_expr (eu_lm PySem.F.slot_list_pop PySem.F.type_list_pop mu_pop0 (eu_dget hu1 (eu_fldK (K := K) rfl (pu 0)) (pu 2)) (pa_cons pe_int pa_nil)))))), ?_⟩
    refine ifG fun T1 U1 hT1 hU1 => ?_
    try simp_arith [h1, fn_summit, fn_is_chamber, fn_can_give, fn_can_take, fn_give, fn_take, fn_let, fn_levels, fn_drawn, fn_out, fn_boats, fn_waiting, fn_through, fn_side, fn_place, fn_come, fn_sail, fn_is_level, fn_leave, fn_enter]
    refine ⟨a, f, p, rfl, hF, ?_⟩
    unfold Fl.leave at k
    cases c : isCh f.high.length p with
    | true =>
      have c' : 0 < p ∧ p < (f.high.length : Int) + 1 := by simpa [isCh] using c
      simp only [c, if_true] at k
      try simp_arith [c]
      subst hT1
      try simp_arith [h1, h3, T.cl, T.n_inside, fl_inside]
      rw [len_insV, ixN_nat (by omega) (by omega)]
      simp only [set_insN]
      exact k _ (hF.setIns _) (But.upd (mi a))
    | false =>
      simp only [c, Bool.false_eq_true, if_false] at k
      try simp_arith [c]
      subst hU1
      try simp_arith [h1, T.cl, T.n_rows, h4, fl_rows, row_at, sid_eq, hw]
      cases e : f.row b with
      | nil => exact absurd e (hn c)
      | cons x r =>
        rw [e] at hw
        simp only [intV, List.map_cons]
        refine k _ ?_ (But.upd (mw a b))
        have := hF.setRow b r
        cases b
        · have e' : f.up = x :: r := e
          simp only [Bool.false_eq_true, if_false, e', List.drop_succ_cons, List.drop_zero]; exact this
        · have e' : f.down = x :: r := e
          simp only [if_true, e', List.drop_succ_cons, List.drop_zero]; exact this
inductive sp_en (t : Adr) (vs : List V) (H : Hp) (Q : VK) (E_ : XK) : Prop
  | mk (a : FA) (f : Fl) (p b : Int) (z0 : vs = [.ref a.p, .int p, .int b]) (z1 : FlAt t H a f) (z2 : f.inside.length = f.high.length) (z3 : f.gone.length ≤ 1000) (z4 : ∀ H', FlAt t H' a (f.enter p b) → But a.foot H H' → Q .non H') : sp_en t vs H Q E_
theorem app_intV (l : List Int) (b : Int) : intV l ++ [.int b] = intV (l ++ [b]) := by unfold intV; simp
theorem app_sidV (l : List Bool) (b : Bool) : sidV l ++ [sid b] = sidV (l ++ [b]) := by unfold sidV; simp
theorem sc_enter : FnScope ["self", "place", "boat"] ["self", "place", "boat"] (defScope s_enter) := ⟨rfl, rfl, rfl, by decide +kernel, rfl, by decide +kernel, by decide +kernel⟩
set_option maxHeartbeats 800000 in
theorem ok_enter (T : Txt w K mg t) : FnOk P w K mg base (CXe P w) 3 t.f_enter t.d_enter ["self", "place", "boat"] (sp_en t) := by
  have G_is_chamber := ok_is_chamber (P := P) (w := w) (base := base) T
  refine okX T.F_enter sc_enter (fun vs H Q E h => ?_) (fun cdv A outer s H vs Q E hr h => ?_)
  · obtain ⟨a, f, p, b, rfl, _⟩ := h; rfl
  · obtain ⟨a, f, p, b, rfl, hF, hz, hg, k⟩ := h
    have hu1 := hu_of hr
    obtain ⟨⟨dx, h1⟩, h2, h3, h4, h5, h6, h7, h8, h9⟩ := id hF
    refine ⟨_, (pss_one (ps_if (tu_val (eu_meth (pu 0) T.cl T.m_is_chamber G_is_chamber (hr.mono (by decide)) T.b_is_chamber passB (pa_cons (pu 1) pa_nil))) (pss_one (su_lput (eu_fldK (K := K) rfl (pu 0)) (pe_op ou_sub (pu 1) pe_int) (pu 2))) (pss_one (ps_expr (eu_lm PySem.F.slot_list_append PySem.F.type_list_append mu_append (eu_fldK (K := K) rfl (pu 0)) (pa_cons (pu 2) pa_nil)))))), ?_⟩
    refine ifG fun T1 U1 hT1 hU1 => ?_
    try simp_arith [h1, fn_summit, fn_is_chamber, fn_can_give, fn_can_take, fn_give, fn_take, fn_let, fn_levels, fn_drawn, fn_out, fn_boats, fn_waiting, fn_through, fn_side, fn_place, fn_come, fn_sail, fn_is_level, fn_leave, fn_enter]
    refine ⟨a, f, p, rfl, hF, ?_⟩
    unfold Fl.enter at k
    cases c : isCh f.high.length p with
    | true =>
      have c' : 0 < p ∧ p < (f.high.length : Int) + 1 := by simpa [isCh] using c
      simp only [c, if_true] at k
      try simp_arith [c]
      subst hT1
      try simp_arith [h1, h3, T.cl, T.n_inside, fl_inside]
      rw [len_insV, ixN_nat (by omega) (by omega)]
      simp only [set_insI]
      exact k _ (hF.setIns _) (But.upd (mi a))
    | false =>
      simp only [c, Bool.false_eq_true, if_false] at k
      try simp_arith [c]
      subst hU1
      try simp_arith [h1, T.cl, T.n_gone, h8, fl_gone]
      refine ⟨by rw [len_intV]; exact Nat.lt_of_le_of_lt hg (by decide), ?_⟩
      rw [app_intV]
      exact k _ (hF.setGone _) (But.upd (mg' a))
inductive sp_come (t : Adr) (vs : List V) (H : Hp) (Q : VK) (E_ : XK) : Prop
  | mk (a : FA) (f : Fl) (b : Bool) (z0 : vs = [.ref a.p, sid b]) (z1 : FlAt t H a f) (z2 : f.sides.length ≤ 1000) (z3 : (f.row b).length ≤ 1000) (z4 : ∀ H', FlAt t H' a (f.come b) → But a.foot H H' → Q (.int f.sides.length) H') : sp_come t vs H Q E_
theorem sc_come : FnScope ["self", "side", "boat"] ["self", "side"] (defScope s_come) := ⟨rfl, rfl, rfl, by decide +kernel, rfl, by decide +kernel, by decide +kernel⟩
set_option maxHeartbeats 800000 in
theorem ok_come (T : Txt w K mg t) : FnOk P w K mg base (CXe P w) 1 t.f_come t.d_come ["self", "side"] (sp_come t) := by
  refine okX T.F_come sc_come (fun vs H Q E h => ?_) (fun cdv A outer s H vs Q E hr h => ?_)
  · obtain ⟨a, f, b, rfl, _⟩ := h; rfl
  · obtain ⟨a, f, b, rfl, hF, hz, hg, k⟩ := h
    have hu1 := hu_of hr
    obtain ⟨⟨dx, h1⟩, h2, h3, h4, h5, h6, h7, h8, h9⟩ := id hF
    refine ⟨_, (pss_cons (ps_set (i := 2) sc_come.nd rfl (Or.inl rfl) (pe_callB cu_len rfl T.z_len PySem.boot_len (pa_cons (eu_fldK (K := K) rfl (pu 0)) pa_nil)))
 (pss_cons (ps_expr (eu_lm PySem.F.slot_list_append PySem.F.type_list_append mu_append (eu_fldK (K := K) rfl (pu 0)) (pa_cons (pu 1) pa_nil)))
 (pss_cons (ps_expr (eu_lm PySem.F.slot_list_append PySem.F.type_list_append mu_append (eu_dget hu1 (eu_fldK (K := K) rfl (pu 0)) (pu 1)) (pa_cons (pu 2) pa_nil)))
 (pss_one (ps_ret (pu 2)))))), ?_⟩
    simp only [tSeq]
    simp_arith [h1, h2, T.cl, T.n_high, T.n_inside, T.n_rows, T.n_sides, T.n_gone, T.n_lockfuls_drawn, T.n_lockfuls_out, fl_high, fl_drawn, fl_out, fn_summit, fn_is_chamber, fn_can_give, fn_can_take, fn_give, fn_take, fn_let, fn_levels, fn_drawn, fn_out, fn_boats, fn_waiting, fn_through, fn_side, fn_place, fn_come, fn_sail, fn_is_level, fn_leave, fn_enter, fl_putD, fl_putO, fl_len, h7, fl_sides, len_sidV]
    simp only [tSeq]
    simp_arith [h1, h2, T.cl, T.n_high, T.n_inside, T.n_rows, T.n_sides, T.n_gone, T.n_lockfuls_drawn, T.n_lockfuls_out, fl_high, fl_drawn, fl_out, fn_summit, fn_is_chamber, fn_can_give, fn_can_take, fn_give, fn_take, fn_let, fn_levels, fn_drawn, fn_out, fn_boats, fn_waiting, fn_through, fn_side, fn_place, fn_come, fn_sail, fn_is_level, fn_leave, fn_enter, fl_putD, fl_putO, fl_len, h7, fl_sides, len_sidV]
    refine ⟨Nat.lt_of_le_of_lt hz (by decide), ?_⟩
    rw [app_sidV]
    have F2 := hF.setSides (f.sides ++ [b])
    have b2 : But a.foot H (upd H a.s (.lst (sidV (f.sides ++ [b])))) := But.upd (ms a)
    generalize upd H a.s (.lst (sidV (f.sides ++ [b]))) = H2 at *
    obtain ⟨⟨dx2, g1⟩, g2, g3, g4, g5, g6, g7, g8, g9⟩ := id F2
    have hw := F2.rw b
    simp only [tSeq]
    simp_arith [h1, h2, T.cl, T.n_high, T.n_inside, T.n_rows, T.n_sides, T.n_gone, T.n_lockfuls_drawn, T.n_lockfuls_out, fl_high, fl_drawn, fl_out, fn_summit, fn_is_chamber, fn_can_give, fn_can_take, fn_give, fn_take, fn_let, fn_levels, fn_drawn, fn_out, fn_boats, fn_waiting, fn_through, fn_side, fn_place, fn_come, fn_sail, fn_is_level, fn_leave, fn_enter, fl_putD, fl_putO, fl_len, g1, g4, hw, sid_eq, fl_rows, row_at, len_intV]
    refine ⟨Nat.lt_of_le_of_lt hg (by decide), ?_⟩
    rw [app_intV]
    refine k _ ?_ (b2.trans (But.upd (mw a b)))
    have F3 := F2.setRow b (Fl.row { f with sides := f.sides ++ [b] } b ++ [(f.sides.length : Int)])
    cases b
    · exact F3
    · exact F3
end
structure WF (f : Fl) : Prop where
  len : f.inside.length = f.high.length
  up : ∀ b ∈ f.up, (0 ≤ b ∧ b < (f.sides.length : Int)) ∧ f.side b = false
  dn : ∀ b ∈ f.down, (0 ≤ b ∧ b < (f.sides.length : Int)) ∧ f.side b = true
  ins : ∀ b, some b ∈ f.inside → 0 ≤ b ∧ b < (f.sides.length : Int)
  sz : f.high.length ≤ 1000
  gz : f.gone.length ≤ 1000
theorem min_if (i j : Int) : (if j < i then j else i) = min i j := by
  by_cases h : j < i
  · rw [if_pos h]; omega
  · rw [if_neg h]; omega
theorem WF.side {f : Fl} (W : WF f) {b here : Int} (h : f.place? b = some here) : (0 ≤ b ∧ b < (f.sides.length : Int)) ∧ (isCh f.high.length here = false → b ∈ f.row (f.side b)) ∧ 0 ≤ here ∧ here ≤ (f.high.length : Int) + 1 := by
  unfold Fl.place? at h
  split at h
  · rename_i c
    cases h
    obtain ⟨a, e⟩ := W.up b c
    exact ⟨a, fun _ => by rw [e]; exact c, by omega, by omega⟩
  · split at h
    · rename_i c
      cases h
      obtain ⟨a, e⟩ := W.dn b c
      exact ⟨a, fun _ => by rw [e]; exact c, by omega, by omega⟩
    · split at h
      · rename_i c
        cases h
        have hl : f.inside.idxOf (some b) < f.inside.length := List.idxOf_lt_length_iff.mpr c
        have := W.len
        refine ⟨W.ins b c, fun z => ?_, by omega, by omega⟩
        rw [isCh_true (by omega) (by omega)] at z
        cases z
      · cases h
theorem at_head (x : Int) (r : List Int) : atI (intV (x :: r)) 0 = some (.int x) := by unfold atI intV; rw [ixN_nat (by decide) (by simp)]; rfl
theorem join3 {c d A R : Prop} [Decidable c] (h1 : c → ¬ d → R → A) (h2 : c → d → A) (h3 : ¬ (c ∧ d) → R) : if c then A else R := by
  by_cases hc : c
  · rw [if_pos hc]
    by_cases hd : d
    · exact h2 hc hd
    · exact h1 hc hd (h3 fun z => hd z.2)
  · rw [if_neg hc]; exact h3 fun z => hc z.1
section
variable {P : Program} {w : World} {K : PySem.W.Frag} {mg : Str → Option Value} {base : Heap} {t : Adr}
inductive sp_sail (t : Adr) (vs : List V) (H : Hp) (Q : VK) (E : XK) : Prop
  | mk (a : FA) (f : Fl) (b : Int) (z0 : vs = [.ref a.p, .int b]) (z1 : FlAt t H a f) (z2 : WF f) (z3 : (match f.sailOut b with | .noBoat => E (.ref t.c_NoBoat) none H | .notFirst => E (.ref t.c_NotFirst) none H | .shut => E (.ref t.c_Shut) none H | .occupied => E (.ref t.c_Occupied) none H | .done => ∀ H' here, f.place? b = some here → FlAt t H' a (f.sail b here) → But a.foot H H' → Q (.int (stepOf (f.side b) here)) H')) : sp_sail t vs H Q E
theorem sc_sail : FnScope ["self", "boat", "here", "side", "there"] ["self", "boat"] (defScope s_sail) := ⟨rfl, rfl, rfl, by decide +kernel, rfl, by decide +kernel, by decide +kernel⟩
set_option maxHeartbeats 800000 in
theorem ok_sail (T : Txt w K mg t) : FnOk P w K mg base (CXe P w) 5 t.f_sail t.d_sail ["self", "boat"] (sp_sail t) := by
  have G_place := ok_place (P := P) (w := w) (base := base) T
  have G_side := ok_side (P := P) (w := w) (base := base) T
  have G_is_level := ok_is_level (P := P) (w := w) (base := base) T
  have G_is_chamber := ok_is_chamber (P := P) (w := w) (base := base) T
  have G_leave := ok_leave (P := P) (w := w) (base := base) T
  have G_enter := ok_enter (P := P) (w := w) (base := base) T
  refine okX T.F_sail sc_sail (fun vs H Q E h => ?_) (fun cdv A outer s H vs Q E hr h => ?_)
  · obtain ⟨a, f, b, rfl, _⟩ := h; rfl
  · obtain ⟨a, f, b, rfl, hF, W, k⟩ := h
    have hu1 := hu_of hr
    obtain ⟨⟨dx, h1⟩, h2, h3, h4, h5, h6, h7, h8, h9⟩ := id hF
    have hw := hF.rw (f.side b)
    refine ⟨_, (pss_cons (ps_set (i := 2) sc_sail.nd rfl (Or.inl rfl) (eu_meth (pu 0) T.cl T.m_place G_place (hr.mono (by decide)) T.b_place passB (pa_cons (pu 1) pa_nil)))
 (pss_cons (ps_set (i := 3) sc_sail.nd rfl (Or.inl rfl) (eu_meth (pu 0) T.cl T.m_side G_side (hr.mono (by decide)) T.b_side passB (pa_cons (pu 1) pa_nil)))
 (pss_cons (ps_if (PW.pt (pw_and (tu_cmp ou_in (pu 1) (eu_dget hu1 (eu_fldK (K := K) rfl (pu 0)) (pu 3)) rfl) (pw_and1 (tu_cmp (ou_ne hr.units) (eu_ix xu_seq (eu_dget hu1 (eu_fldK (K := K) rfl (pu 0)) (pu 3)) pe_int) (pu 1) (nomark _))))) (pss_one (ps_raise raiseB rfl T.x_NotFirst PySem.F.excBase_ValueError rfl T.g_NotFirst (pa_cons pe_str pa_nil))) pss_nil)
 (pss_cons (ps_set (i := 4) sc_sail.nd rfl (Or.inl rfl) (pe_ifExp (tu_cmp (ou_eq hr.units) (pu 3) pe_str (nomark _)) (pe_op ou_add (pu 2) pe_int) (pe_op ou_sub (pu 2) pe_int)))
 (pss_cons (ps_if (pt_not (tu_val (eu_meth (pu 0) T.cl T.m_is_level G_is_level (hr.mono (by decide)) T.b_is_level passB (pa_cons (pe_callB (cu_min rfl) rfl T.z_min PyProof.Rows.boot_min (pa_cons (pu 2) (pa_cons (pu 4) pa_nil))) pa_nil)))) (pss_one (ps_raise raiseB rfl T.x_Shut PySem.F.excBase_ValueError rfl T.g_Shut (pa_cons pe_str pa_nil))) pss_nil)
 (pss_cons (ps_if (PW.pt (pw_and (tu_val (eu_meth (pu 0) T.cl T.m_is_chamber G_is_chamber (hr.mono (by decide)) T.b_is_chamber passB (pa_cons (pu 4) pa_nil))) (pw_and1 (tu_cmp ou_notN (eu_ix xu_seq (eu_fldK (K := K) rfl (pu 0)) (pe_op ou_sub (pu 4) pe_int)) pe_non (nomark _))))) (pss_one (ps_raise raiseB rfl T.x_Occupied PySem.F.excBase_ValueError rfl T.g_Occupied (pa_cons pe_str pa_nil))) pss_nil)
 (pss_cons (ps_expr (eu_meth (pu 0) T.cl T.m_leave G_leave (hr.mono (by decide)) T.b_leave passB (pa_cons (pu 2) (pa_cons (pu 3) pa_nil))))
 (pss_cons (ps_expr (eu_meth (pu 0) T.cl T.m_enter G_enter (hr.mono (by decide)) T.b_enter passB (pa_cons (pu 4) (pa_cons (pu 1) pa_nil))))
 (pss_one (ps_ret (pu 4))))))))))), ?_⟩
    refine seqG fun R hR => ?_
    simp_arith [h1, h2, T.cl, T.n_high, T.n_inside, T.n_rows, T.n_sides, T.n_gone, T.n_lockfuls_drawn, T.n_lockfuls_out, fl_high, fl_drawn, fl_out, fn_summit, fn_is_chamber, fn_can_give, fn_can_take, fn_give, fn_take, fn_let, fn_levels, fn_drawn, fn_out, fn_boats, fn_waiting, fn_through, fn_side, fn_place, fn_come, fn_sail, fn_is_level, fn_leave, fn_enter, fl_putD, fl_putO, fl_len]
    refine ⟨a, f, b, rfl, hF, by rw [W.len]; exact W.sz, ?_⟩
    unfold Fl.sailOut at k
    cases hp : f.place? b with
    | none => rw [hp] at k; exact k
    | some here =>
      rw [hp] at k
      try dsimp only at k
      obtain ⟨⟨b0, b1⟩, hrow, r0, r1⟩ := W.side hp
      subst hR
      refine seqG fun R hR => ?_
      simp_arith [h1, h2, T.cl, T.n_high, T.n_inside, T.n_rows, T.n_sides, T.n_gone, T.n_lockfuls_drawn, T.n_lockfuls_out, fl_high, fl_drawn, fl_out, fn_summit, fn_is_chamber, fn_can_give, fn_can_take, fn_give, fn_take, fn_let, fn_levels, fn_drawn, fn_out, fn_boats, fn_waiting, fn_through, fn_side, fn_place, fn_come, fn_sail, fn_is_level, fn_leave, fn_enter, fl_putD, fl_putO, fl_len]
      refine ⟨a, f, b, rfl, hF, ?_⟩
      rw [if_neg (by omega)]
      subst hR
      refine seqG fun R hR => ?_
      simp_arith [h1, h2, T.cl, T.n_high, T.n_inside, T.n_rows, T.n_sides, T.n_gone, T.n_lockfuls_drawn, T.n_lockfuls_out, fl_high, fl_drawn, fl_out, fn_summit, fn_is_chamber, fn_can_give, fn_can_take, fn_give, fn_take, fn_let, fn_levels, fn_drawn, fn_out, fn_boats, fn_waiting, fn_through, fn_side, fn_place, fn_come, fn_sail, fn_is_level, fn_leave, fn_enter, fl_putD, fl_putO, fl_len, h4, hw, sid_eq, fl_rows, row_at, flatV, flat_intV, in_intV, tRaise]
      have hd : b ∈ f.row (f.side b) → ∃ x r, f.row (f.side b) = x :: r := fun z => by
        cases e : f.row (f.side b) with
        | nil => rw [e] at z; cases z
        | cons x r => exact ⟨x, r, rfl⟩
      refine join3 (d := (f.row (f.side b)).head? ≠ some b) (fun c d hR => ?_) (fun c d => ?_) (fun c => ?_)
      · obtain ⟨x, r, e⟩ := hd (by simpa using c)
        rw [e, at_head]
        rw [e] at d
        simp_arith [h1, h2, T.cl, T.n_high, T.n_inside, T.n_rows, T.n_sides, T.n_gone, T.n_lockfuls_drawn, T.n_lockfuls_out, fl_high, fl_drawn, fl_out, fn_summit, fn_is_chamber, fn_can_give, fn_can_take, fn_give, fn_take, fn_let, fn_levels, fn_drawn, fn_out, fn_boats, fn_waiting, fn_through, fn_side, fn_place, fn_come, fn_sail, fn_is_level, fn_leave, fn_enter, fl_putD, fl_putO, fl_len]
        have : x = b := by simpa using d
        rw [if_neg (by simp [this])]
        exact hR
      · obtain ⟨x, r, e⟩ := hd (by simpa using c)
        rw [if_pos ⟨by simpa using c, d⟩] at k
        rw [e, at_head]
        rw [e] at d
        simp_arith [h1, h2, T.cl, T.n_high, T.n_inside, T.n_rows, T.n_sides, T.n_gone, T.n_lockfuls_drawn, T.n_lockfuls_out, fl_high, fl_drawn, fl_out, fn_summit, fn_is_chamber, fn_can_give, fn_can_take, fn_give, fn_take, fn_let, fn_levels, fn_drawn, fn_out, fn_boats, fn_waiting, fn_through, fn_side, fn_place, fn_come, fn_sail, fn_is_level, fn_leave, fn_enter, fl_putD, fl_putO, fl_len]
        have : ¬ x = b := by simpa using d
        rw [if_pos (by simp [this])]
        exact ⟨by decide, k⟩
      rw [if_neg (by simpa using c)] at k
      subst hR
      refine seqG fun R hR => ?_
      simp_arith [h1, h2, T.cl, T.n_high, T.n_inside, T.n_rows, T.n_sides, T.n_gone, T.n_lockfuls_drawn, T.n_lockfuls_out, fl_high, fl_drawn, fl_out, fn_summit, fn_is_chamber, fn_can_give, fn_can_take, fn_give, fn_take, fn_let, fn_levels, fn_drawn, fn_out, fn_boats, fn_waiting, fn_through, fn_side, fn_place, fn_come, fn_sail, fn_is_level, fn_leave, fn_enter, fl_putD, fl_putO, fl_len]
      rw [sid_up]
      have e2 : stepOf (f.side b) here = (if f.side b = true then here - 1 else here + 1) := rfl
      generalize hth : stepOf (f.side b) here = th at *
      have e3 : (f.side b = false → here + 1 = th) ∧ (f.side b = true → here - 1 = th) := by
        constructor <;> intro z <;> rw [z] at e2 <;> simpa using e2.symm
      have fin : R { nx := fun x H' => Q V.non H', rt := Q } [some (V.ref a.p), some (V.int b), some (V.int here), some (sid (f.side b)), some (V.int th)] H := by
        subst hR
        refine seqG fun R hR => ?_
        simp_arith [h1, h2, T.cl, T.n_high, T.n_inside, T.n_rows, T.n_sides, T.n_gone, T.n_lockfuls_drawn, T.n_lockfuls_out, fl_high, fl_drawn, fl_out, fn_summit, fn_is_chamber, fn_can_give, fn_can_take, fn_give, fn_take, fn_let, fn_levels, fn_drawn, fn_out, fn_boats, fn_waiting, fn_through, fn_side, fn_place, fn_come, fn_sail, fn_is_level, fn_leave, fn_enter, fl_putD, fl_putO, fl_len, tRaise, min_if]
        refine ⟨a, f, _, rfl, hF, ?_⟩
        cases c1 : level f.high (min here th) with
        | false =>
          rw [c1] at k
          simp_arith [h1, h2, T.cl, T.n_high, T.n_inside, T.n_rows, T.n_sides, T.n_gone, T.n_lockfuls_drawn, T.n_lockfuls_out, fl_high, fl_drawn, fl_out, fn_summit, fn_is_chamber, fn_can_give, fn_can_take, fn_give, fn_take, fn_let, fn_levels, fn_drawn, fn_out, fn_boats, fn_waiting, fn_through, fn_side, fn_place, fn_come, fn_sail, fn_is_level, fn_leave, fn_enter, fl_putD, fl_putO, fl_len, Bool.not_false, c1]
          exact ⟨by decide, k⟩
        | true =>
          rw [c1] at k
          simp_arith [h1, h2, T.cl, T.n_high, T.n_inside, T.n_rows, T.n_sides, T.n_gone, T.n_lockfuls_drawn, T.n_lockfuls_out, fl_high, fl_drawn, fl_out, fn_summit, fn_is_chamber, fn_can_give, fn_can_take, fn_give, fn_take, fn_let, fn_levels, fn_drawn, fn_out, fn_boats, fn_waiting, fn_through, fn_side, fn_place, fn_come, fn_sail, fn_is_level, fn_leave, fn_enter, fl_putD, fl_putO, fl_len, Bool.not_true, c1]
          subst hR
          refine seqG fun R hR => ?_
          simp_arith [h1, h2, T.cl, T.n_high, T.n_inside, T.n_rows, T.n_sides, T.n_gone, T.n_lockfuls_drawn, T.n_lockfuls_out, fl_high, fl_drawn, fl_out, fn_summit, fn_is_chamber, fn_can_give, fn_can_take, fn_give, fn_take, fn_let, fn_levels, fn_drawn, fn_out, fn_boats, fn_waiting, fn_through, fn_side, fn_place, fn_come, fn_sail, fn_is_level, fn_leave, fn_enter, fl_putD, fl_putO, fl_len, tRaise]
          refine ⟨a, f, _, rfl, hF, ?_⟩
          have last : ¬ (isCh f.high.length th = true ∧ f.inside.getD (th - 1).toNat none ≠ none) → R { nx := fun x H' => Q V.non H', rt := Q } [some (V.ref a.p), some (V.int b), some (V.int here), some (sid (f.side b)), some (V.int th)] H := fun c2 => by
            rw [if_neg (by simp), if_neg c2] at k
            subst hR
            refine seqG fun R hR => ?_
            simp_arith [h1, h2, T.cl, T.n_high, T.n_inside, T.n_rows, T.n_sides, T.n_gone, T.n_lockfuls_drawn, T.n_lockfuls_out, fl_high, fl_drawn, fl_out, fn_summit, fn_is_chamber, fn_can_give, fn_can_take, fn_give, fn_take, fn_let, fn_levels, fn_drawn, fn_out, fn_boats, fn_waiting, fn_through, fn_side, fn_place, fn_come, fn_sail, fn_is_level, fn_leave, fn_enter, fl_putD, fl_putO, fl_len]
            refine ⟨a, f, here, f.side b, rfl, hF, W.len, fun z e => ?_, fun H1 F1 b1 => ?_⟩
            · have := hrow z; rw [e] at this; cases this
            have L1 : (f.leave here (f.side b)).inside.length = (f.leave here (f.side b)).high.length ∧ (f.leave here (f.side b)).gone = f.gone := by
              unfold Fl.leave
              split
              · simp [W.len]
              · split <;> simp [W.len]
            obtain ⟨⟨dx1, g1⟩, _⟩ := id F1
            subst hR
            refine seqG fun R hR => ?_
            simp_arith [h1, h2, T.cl, T.n_high, T.n_inside, T.n_rows, T.n_sides, T.n_gone, T.n_lockfuls_drawn, T.n_lockfuls_out, fl_high, fl_drawn, fl_out, fn_summit, fn_is_chamber, fn_can_give, fn_can_take, fn_give, fn_take, fn_let, fn_levels, fn_drawn, fn_out, fn_boats, fn_waiting, fn_through, fn_side, fn_place, fn_come, fn_sail, fn_is_level, fn_leave, fn_enter, fl_putD, fl_putO, fl_len, g1]
            refine ⟨a, _, th, b, rfl, F1, L1.1, by rw [L1.2]; exact W.gz, fun H2 F2 b2 => ?_⟩
            subst hR
            show Q (V.int th) H2
            rw [← hth]
            refine k H2 here rfl ?_ (b1.trans b2)
            unfold Fl.sail
            rw [hth]
            exact F2
          cases c2 : isCh f.high.length th with
          | false =>
            simp_arith [h1, h2, T.cl, T.n_high, T.n_inside, T.n_rows, T.n_sides, T.n_gone, T.n_lockfuls_drawn, T.n_lockfuls_out, fl_high, fl_drawn, fl_out, fn_summit, fn_is_chamber, fn_can_give, fn_can_take, fn_give, fn_take, fn_let, fn_levels, fn_drawn, fn_out, fn_boats, fn_waiting, fn_through, fn_side, fn_place, fn_come, fn_sail, fn_is_level, fn_leave, fn_enter, fl_putD, fl_putO, fl_len, c2]
            exact last (by simp [c2])
          | true =>
            have c' : 0 < th ∧ th < (f.high.length : Int) + 1 := by simpa [isCh] using c2
            have hl := W.len
            simp_arith [h1, h2, T.cl, T.n_high, T.n_inside, T.n_rows, T.n_sides, T.n_gone, T.n_lockfuls_drawn, T.n_lockfuls_out, fl_high, fl_drawn, fl_out, fn_summit, fn_is_chamber, fn_can_give, fn_can_take, fn_give, fn_take, fn_let, fn_levels, fn_drawn, fn_out, fn_boats, fn_waiting, fn_through, fn_side, fn_place, fn_come, fn_sail, fn_is_level, fn_leave, fn_enter, fl_putD, fl_putO, fl_len, c2, h3, fl_inside]
            rw [at_insV (by omega) (by omega)]
            simp only [give_p, true_and, ins_non]
            by_cases c3 : f.inside.getD (th - 1).toNat none = none
            · rw [if_neg (by rw [decide_eq_true c3]; decide)]
              exact last (fun z => z.2 c3)
            · rw [if_pos (by rw [decide_eq_false c3]; rfl)]
              rw [if_neg (by simp), if_pos ⟨c2, c3⟩] at k
              exact ⟨by decide, k⟩
      rw [sid_eq] at fin
      cases e : f.side b with
      | false =>
        rw [e] at fin
        rw [e3.1 e]
        exact fin
      | true =>
        rw [e] at fin
        rw [e3.2 e]
        exact fin
end
section
variable {P : Program} {w : World} {K : PySem.W.Frag} {mg : Str → Option Value} {base : Heap} {t : Adr}
inductive sp_init (t : Adr) (vs : List V) (H : Hp) (Q : VK) (E : XK) : Prop
  | mk (x l dx : Addr) (lv : List Bool) (z0 : vs = [.ref x, .ref l]) (z1 : H x = some (.ins t.c_Flight dx [])) (z2 : H l = some (.lst (bls lv))) (z3 : lv.length ≤ 1000) (z4 : (if lv.length < 1 ∨ 8 < lv.length then E (.ref t.c_BadFlight) none H else ∀ a H', a.p = x → (∀ y ∈ a.foot, y = x ∨ H y = none) → FlAt t H' a (Fl.new lv) → But [x] H H' → Q .non H')) : sp_init t vs H Q E
theorem rep_ins (n : Nat) : (List.replicate n [V.non]).flatten = insV (List.replicate n none) := by
  induction n with
  | zero => rfl
  | succ n ih =>
    rw [List.replicate_succ, List.replicate_succ, List.flatten_cons, ih]
    rfl
theorem keepx {H : Hp} {x a : Addr} {o u : HO} (n : a ≠ x) (h : H a = some u) : upd H x o a = some u := by rw [upd_ne n]; exact h
theorem but_was {H H' : Hp} {x b : Addr} (s : But [x] H H') (n : b ≠ x) (h : H' b = none) : H b = none := by
  cases q : H b with
  | none => rfl
  | some o => rw [s b o q (by simpa using n)] at h; cases h
theorem but_fresh {H H' : Hp} {x l : Addr} {o : HO} (s : But [x] H H') (g : H l = none) : But [x] H (upd H' l o) := fun b u e n => by rw [upd_ne (ne_of_none e g)]; exact s b u e n
theorem upd_none {H : Hp} {a b : Addr} {o : HO} (h : upd H a o b = none) : b ≠ a ∧ H b = none := by
  by_cases e : b = a
  · subst e; rw [upd_same] at h; cases h
  · rw [upd_ne e] at h; exact ⟨e, h⟩

structure Ini (H H' : Hp) (x C dx : Addr) (fs : List (Str × V)) (os : List (Addr × HO)) : Prop where
  bk : But [x] H H'
  ob : H' x = some (.ins C dx fs)
  al : ∀ p ∈ os, H' p.1 = some p.2 ∧ p.1 ≠ x ∧ H p.1 = none
  nd : (os.map (·.1)).Nodup
theorem Ini.new {H H' : Hp} {x C dx a : Addr} {fs : List (Str × V)} {os : List (Addr × HO)} (I : Ini H H' x C dx fs os) (n : H' a = none) (o : HO) : Ini H (upd H' a o) x C dx fs ((a, o) :: os) where
  bk := I.bk.trans (But.same (same_new n))
  ob := same_new n _ _ I.ob
  al := fun p hp => by
    rcases List.mem_cons.mp hp with rfl | h
    · exact ⟨upd_same, (ne_of_none I.ob n).symm, but_was I.bk (ne_of_none I.ob n).symm n⟩
    · exact ⟨same_new n _ _ (I.al p h).1, (I.al p h).2⟩
  nd := List.nodup_cons.mpr ⟨(fun h => by
    obtain ⟨p, hp, e⟩ := List.mem_map.mp h
    have := (I.al p hp).1
    rw [e, n] at this
    cases this), I.nd⟩
def Alls (q : Addr × HO → Prop) : List (Addr × HO) → Prop
  | [] => True
  | p :: r => q p ∧ Alls q r
theorem alls_of {q : Addr × HO → Prop} : ∀ {os : List (Addr × HO)}, (∀ p ∈ os, q p) → Alls q os
  | [], _ => trivial
  | p :: r, h => ⟨h p (List.mem_cons_self ..), alls_of fun y hy => h y (List.mem_cons_of_mem _ hy)⟩
theorem Ini.set {H H' : Hp} {x C dx : Addr} {fs : List (Str × V)} {os : List (Addr × HO)} (I : Ini H H' x C dx fs os) (fs' : List (Str × V)) : Ini H (upd H' x (.ins C dx fs')) x C dx fs' os where
  bk := I.bk.trans (But.upd (List.mem_singleton.mpr rfl))
  ob := upd_same
  al := fun p hp => ⟨keepx (I.al p hp).2.1 (I.al p hp).1, (I.al p hp).2⟩
  nd := I.nd
theorem Ini.put {H H' : Hp} {x C dx a : Addr} {b c : Addr × HO} {o : HO} {fs : List (Str × V)} {os : List (Addr × HO)} (I : Ini H H' x C dx fs (b :: c :: (a, o) :: os)) (o' : HO) : Ini H (upd H' a o') x C dx fs (b :: c :: (a, o') :: os) := by
  obtain ⟨h1, h2, h3⟩ := I.al (a, o) (by simp)
  have nd := I.nd
  simp only [List.map_cons, List.nodup_cons, List.mem_cons, not_or] at nd
  have key : ∀ p : Addr × HO, p.1 ≠ a → (H' p.1 = some p.2 ∧ p.1 ≠ x ∧ H p.1 = none) → (upd H' a o' p.1 = some p.2 ∧ p.1 ≠ x ∧ H p.1 = none) := fun p n q => ⟨keepx n q.1, q.2⟩
  refine ⟨but_fresh I.bk h3, keepx h2.symm I.ob, fun p hp => ?_, I.nd⟩
  rcases List.mem_cons.mp hp with rfl | hp
  · exact key _ nd.1.2.1 (I.al _ (by simp))
  rcases List.mem_cons.mp hp with rfl | hp
  · exact key _ nd.2.1.1 (I.al _ (by simp))
  rcases List.mem_cons.mp hp with rfl | hp
  · exact ⟨upd_same, h2, h3⟩
  · exact key p (fun e => nd.2.2.1 (List.mem_map.mpr ⟨p, hp, e⟩)) (I.al p (by simp [hp]))
theorem Ini.flight {t : Adr} {H H' : Hp} {dx a0 : Addr} {o0 : HO} {fs : List (Str × V)} {A : FA} {lv : List Bool}
    (I : Ini H H' A.p t.c_Flight dx fs [(A.g, .lst []), (A.s, .lst []), (A.d, .lst []), (A.u, .lst []), (A.r, .dK [(Sum.inr (Str.ofString "up"), V.ref A.u), (Sum.inr (Str.ofString "down"), V.ref A.d)]), (A.i, .lst (insV (List.replicate lv.length none))), (a0, o0), (A.h, .lst (bls lv))]) (e : fs = flds A 0 0) : FlAt t H' A (Fl.new lv) := by
  subst e
  obtain ⟨⟨hg, _⟩, ⟨hs, _⟩, ⟨hd, _⟩, ⟨hu, _⟩, ⟨hr, _⟩, ⟨hi, _⟩, _, ⟨hh, _⟩, _⟩ := alls_of I.al
  have nd : [A.h, a0, A.i, A.r, A.u, A.d, A.s, A.g].Nodup := List.pairwise_reverse.mpr (I.nd.imp Ne.symm)
  have sb : [A.h, A.i, A.r, A.u, A.d, A.s, A.g].Sublist [A.h, a0, A.i, A.r, A.u, A.d, A.s, A.g] := .cons₂ _ (.cons _ (List.Sublist.refl _))
  refine ⟨⟨dx, I.ob⟩, hh, hi, hr, hu, hd, hs, hg, List.nodup_cons.mpr ⟨fun h => ?_, nd.sublist sb⟩⟩
  obtain ⟨q, hq, e⟩ := List.mem_map.mp (List.mem_reverse.mp (show A.p ∈ (List.map (fun x : Addr × HO => x.1) [(A.g, HO.lst []), (A.s, HO.lst []), (A.d, HO.lst []), (A.u, HO.lst []), (A.r, HO.dK [(Sum.inr (Str.ofString "up"), V.ref A.u), (Sum.inr (Str.ofString "down"), V.ref A.d)]), (A.i, HO.lst (insV (List.replicate lv.length none))), (a0, o0), (A.h, HO.lst (bls lv))]).reverse from sb.subset h))
  exact (I.al q hq).2.1 e
theorem Ini.foot {H H' : Hp} {C dx a0 : Addr} {o0 og os od ou or' oi oh : HO} {fs : List (Str × V)} {A : FA} (I : Ini H H' A.p C dx fs [(A.g, og), (A.s, os), (A.d, od), (A.u, ou), (A.r, or'), (A.i, oi), (a0, o0), (A.h, oh)]) : ∀ y ∈ A.foot, y = A.p ∨ H y = none := by
  have sb : [A.h, A.i, A.r, A.u, A.d, A.s, A.g].Sublist [A.h, a0, A.i, A.r, A.u, A.d, A.s, A.g] := .cons₂ _ (.cons _ (List.Sublist.refl _))
  intro y hy
  rcases List.mem_cons.mp hy with e | h
  · exact .inl e
  · obtain ⟨q, hq, e⟩ := List.mem_map.mp (List.mem_reverse.mp (show y ∈ (List.map (fun x => x.1) [(A.g, og), (A.s, os), (A.d, od), (A.u, ou), (A.r, or'), (A.i, oi), (a0, o0), (A.h, oh)]).reverse from sb.subset h))
    exact .inr (e ▸ (I.al q hq).2.2)
theorem sc_init : FnScope ["self", "levels"] ["self", "levels"] (defScope s_init) := ⟨rfl, rfl, rfl, by decide +kernel, rfl, by decide +kernel, by decide +kernel⟩
set_option maxHeartbeats 800000 in
theorem ok_init (T : Txt w K mg t) : FnOk P w K mg base (CXe P w) 1 t.f_init t.d_init ["self", "levels"] (sp_init t) := by
  refine okX T.F_init sc_init (fun vs H Q E h => ?_) (fun cdv A outer s H vs Q E hr h => ?_)
  · obtain ⟨x, l, dx, lv, rfl, _⟩ := h; rfl
  · obtain ⟨x, l, dx, lv, rfl, h1, h2, hz, k⟩ := h
    have nxl : x ≠ l := ne_of h1 h2 (by intro z; cases z)
    refine ⟨_, (pss_cons (ps_if (PW.pt (pw_or (tu_cmp ou_lt (pe_callB cu_len rfl T.z_len PySem.boot_len (pa_cons (pu 1) pa_nil)) pe_int (nomark _)) (pw_or1 (tu_cmp ou_gt (pe_callB cu_len rfl T.z_len PySem.boot_len (pa_cons (pu 1) pa_nil)) (pe_glob (v := .int 8) rfl T.g_MOST_CHAMBERS ⟨_, rfl⟩) (nomark _))))) (pss_one (ps_raise raiseB rfl T.x_BadFlight PySem.F.excBase_ValueError rfl T.g_BadFlight (pa_cons pe_str pa_nil))) pss_nil)
 (pss_cons (su_fldK (K := K) rfl (pu 0) (pe_callTy cu_list rfl T.z_list PyProof.Rows.boot_list (pa_cons (pu 1) pa_nil)))
 (pss_cons (su_fldK (K := K) rfl (pu 0) (pe_op ou_mul (pe_lst (pa_cons pe_non pa_nil)) (pe_callB cu_len rfl T.z_len PySem.boot_len (pa_cons (pu 1) pa_nil))))
 (pss_cons (su_fldK (K := K) rfl (pu 0) (pe_disp (pps_cons pe_str (pe_lst pa_nil) (pps_cons pe_str (pe_lst pa_nil) pps_nil)) rfl rfl (by intro z; cases z) (by decide)))
 (pss_cons (su_fldK (K := K) rfl (pu 0) (pe_lst pa_nil))
 (pss_cons (su_fldK (K := K) rfl (pu 0) (pe_lst pa_nil))
 (pss_cons (su_fldK (K := K) rfl (pu 0) pe_int)
 (pss_one (su_fldK (K := K) rfl (pu 0) pe_int))))))))), ?_⟩
    rw [tSeq]
    generalize hR1 : tSeq _ _ = R1
    try simp_arith [tRaise, h2, len_bls]
    by_cases c0 : lv.length < 1
    · rw [if_pos (.inl c0)] at k
      rw [if_pos (by simpa using (by omega : ((lv.length : Nat) : Int) < 1))]
      exact ⟨by decide, k⟩
    rw [if_neg (by simp; omega)]
    by_cases c1 : 8 < lv.length
    · rw [if_pos (.inr c1)] at k
      rw [if_pos (by simp; omega)]
      exact ⟨by decide, k⟩
    rw [if_neg (by simp; omega)]
    rw [if_neg (by omega)] at k
    have I0 : Ini H H x t.c_Flight dx [] [] := ⟨But.refl _ _, h1, fun p hp => (nomatch hp), List.nodup_nil⟩
    generalize hD : Ends.mk _ _ _ _ = D
    -- self.high
    subst hR1
    rw [tSeq]
    generalize hR : tSeq _ _ = R
    try simp_arith [h2]
    intro ah n_ah
    have I := I0.new n_ah (HO.lst (bls lv))
    generalize upd H ah (HO.lst (bls lv)) = H1 at *
    try simp_arith [I.ob, T.cl, T.n_high]
    refine ⟨show 0 < 1000 by decide, ?_⟩
    replace I := I.set (putF (Str.ofString "high") (V.ref ah) [])
    generalize upd H1 x _ = H2 at *
    -- self.inside
    subst hR
    rw [tSeq]
    generalize hR : tSeq _ _ = R
    have el := I.bk _ _ h2 (by simpa using nxl.symm)
    try simp_arith [true_and]
    refine ⟨by decide, fun a0 n_a0 => ?_⟩
    replace I := I.new n_a0 (HO.lst [V.non])
    replace el := same_new (o := HO.lst [V.non]) n_a0 _ _ el
    have e0 : upd H2 a0 (HO.lst [V.non]) a0 = some (HO.lst [V.non]) := upd_same
    generalize upd H2 a0 (HO.lst [V.non]) = H3 at *
    try simp_arith [e0, el, len_bls]
    refine ⟨⟨by omega, by omega, ?_⟩, ?_⟩
    · exact Nat.le_trans (by omega : (0 + 1) * ((lv.length : Int)).toNat ≤ 1000) (by decide)
    rw [rep_ins, show ((lv.length : Int)).toNat = lv.length from by omega]
    intro ai n_ai
    replace I := I.new n_ai (HO.lst (insV (List.replicate lv.length none)))
    generalize upd H3 ai _ = H4 at *
    clear el e0
    try simp_arith [I.ob, T.cl, T.n_inside]
    refine ⟨show 1 < 1000 by decide, ?_⟩
    replace I := I.set (putF (Str.ofString "inside") (V.ref ai) (putF (Str.ofString "high") (V.ref ah) []))
    generalize upd H4 x _ = H5 at *
    -- self.rows
    subst hR
    rw [tSeq]
    generalize hR : tSeq _ _ = R
    try simp_arith [tDisp, tPairs]
    intro ar n_ar
    replace I := I.new n_ar (HO.dK [])
    generalize upd H5 ar _ = H6 at *
    refine ⟨by decide, fun au n_au => ?_⟩
    replace I := I.new n_au (HO.lst [])
    generalize upd H6 au _ = H7 at *
    refine ⟨by decide, fun ad n_ad => ?_⟩
    replace I := I.new n_ad (HO.lst [])
    generalize upd H7 ad _ = H8 at *
    refine ⟨(alls_of I.al).2.2.1.1, [(Sum.inr "up", .ref au), (Sum.inr "down", .ref ad)], rfl, by simp, ?_⟩
    rw [show mergeK [] [(Sum.inr (Str.ofString "up"), V.ref au), (Sum.inr (Str.ofString "down"), V.ref ad)] = [(Sum.inr (Str.ofString "up"), V.ref au), (Sum.inr (Str.ofString "down"), V.ref ad)] from rfl]
    replace I := I.put (HO.dK [(Sum.inr (Str.ofString "up"), V.ref au), (Sum.inr (Str.ofString "down"), V.ref ad)])
    generalize upd H8 ar _ = H9 at *
    try simp_arith [I.ob, T.cl, T.n_rows]
    refine ⟨show 2 < 1000 by decide, ?_⟩
    replace I := I.set (putF (Str.ofString "rows") (V.ref ar) (putF (Str.ofString "inside") (V.ref ai) (putF (Str.ofString "high") (V.ref ah) [])))
    generalize upd H9 x _ = H10 at *
    -- self.sides
    subst hR
    rw [tSeq]
    generalize hR : tSeq _ _ = R
    try simp_arith [true_and]
    refine ⟨by decide, fun a_s n_a_s => ?_⟩
    replace I := I.new n_a_s (HO.lst [])
    generalize upd H10 a_s _ = H11 at *
    try simp_arith [I.ob, T.cl, T.n_sides]
    refine ⟨show 3 < 1000 by decide, ?_⟩
    replace I := I.set (putF (Str.ofString "sides") (V.ref a_s) (putF (Str.ofString "rows") (V.ref ar) (putF (Str.ofString "inside") (V.ref ai) (putF (Str.ofString "high") (V.ref ah) []))))
    generalize upd H11 x _ = H12 at *
    -- self.gone
    subst hR
    rw [tSeq]
    generalize hR : tSeq _ _ = R
    try simp_arith [true_and]
    refine ⟨by decide, fun a_g n_a_g => ?_⟩
    replace I := I.new n_a_g (HO.lst [])
    generalize upd H12 a_g _ = H13 at *
    try simp_arith [I.ob, T.cl, T.n_gone]
    refine ⟨show 4 < 1000 by decide, ?_⟩
    replace I := I.set (putF (Str.ofString "gone") (V.ref a_g) (putF (Str.ofString "sides") (V.ref a_s) (putF (Str.ofString "rows") (V.ref ar) (putF (Str.ofString "inside") (V.ref ai) (putF (Str.ofString "high") (V.ref ah) [])))))
    generalize upd H13 x _ = H14 at *
    subst hR
    rw [tSeq]
    try simp_arith [I.ob, T.cl, T.n_lockfuls_drawn]
    refine ⟨show 5 < 1000 by decide, ?_⟩
    replace I := I.set (putF (Str.ofString "lockfuls_drawn") (V.int 0) (putF (Str.ofString "gone") (V.ref a_g) (putF (Str.ofString "sides") (V.ref a_s) (putF (Str.ofString "rows") (V.ref ar) (putF (Str.ofString "inside") (V.ref ai) (putF (Str.ofString "high") (V.ref ah) []))))))
    generalize upd H14 x _ = H15 at *
    try simp_arith [I.ob, T.cl, T.n_lockfuls_out]
    refine ⟨show 6 < 1000 by decide, ?_⟩
    replace I := I.set (putF (Str.ofString "lockfuls_out") (V.int 0) (putF (Str.ofString "lockfuls_drawn") (V.int 0) (putF (Str.ofString "gone") (V.ref a_g) (putF (Str.ofString "sides") (V.ref a_s) (putF (Str.ofString "rows") (V.ref ar) (putF (Str.ofString "inside") (V.ref ai) (putF (Str.ofString "high") (V.ref ah) [])))))))
    generalize upd H15 x _ = H16 at *
    subst hD
    exact k ⟨x, ah, ai, ar, au, ad, a_s, a_g⟩ _ rfl (Ini.foot (A := ⟨x, ah, ai, ar, au, ad, a_s, a_g⟩) I) (Ini.flight (A := ⟨x, ah, ai, ar, au, ad, a_s, a_g⟩) I rfl) I.bk
end
def cellOf (ns : List Int) (k : Int) : Int := ns.getD k.toNat 0
section
variable {P : Program} {w : World} {K : PySem.W.Frag} {mg : Str → Option Value} {base : Heap} {t : Adr}
theorem same_was {H H' : Hp} (s : Same H H') {b : Addr} (h : H' b = none) : H b = none := by
  cases q : H b with
  | none => rfl
  | some o => rw [s b o q] at h; cases h
inductive sp_cell (K : PySem.W.Frag) (vs : List V) (H : Hp) (Q : VK) (E_ : XK) : Prop
  | mk (a : Addr) (ns : List Int) (k : Int) (z0 : vs = [.ref a, .int k]) (z1 : SqL K H a (ns.map V.int)) (z2 : 0 ≤ k) (z3 : Q (.int (cellOf ns k)) H) : sp_cell K vs H Q E_
theorem sc_l_cell_at : FnScope ["script", "k"] ["script", "k"] (defScope s_l_cell_at) := ⟨rfl, rfl, rfl, by decide +kernel, rfl, by decide +kernel, by decide +kernel⟩
set_option maxHeartbeats 800000 in
theorem ok_l_cell_at (T : Txt w K mg t) : FnOk P w K mg base (CXe P w) 1 t.f_l_cell_at t.d_l_cell_at ["script", "k"] (sp_cell K) := by
  refine okX T.F_l_cell_at sc_l_cell_at (fun vs H Q E h => ?_) (fun cdv A outer s H vs Q E hr h => ?_)
  · obtain ⟨a, ns, k, rfl, _⟩ := h; rfl
  · obtain ⟨a, ns, i, rfl, hS, h0, k⟩ := h
    refine ⟨_, (pss_cons (ps_if (tu_cmp ou_lt (pu 1) (pe_callB (len_seqK (K := K) rfl) rfl T.z_len PySem.boot_len (pa_cons (pu 0) pa_nil)) (nomark _)) (pss_one (ps_ret (eu_ix (ix_listK (K := K) rfl) (pu 0) (pu 1)))) pss_nil)
 (pss_one (ps_ret pe_int))), ?_⟩
    try simp_arith [tSeq]
    refine ⟨a, _, rfl, .inl hS, ?_⟩
    simp only [List.length_map]
    by_cases c : i < (ns.length : Int)
    · simp only [c, decide_true, if_true]
      refine ⟨a, _, i, .int (cellOf ns i), rfl, rfl, hS, ?_, k⟩
      unfold atI cellOf
      rw [List.length_map, ixN_nat h0 c]
      have : i.toNat < ns.length := by omega
      simp [List.getD, this]
    · simp only [c, decide_false, Bool.false_eq_true, if_false]
      have e : cellOf ns i = 0 := by
        unfold cellOf
        have : ns.length ≤ i.toNat := by omega
        simp [List.getD, this]
      rw [e] at k
      exact k
inductive sp_whole  (vs : List V) (H : Hp) (Q : VK) (E_ : XK) : Prop
  | mk (i : Int) (z0 : vs = [.int i]) (z1 : Q (.bl true) H) : sp_whole  vs H Q E_
theorem sc_l_whole : FnScope ["found"] ["found"] (defScope s_l_whole) := ⟨rfl, rfl, rfl, by decide +kernel, rfl, by decide +kernel, by decide +kernel⟩
set_option maxHeartbeats 800000 in
theorem ok_l_whole (T : Txt w K mg t) : FnOk P w K mg base (CXe P w) 1 t.f_l_whole t.d_l_whole ["found"] (sp_whole) := by
  refine okX T.F_l_whole sc_l_whole (fun vs H Q E h => ?_) (fun cdv A outer s H vs Q E hr h => ?_)
  · obtain ⟨i, rfl, _⟩ := h; rfl
  · obtain ⟨i, rfl, k⟩ := h
    refine ⟨_, (pss_one (ps_ret (eu_and (pe_callB (cu_isiK (K := K) rfl) rfl T.z_isinstance PyProof.Rows.boot_isinstance (pa_cons (pu 0) (pa_cons (pe_bltn (v := .ty "int") rfl T.z_int PyProof.Rows.boot_int rfl) pa_nil))) (pe_one (eu_not (pe_callB (cu_isiK (K := K) rfl) rfl T.z_isinstance PyProof.Rows.boot_isinstance (pa_cons (pu 0) (pa_cons (pe_bltn (v := .ty "bool") rfl T.z_bool PyProof.Rows.boot_bool rfl) pa_nil)))))))), ?_⟩
    try simp_arith [tyO, okC, cV, T.q_int_int, T.q_int_bool, Bool.not_false]
    exact k
def manyOf (c : Int) : Int := if c / 4 % 5 = 1 then 5 + c / 20 % 4 else 1 + c % 4
def pw (k : Nat) : Int := [1, 2, 4, 8, 16, 32, 64, 128].getD k 1
def lvOf (ns : List Int) (st : Int) : List Bool := (List.range (manyOf (cellOf ns st)).toNat).map fun k => decide (cellOf ns (st + 1) / pw k % 2 = 1)
theorem many_rng (c : Int) : 1 ≤ manyOf c ∧ manyOf c ≤ 8 := by unfold manyOf; split <;> omega
theorem lv_len (ns : List Int) (st : Int) : 1 ≤ (lvOf ns st).length ∧ (lvOf ns st).length ≤ 8 := by
  unfold lvOf
  have := many_rng (cellOf ns st)
  simp; omega
theorem pw_rng (k : Nat) : 0 < pw k ∧ pw k < 1073741824 := by
  by_cases h : k < 8
  · have : ∀ k : Fin 8, 0 < pw k.1 ∧ pw k.1 < 1073741824 := by decide
    exact this ⟨k, h⟩
  · have : pw k = 1 := by unfold pw; rw [List.getD_eq_getElem?_getD, List.getElem?_eq_none (Nat.le_of_not_lt h)]; rfl
    rw [this]; decide
theorem at_pw {k : Nat} (h : k < 8) : atI [V.int 1, V.int 2, V.int 4, V.int 8, V.int 16, V.int 32, V.int 64, V.int 128] (0 + (k : Int)) = some (.int (pw k)) := by
  have : ∀ k : Fin 8, atI [V.int 1, V.int 2, V.int 4, V.int 8, V.int 16, V.int 32, V.int 64, V.int 128] (0 + ((k.1 : Nat) : Int)) = some (.int (pw k.1)) := by decide
  exact this ⟨k, h⟩
inductive sp_levels (K : PySem.W.Frag) (vs : List V) (H : Hp) (Q : VK) (E_ : XK) : Prop
  | mk (a : Addr) (ns : List Int) (st : Int) (z0 : vs = [.ref a, .int st]) (z1 : SqL K H a (ns.map V.int)) (z2 : 0 ≤ st) (z3 : ∀ l H', Same H H' → H l = none → H' l = some (.lst (bls (lvOf ns st))) → Q (.ref l) H') : sp_levels K vs H Q E_
theorem sc_l_levels : FnScope ["script", "start", "many", "cell"] ["script", "start"] (defScope s_l_levels) := ⟨rfl, rfl, rfl, by decide +kernel, rfl, by decide +kernel, by decide +kernel⟩
set_option maxHeartbeats 800000 in
theorem ok_l_levels (T : Txt w K mg t) : FnOk P w K mg base (CXe P w) 2 t.f_l_levels t.d_l_levels ["script", "start"] (sp_levels K) := by
  have G_l_cell_at := ok_l_cell_at (P := P) (w := w) (base := base) T
  refine okX T.F_l_levels sc_l_levels (fun vs H Q E h => ?_) (fun cdv A outer s H vs Q E hr h => ?_)
  · obtain ⟨a, ns, st, rfl, _⟩ := h; rfl
  · obtain ⟨a, ns, st, rfl, hS, h0, k⟩ := h
    refine ⟨_, (pss_cons (ps_set (i := 2) sc_l_levels.nd rfl (Or.inl rfl) (pe_op ou_add pe_int (pe_op ou_mod (eu_call G_l_cell_at (hr.mono (by decide)) rfl T.g_l_cell_at T.F_l_cell_at.kp T.b_l_cell_at passB (pa_cons (pu 0) (pa_cons (pu 1) pa_nil))) pe_int)))
 (pss_cons (ps_if (tu_cmp (ou_eq hr.units) (pe_op ou_mod (pe_op ou_fdiv (eu_call G_l_cell_at (hr.mono (by decide)) rfl T.g_l_cell_at T.F_l_cell_at.kp T.b_l_cell_at passB (pa_cons (pu 0) (pa_cons (pu 1) pa_nil))) pe_int) pe_int) pe_int (nomark _)) (pss_one (ps_set (i := 2) sc_l_levels.nd rfl (Or.inl rfl) (pe_op ou_add pe_int (pe_op ou_mod (pe_op ou_fdiv (eu_call G_l_cell_at (hr.mono (by decide)) rfl T.g_l_cell_at T.F_l_cell_at.kp T.b_l_cell_at passB (pa_cons (pu 0) (pa_cons (pu 1) pa_nil))) pe_int) pe_int)))) pss_nil)
 (pss_cons (ps_set (i := 3) sc_l_levels.nd rfl (Or.inr rfl) (eu_call G_l_cell_at (hr.mono (by decide)) rfl T.g_l_cell_at T.F_l_cell_at.kp T.b_l_cell_at passB (pa_cons (pu 0) (pa_cons (pe_op ou_add (pu 1) pe_int) pa_nil))))
 (pss_one (ps_ret (pe_comp (fv := ["cell"]) (ixs := [3]) rfl (by decide +kernel) rfl rfl (pi_range1 rfl T.z_range (pa_cons (pu 2) pa_nil)) (fun cl C s H fp => pif_nil) (fun cl C s H fp => (pe_cmpR (ou_eq hr.units) (pe_op ou_mod (pe_op ou_fdiv (pu 1) (eu_ix xu_seq (pe_lst (pa_cons pe_int (pa_cons pe_int (pa_cons pe_int (pa_cons pe_int (pa_cons pe_int (pa_cons pe_int (pa_cons pe_int (pa_cons pe_int pa_nil))))))))) (pu 0))) pe_int) pe_int (nomark _))))))))), ?_⟩
    simp only [tSeq]
    try simp_arith [true_and]
    refine ⟨a, ns, st, rfl, hS, h0, ?_⟩
    try simp_arith [true_and]
    refine ⟨by decide, ?_⟩
    simp only [tSeq]
    try simp_arith [true_and]
    refine ⟨a, ns, st, rfl, hS, h0, ?_⟩
    try simp_arith [true_and]
    refine ⟨⟨by decide, by decide⟩, by decide, ?_⟩
    by_cases c : cellOf ns st / 4 % 5 = 1
    · rw [if_pos (by simpa using c)]
      refine ⟨a, ns, st, rfl, hS, h0, ?_⟩
      try simp_arith [true_and]
      refine ⟨⟨by decide, by decide⟩, by decide, ?_⟩
      have hm : manyOf (cellOf ns st) = 5 + cellOf ns st / 20 % 4 := by unfold manyOf; rw [if_pos c]
      have hm2 := many_rng (cellOf ns st)
      simp only [tSeq]
      try simp_arith [true_and]
      refine ⟨a, ns, st + 1, rfl, hS, by omega, ?_⟩
      try simp_arith [iRng1]
      refine ⟨_, rfl, by omega, by omega, comp_range (fun _ => true) (fun k => .bl (decide (cellOf ns (st + 1) / pw k % 2 = 1))) ?_ ?_ ?_⟩
      · exact Nat.le_trans (by omega : _ ≤ 1000) (by decide)
      · intro k hk H1 s1 Rt Rf hRt hRf
        try simp_arith [tAll]
        refine ⟨by decide, fun l hl => ?_⟩
        rw [at_pw (by omega)]
        try simp_arith [true_and]
        obtain ⟨p1, p2⟩ := pw_rng k
        refine ⟨⟨p1, p2⟩, by decide, ?_⟩
        have e : decide (V.int (cellOf ns (st + 1) / pw k % 2) = V.int 1) = decide (cellOf ns (st + 1) / pw k % 2 = 1) := by simp
        rw [e]
        exact hRt rfl _ (s1.trans (same_new hl))
      · intro H' s1 D nD
        refine k D _ (s1.trans (same_new nD)) (same_was s1 nD) ?_
        rw [upd_same]
        congr 2
        rw [List.filter_eq_self.mpr (fun _ _ => rfl)]
        unfold lvOf bls
        rw [List.map_map, hm]
        rfl
    · rw [if_neg (by simpa using c)]
      have hm : manyOf (cellOf ns st) = 1 + cellOf ns st % 4 := by unfold manyOf; rw [if_neg c]
      have hm2 := many_rng (cellOf ns st)
      simp only [tSeq]
      try simp_arith [true_and]
      refine ⟨a, ns, st + 1, rfl, hS, by omega, ?_⟩
      try simp_arith [iRng1]
      refine ⟨_, rfl, by omega, by omega, comp_range (fun _ => true) (fun k => .bl (decide (cellOf ns (st + 1) / pw k % 2 = 1))) ?_ ?_ ?_⟩
      · exact Nat.le_trans (by omega : _ ≤ 1000) (by decide)
      · intro k hk H1 s1 Rt Rf hRt hRf
        try simp_arith [tAll]
        refine ⟨by decide, fun l hl => ?_⟩
        rw [at_pw (by omega)]
        try simp_arith [true_and]
        obtain ⟨p1, p2⟩ := pw_rng k
        refine ⟨⟨p1, p2⟩, by decide, ?_⟩
        have e : decide (V.int (cellOf ns (st + 1) / pw k % 2) = V.int 1) = decide (cellOf ns (st + 1) / pw k % 2 = 1) := by simp
        rw [e]
        exact hRt rfl _ (s1.trans (same_new hl))
      · intro H' s1 D nD
        refine k D _ (s1.trans (same_new nD)) (same_was s1 nD) ?_
        rw [upd_same]
        congr 2
        rw [List.filter_eq_self.mpr (fun _ _ => rfl)]
        unfold lvOf bls
        rw [List.map_map, hm]
        rfl
end
theorem rd_bls {H : Hp} : ∀ (l : List Bool), RdVs H (bls l) (l.map PyData.bool)
  | [] => .nil
  | b :: r => .cons (.bl b) (rd_bls r)
theorem lay_bools : ∀ (l : List Bool), PyData.canLayAll0 (l.map PyData.bool) = true
  | [] => rfl
  | _ :: r => by simp [PyData.canLayAll0, PyData.canLay0, lay_bools r]
theorem depth_bools : ∀ (l : List Bool), PyData.depthAll (l.map PyData.bool) = 0
  | [] => rfl
  | _ :: r => by simp [PyData.depthAll, PyData.depth, depth_bools r]
theorem shaped_bools (l : List Bool) : SeqAt.shaped (.list (l.map PyData.bool)) = true := by
  simp [SeqAt.shaped, PyData.canLay0, PyData.depth, lay_bools, depth_bools]
theorem eqv_bools : ∀ (x y : List Bool), PyData.eqvAll (x.map PyData.bool) (y.map PyData.bool) = decide (x = y)
  | [], [] => by simp [PyData.eqvAll]
  | [], _ :: _ => by simp [PyData.eqvAll]
  | _ :: _, [] => by simp [PyData.eqvAll]
  | a :: r, b :: q => by
    simp only [List.map_cons, PyData.eqvAll, eqv_bools r q]
    cases a <;> cases b <;> by_cases h : r = q <;> simp [PyData.eqv, h]
theorem eqv_boolL (x y : List Bool) : PyData.eqv (.list (x.map PyData.bool)) (.list (y.map PyData.bool)) = decide (x = y) := by
  simp only [PyData.eqv]; exact eqv_bools x y
section
variable {P : Program} {w : World} {K : PySem.W.Frag} {mg : Str → Option Value} {base : Heap} {t : Adr}
inductive sp_bools  (vs : List V) (H : Hp) (Q : VK) (E_ : XK) : Prop
  | mk (p q : Addr) (x y : List Bool) (z0 : vs = [.ref p, .ref q]) (z1 : H p = some (.lst (bls x))) (z2 : H q = some (.lst (bls y))) (z3 : x.length ≤ 1000) (z4 : ∀ H', Same H H' → Q (.bl (decide (x = y))) H') : sp_bools  vs H Q E_
theorem sc_l_bools : FnScope ["found", "due"] ["found", "due"] (defScope s_l_bools) := ⟨rfl, rfl, rfl, by decide +kernel, rfl, by decide +kernel, by decide +kernel⟩
set_option maxHeartbeats 800000 in
theorem ok_l_bools (T : Txt w K mg t) : FnOk P w K mg base (CXe P w) 1 t.f_l_bools t.d_l_bools ["found", "due"] (sp_bools) := by
  refine okX T.F_l_bools sc_l_bools (fun vs H Q E h => ?_) (fun cdv A outer s H vs Q E hr h => ?_)
  · obtain ⟨p, q, x, y, rfl, _⟩ := h; rfl
  · obtain ⟨p, q, x, y, rfl, hp, hq, hz, k⟩ := h
    refine ⟨_, (pss_cons (ps_if (PW.pt (pw_or (pt_not (tu_val (pe_callB (cu_isiK (K := K) rfl) rfl T.z_isinstance PyProof.Rows.boot_isinstance (pa_cons (pu 0) (pa_cons (pe_bltn (v := .ty "list") rfl T.z_list PyProof.Rows.boot_list rfl) pa_nil))))) (pw_or1 (tu_cmp (ou_ne hr.units) (pe_callB cu_len rfl T.z_len PySem.boot_len (pa_cons (pu 0) pa_nil)) (pe_callB cu_len rfl T.z_len PySem.boot_len (pa_cons (pu 1) pa_nil)) (nomark _))))) (pss_one (ps_ret pe_bl)) pss_nil)
 (pss_one (ps_ret (eu_and (pe_callB (cu_all rfl) rfl T.z_all PyProof.Rows.boot_all (pa_cons (pe_comp (fv := []) (ixs := []) rfl (by decide +kernel) rfl rfl (pi_listK (K := K) rfl (pu 0)) (fun cl C s H fp => pif_nil) (fun cl C s H fp => (pe_callB (cu_isiK (K := K) rfl) rfl T.z_isinstance PyProof.Rows.boot_isinstance (pa_cons (pu 0) (pa_cons (pe_bltn (v := .ty "bool") rfl T.z_bool PyProof.Rows.boot_bool rfl) pa_nil))))) pa_nil)) (pe_one (pe_cmpR (ou_eq hr.units) (pu 0) (pu 1) (nomark _))))))), ?_⟩
    simp only [tSeq]
    try simp_arith [hp, hq, tyO, okC, cV, T.q_list_list, Bool.not_true, len_bls]
    by_cases c : x.length = y.length
    · rw [if_neg (by simp; omega)]
      try simp_arith [iList]
      refine ⟨p, rfl, ⟨_, .inl (.inl hp)⟩, comp_list (fun _ => true) (fun _ => .bl true) (.inl (.inl hp)) (by rw [len_bls]; exact Nat.le_trans hz (by decide)) ?_ ?_⟩
      · intro v hv H1 s1 Rt Rf hRt hRf
        obtain ⟨b, _, rfl⟩ := List.mem_map.mp hv
        try simp_arith [tAll, tyO, okC, cV, T.q_bool_bool]
        exact hRt rfl _ s1
      · intro H1 s1 D nD
        have e1 : ((bls x).filter fun _ => true).map (fun _ => V.bl true) = List.replicate x.length (V.bl true) := by
          rw [List.filter_eq_self.mpr (fun _ _ => rfl)]
          unfold bls
          rw [List.map_map]
          clear hp hz k c
          induction x with
          | nil => rfl
          | cons a r ih => simp only [List.map_cons, List.length_cons, List.replicate_succ, ih]; rfl
        rw [e1]
        have s2 := s1.trans (same_new (o := HO.lst (List.replicate x.length (V.bl true))) nD)
        have e2 : upd H1 D (.lst (List.replicate x.length (V.bl true))) D = some (.lst (List.replicate x.length (V.bl true))) := upd_same
        generalize upd H1 D (.lst (List.replicate x.length (V.bl true))) = H2 at *
        have e3 : (List.replicate x.length (V.bl true)).all isTr = true := by
          rw [List.all_eq_true]; intro v hv; rw [List.eq_of_mem_replicate hv]; rfl
        have e4 : (List.replicate x.length (V.bl true)).all isBl = true := by
          rw [List.all_eq_true]; intro v hv; rw [List.eq_of_mem_replicate hv]; rfl
        try simp_arith [e2, e3, e4]
        refine ⟨_, _, .lst (s2 _ _ hp) (rd_bls x), .lst (s2 _ _ hq) (rd_bls y), shaped_bools x, shaped_bools y, ?_⟩
        rw [eqv_boolL]
        exact k _ s2
    · rw [if_pos (by simp; omega)]
      have : decide (x = y) = false := by
        have : x ≠ y := fun e => c (by rw [e])
        simpa using this
      rw [this] at k
      exact k _ (Same.refl _)
structure SA where
  q : Addr
  h : Addr
  s : Addr
  p : Addr
  t : Addr
def SA.foot (b : SA) : List Addr := [b.q, b.h, b.s, b.p, b.t]
def stk (b : SA) (dr ou : Int) : List (Key × V) := [(.inr "high", .ref b.h), (.inr "sides", .ref b.s), (.inr "places", .ref b.p), (.inr "through", .ref b.t), (.inr "drawn", .int dr), (.inr "out", .int ou)]
theorem st_high (b : SA) (dr ou : Int) : valV (stk b dr ou) (Sum.inr "high") = some (.ref b.h) := rfl
theorem st_drawn (b : SA) (dr ou : Int) : valV (stk b dr ou) (Sum.inr "drawn") = some (.int dr) := rfl
theorem st_out (b : SA) (dr ou : Int) : valV (stk b dr ou) (Sum.inr "out") = some (.int ou) := rfl
theorem st_putD (b : SA) (dr ou x : Int) : putK (stk b dr ou) (Sum.inr "drawn") (.int x) = stk b x ou := rfl
theorem st_putO (b : SA) (dr ou x : Int) : putK (stk b dr ou) (Sum.inr "out") (.int x) = stk b dr x := rfl
theorem st_len (b : SA) (dr ou : Int) : (stk b dr ou).length = 6 := rfl
def plV (l : List (Int × Int)) : List (Key × V) := l.map fun x => (Sum.inl x.1, V.int x.2)
structure StAt (H : Hp) (b : SA) (m : Md) : Prop where
  ob : H b.q = some (.dK (stk b m.drawn m.out))
  hi : H b.h = some (.lst (bls m.high))
  sd : H b.s = some (.lst (sidV m.sides))
  pl : H b.p = some (.dK (plV m.places))
  th : H b.t = some (.lst (intV m.through))
  nd : b.foot.Nodup
theorem StAt.ne {H : Hp} {b : SA} {m : Md} (F : StAt H b m) : (b.q ≠ b.h ∧ b.q ≠ b.s ∧ b.q ≠ b.p ∧ b.q ≠ b.t) ∧ (b.h ≠ b.s ∧ b.h ≠ b.p ∧ b.h ≠ b.t) ∧ (b.s ≠ b.p ∧ b.s ≠ b.t) ∧ b.p ≠ b.t := by
  have n := F.nd
  simp only [SA.foot, List.nodup_cons, List.mem_cons, List.not_mem_nil, or_false, not_or, List.nodup_nil, and_true, not_false_eq_true] at n
  exact n
theorem StAt.setHigh {H : Hp} {b : SA} {m : Md} (F : StAt H b m) (h : List Bool) : StAt (upd H b.h (.lst (bls h))) b { m with high := h } := by
  obtain ⟨⟨n1, _⟩, ⟨n2, n3, n4⟩, _⟩ := F.ne
  obtain ⟨h1, h2, h3, h4, h5, h6⟩ := F
  exact ⟨by rw [upd_ne n1]; exact h1, upd_same, by rw [upd_ne n2.symm]; exact h3, by rw [upd_ne n3.symm]; exact h4, by rw [upd_ne n4.symm]; exact h5, h6⟩
theorem StAt.setWater {H : Hp} {b : SA} {m : Md} (F : StAt H b m) (x y : Int) : StAt (upd H b.q (.dK (stk b x y))) b { m with drawn := x, out := y } := by
  obtain ⟨⟨n1, n2, n3, n4⟩, _⟩ := F.ne
  obtain ⟨h1, h2, h3, h4, h5, h6⟩ := F
  exact ⟨upd_same, by rw [upd_ne n1.symm]; exact h2, by rw [upd_ne n2.symm]; exact h3, by rw [upd_ne n3.symm]; exact h4, by rw [upd_ne n4.symm]; exact h5, h6⟩
theorem StAt.but {H H' : Hp} {b : SA} {m : Md} {xs : List Addr} (F : StAt H b m) (k : But xs H H') (n : ∀ y ∈ b.foot, y ∉ xs) : StAt H' b m := by
  obtain ⟨h1, h2, h3, h4, h5, h9⟩ := F
  exact ⟨k _ _ h1 (n _ (by simp [SA.foot])), k _ _ h2 (n _ (by simp [SA.foot])), k _ _ h3 (n _ (by simp [SA.foot])), k _ _ h4 (n _ (by simp [SA.foot])), k _ _ h5 (n _ (by simp [SA.foot])), h9⟩
theorem StAt.same {H H' : Hp} {b : SA} {m : Md} (F : StAt H b m) (s : Same H H') : StAt H' b m := F.but (xs := []) (But.same s) fun _ _ z => nomatch z
theorem sq (b : SA) : b.q ∈ b.foot := by simp [SA.foot]
theorem sh (b : SA) : b.h ∈ b.foot := by simp [SA.foot]
def wordL : LetR → Str
  | .noGate => "no gate"
  | .noFall => "no fall"
  | .done => "done"
inductive sp_lword  (vs : List V) (H : Hp) (Q : VK) (E_ : XK) : Prop
  | mk (b : SA) (m : Md) (g : Int) (z0 : vs = [.ref b.q, .int g]) (z1 : StAt H b m) (z2 : m.high.length ≤ 100) (z3 : ∀ H', Same H H' → Q (.str (wordL (m.letWord g))) H') : sp_lword  vs H Q E_
theorem pad_bls (h : List Bool) (a b : Bool) : [V.bl a] ++ bls h ++ [V.bl b] = bls ([a] ++ h ++ [b]) := by unfold bls; simp
theorem sc_l_let_word : FnScope ["state", "gate", "high", "many"] ["state", "gate"] (defScope s_l_let_word) := ⟨rfl, rfl, rfl, by decide +kernel, rfl, by decide +kernel, by decide +kernel⟩
set_option maxHeartbeats 800000 in
theorem ok_l_let_word (T : Txt w K mg t) : FnOk P w K mg base (CXe P w) 1 t.f_l_let_word t.d_l_let_word ["state", "gate"] (sp_lword) := by
  refine okX T.F_l_let_word sc_l_let_word (fun vs H Q E h => ?_) (fun cdv A outer s H vs Q E hr h => ?_)
  · obtain ⟨b, m, g, rfl, _⟩ := h; rfl
  · obtain ⟨b, m, g, rfl, hF, hz, k⟩ := h
    have hu1 := hu_of hr
    obtain ⟨h1, h2, _⟩ := id hF
    have zz : m.high.length + 2 ≤ sizeLine := Nat.le_trans (by omega : _ ≤ 1000) (by decide)
    refine ⟨_, (pss_cons (ps_set (i := 2) sc_l_let_word.nd rfl (Or.inl rfl) (pe_op ou_add (pe_op ou_add (pe_lst (pa_cons pe_bl pa_nil)) (eu_dget hu1 (pu 0) pe_str)) (pe_lst (pa_cons pe_bl pa_nil))))
 (pss_cons (ps_set (i := 3) sc_l_let_word.nd rfl (Or.inl rfl) (pe_callB cu_len rfl T.z_len PySem.boot_len (pa_cons (eu_dget hu1 (pu 0) pe_str) pa_nil)))
 (pss_cons (ps_if (PW.pt (pw_or (tu_cmp ou_lt (pu 1) pe_int (nomark _)) (pw_or1 (tu_cmp ou_gt (pu 1) (pu 3) (nomark _))))) (pss_one (ps_ret pe_str)) pss_nil)
 (pss_cons (ps_if (PW.pt (pw_or (pt_not (tu_val (eu_ix xu_seq (pu 2) (pe_op ou_add (pu 1) pe_int)))) (pw_or1 (PW.pt (pw_and (tu_cmp ou_gt (pu 1) pe_int (nomark _)) (pw_and1 (tu_val (eu_ix xu_seq (pu 2) (pu 1))))))))) (pss_one (ps_ret pe_str)) pss_nil)
 (pss_one (ps_ret pe_str)))))), ?_⟩
    simp only [tSeq]
    try simp_arith [h1, st_high]
    refine ⟨by decide, fun a1 n_a1 => ?_⟩
    have sm_H1 := same_new (o := HO.lst [V.bl false]) n_a1
    have e_a1 : upd H a1 (HO.lst [V.bl false]) a1 = some (HO.lst [V.bl false]) := upd_same
    replace h1 := sm_H1 _ _ h1
    replace h2 := sm_H1 _ _ h2
    generalize upd H a1 (HO.lst [V.bl false]) = H1 at *
    simp only [h1, h2, e_a1, st_high]
    refine ⟨by simp [len_bls]; omega, fun a2 n_a2 => ?_⟩
    have sm_H2 := same_new (o := HO.lst ([V.bl false] ++ bls m.high)) n_a2
    have e_a2 : upd H1 a2 (HO.lst ([V.bl false] ++ bls m.high)) a2 = some (HO.lst ([V.bl false] ++ bls m.high)) := upd_same
    replace h1 := sm_H2 _ _ h1
    replace h2 := sm_H2 _ _ h2
    generalize upd H1 a2 (HO.lst ([V.bl false] ++ bls m.high)) = H2 at *
    refine ⟨by decide, fun a3 n_a3 => ?_⟩
    have sm_H3 := same_new (o := HO.lst [V.bl true]) n_a3
    have e_a3 : upd H2 a3 (HO.lst [V.bl true]) a3 = some (HO.lst [V.bl true]) := upd_same
    replace h1 := sm_H3 _ _ h1
    replace h2 := sm_H3 _ _ h2
    replace e_a2 := sm_H3 _ _ e_a2
    generalize upd H2 a3 (HO.lst [V.bl true]) = H3 at *
    simp only [e_a2, e_a3]
    refine ⟨by simp [len_bls]; omega, fun a4 n_a4 => ?_⟩
    rw [pad_bls]
    have len : ([false] ++ m.high ++ [true]).length = m.high.length + 2 := by simp
    unfold Md.letWord at k
    generalize [false] ++ m.high ++ [true] = pad at *
    have sm_H4 := same_new (o := HO.lst (bls pad)) n_a4
    have e_a4 : upd H3 a4 (HO.lst (bls pad)) a4 = some (HO.lst (bls pad)) := upd_same
    replace h1 := sm_H4 _ _ h1
    replace h2 := sm_H4 _ _ h2
    generalize upd H3 a4 (HO.lst (bls pad)) = H4 at *
    have sm : Same H H4 := ((sm_H1.trans sm_H2).trans sm_H3).trans sm_H4
    simp only [tSeq]
    try simp_arith [h1, h2, st_high, len_bls]
    simp only [tSeq]
    try simp_arith [true_and]
    by_cases c : g < 0 ∨ (m.high.length : Int) < g
    · rw [if_pos c] at k
      have kk := k _ sm
      by_cases c0 : g < 0
      · simp only [c0, decide_true, if_true]; exact kk
      · have c1 : (m.high.length : Int) < g := by omega
        simp only [c0, c1, decide_true, decide_false, if_true, Bool.false_eq_true, if_false]; exact kk
    · rw [if_neg c] at k
      have c0 : ¬ g < 0 := by omega
      have c1 : ¬ (m.high.length : Int) < g := by omega
      simp only [c0, c1, decide_false, Bool.false_eq_true, if_false]
      simp only [tSeq]
      have a1 : atI (bls pad) (g + 1) = some (.bl (pad.getD (g + 1).toNat false)) := at_bls (by omega) (by rw [len]; omega)
      have a2 : atI (bls pad) g = some (.bl (pad.getD g.toNat false)) := at_bls (by omega) (by rw [len]; omega)
      try simp_arith [e_a4, a1, a2]
      have kk := k _ sm
      cases q1 : pad.getD (g + 1).toNat false with
      | false =>
        rw [q1] at kk
        simp at kk ⊢
        exact kk
      | true =>
        rw [q1] at kk
        by_cases c3 : 0 < g
        · cases q2 : pad.getD g.toNat false with
          | false => rw [q2] at kk; simp [c3] at kk ⊢; exact kk
          | true => rw [q2] at kk; simp [c3] at kk ⊢; exact kk
        · simp [c3] at kk ⊢; exact kk
inductive sp_llet  (vs : List V) (H : Hp) (Q : VK) (E_ : XK) : Prop
  | mk (b : SA) (m : Md) (g : Int) (z0 : vs = [.ref b.q, .int g]) (z1 : StAt H b m) (z2 : 0 ≤ g) (z3 : g ≤ m.high.length) (z4 : ∀ H', StAt H' b (m.let g) → But b.foot H H' → Q .non H') : sp_llet  vs H Q E_
theorem sc_l_let : FnScope ["state", "gate", "many"] ["state", "gate"] (defScope s_l_let) := ⟨rfl, rfl, rfl, by decide +kernel, rfl, by decide +kernel, by decide +kernel⟩
set_option maxHeartbeats 800000 in
theorem ok_l_let (T : Txt w K mg t) : FnOk P w K mg base (CXe P w) 1 t.f_l_let t.d_l_let ["state", "gate"] (sp_llet) := by
  refine okX T.F_l_let sc_l_let (fun vs H Q E h => ?_) (fun cdv A outer s H vs Q E hr h => ?_)
  · obtain ⟨b, m, g, rfl, _⟩ := h; rfl
  · obtain ⟨b, m, g, rfl, hF, g0, g1, k⟩ := h
    have hu1 := hu_of hr
    have h1 := hF.1
    have h2 := hF.2
    refine ⟨_, (pss_cons (ps_set (i := 2) sc_l_let.nd rfl (Or.inl rfl) (pe_callB cu_len rfl T.z_len PySem.boot_len (pa_cons (eu_dget hu1 (pu 0) pe_str) pa_nil)))
 (pss_cons (ps_if (tu_cmp ou_lt (pu 1) (pu 2) (nomark _)) (pss_one (su_lput (eu_dget hu1 (pu 0) pe_str) (pu 1) pe_bl)) pss_nil)
 (pss_cons (ps_if (tu_cmp ou_gt (pu 1) pe_int (nomark _)) (pss_one (su_lput (eu_dget hu1 (pu 0) pe_str) (pe_op ou_sub (pu 1) pe_int) pe_bl)) pss_nil)
 (pss_cons (su_dput hu1 (pu 0) pe_str (pe_op ou_add (eu_dget hu1 (pu 0) pe_str) (pe_callTy cu_int rfl T.z_int PyProof.Rows.boot_int (pa_cons (pe_cmpR (ou_eq hr.units) (pu 1) (pu 2) (nomark _)) pa_nil))))
 (pss_one (su_dput hu1 (pu 0) pe_str (pe_op ou_add (eu_dget hu1 (pu 0) pe_str) (pe_callTy cu_int rfl T.z_int PyProof.Rows.boot_int (pa_cons (pe_cmpR (ou_eq hr.units) (pu 1) pe_int (nomark _)) pa_nil))))))))), ?_⟩
    refine seqG fun Ra hRa => ?_
    try simp_arith [h1, h2, st_high, len_bls]
    subst hRa
    refine seqG fun Ra hRa => ?_
    have key2 : ∀ (H1 : Hp) (h : List Bool), StAt H1 b { m with high := h } → But b.foot H H1 → h = (if g < m.high.length then m.high.set g.toNat false else m.high) →
        Ra { nx := fun x H' => Q V.non H', rt := Q } [some (V.ref b.q), some (V.int g), some (V.int m.high.length)] H1 := by
      intro H1 h F1 b1 eh
      have hl : h.length = m.high.length := by rw [eh]; split <;> simp
      have f1 := F1.1
      have eM : (m.let g).high = if 0 < g then h.set (g - 1).toNat true else h := by rw [eh]; rfl
      subst hRa
      refine seqG fun Ra hRa => ?_
      have key : ∀ (H1 : Hp) (h : List Bool), StAt H1 b { m with high := h } → But b.foot H H1 → h = (m.let g).high →
          Ra { nx := fun x H' => Q V.non H', rt := Q } [some (V.ref b.q), some (V.int g), some (V.int m.high.length)] H1 := by
        intro H1 h F1 b1 eh
        have f1 := F1.1
        subst hRa
        refine seqG fun Ra hRa => ?_
        try simp_arith [f1, st_drawn, st_putD, st_len]
        refine ⟨by decide, ?_⟩
        have F2 := F1.setWater (m.drawn + (if decide (V.int g = V.int (m.high.length : Int)) = true then 1 else 0)) m.out
        have b2 := b1.trans (But.upd (H := H1) (o := .dK (stk b (m.drawn + (if decide (V.int g = V.int (m.high.length : Int)) = true then 1 else 0)) m.out)) (sq b))
        generalize upd H1 b.q (.dK (stk b (m.drawn + (if decide (V.int g = V.int (m.high.length : Int)) = true then 1 else 0)) m.out)) = H2 at *
        have f1 := F2.1
        subst hRa
        try simp_arith [f1, st_out, st_putO, st_len]
        refine ⟨by decide, ?_⟩
        have F3 := F2.setWater (m.drawn + (if decide (V.int g = V.int (m.high.length : Int)) = true then 1 else 0)) (m.out + (if decide (V.int g = V.int 0) = true then 1 else 0))
        refine k _ ?_ (b2.trans (But.upd (sq b)))
        have e : m.let g = { m with high := h, drawn := m.drawn + (if decide (V.int g = V.int (m.high.length : Int)) = true then 1 else 0), out := m.out + (if decide (V.int g = V.int 0) = true then 1 else 0) } := by
          rw [eh]
          unfold Md.let
          simp
        rw [e]
        exact F3
      refine ifG fun T1 U1 hT1 hU1 => ?_
      by_cases c : 0 < g
      · rw [if_pos c] at eM
        have f2' : H1 b.h = some (.lst (bls h)) := F1.2
        try simp_arith [c, decide_true]
        subst hT1
        try simp_arith [f1, f2', st_high, len_bls]
        rw [ixN_nat (by omega) (by omega)]
        simp only [set_bls]
        exact key _ _ (F1.setHigh _) (b1.trans (But.upd (sh b))) eM.symm
      · rw [if_neg c] at eM
        try simp_arith [c, decide_false]
        subst hU1
        exact key _ _ F1 b1 eM.symm
    refine ifG fun T1 U1 hT1 hU1 => ?_
    by_cases c : g < m.high.length
    · try simp_arith [c, decide_true]
      subst hT1
      try simp_arith [h1, h2, st_high, len_bls]
      rw [ixN_nat (by omega) (by omega)]
      simp only [set_bls]
      exact key2 _ _ (hF.setHigh _) (But.upd (sh b)) (by rw [if_pos c])
    · try simp_arith [c, decide_false]
      subst hU1
      exact key2 _ _ hF (But.refl _ _) (by rw [if_neg c])
end
section
variable {P : Program} {w : World} {K : PySem.W.Frag} {mg : Str → Option Value} {base : Heap} {t : Adr}
inductive sp_lnew  (vs : List V) (H : Hp) (Q : VK) (E_ : XK) : Prop
  | mk (l : Addr) (lv : List Bool) (z0 : vs = [.ref l]) (z1 : H l = some (.lst (bls lv))) (z2 : ∀ b H', Same H H' → (∀ y ∈ b.foot, H y = none) → StAt H' b (Md.new lv) → Q (.ref b.q) H') : sp_lnew  vs H Q E_
theorem sc_l_new : FnScope ["levels"] ["levels"] (defScope s_l_new) := ⟨rfl, rfl, rfl, by decide +kernel, rfl, by decide +kernel, by decide +kernel⟩
set_option maxHeartbeats 800000 in
theorem ok_l_new (T : Txt w K mg t) : FnOk P w K mg base (CXe P w) 1 t.f_l_new t.d_l_new ["levels"] (sp_lnew) := by
  refine okX T.F_l_new sc_l_new (fun vs H Q E h => ?_) (fun cdv A outer s H vs Q E hr h => ?_)
  · obtain ⟨l, lv, rfl, _⟩ := h; rfl
  · obtain ⟨l, lv, rfl, hl, k⟩ := h
    refine ⟨_, (pss_one (ps_ret (pe_disp (pps_cons pe_str (pe_callTy cu_list rfl T.z_list PyProof.Rows.boot_list (pa_cons (pu 0) pa_nil)) (pps_cons pe_str (pe_lst pa_nil) (pps_cons pe_str pe_dnewK (pps_cons pe_str (pe_lst pa_nil) (pps_cons pe_str pe_int (pps_cons pe_str pe_int pps_nil)))))) rfl rfl (by intro z; cases z) (by decide)))), ?_⟩
    try simp_arith [tDisp, tPairs]
    intro q n_q
    have d_q := ne_of_none hl n_q
    have n_q0 := n_q
    have sm_H1 := same_new (o := HO.dK []) n_q
    have e_q : upd H q (HO.dK []) q = some (HO.dK []) := upd_same
    replace hl := sm_H1 _ _ hl
    generalize upd H q (HO.dK []) = H1 at *
    try simp_arith [hl]
    intro h n_h
    have g_h := same_was sm_H1 n_h
    have qh := ne_of_none e_q n_h
    have sm_H2 := same_new (o := HO.lst (bls lv)) n_h
    have e_h : upd H1 h (HO.lst (bls lv)) h = some (HO.lst (bls lv)) := upd_same
    replace hl := sm_H2 _ _ hl
    replace e_q := sm_H2 _ _ e_q
    generalize upd H1 h (HO.lst (bls lv)) = H2 at *
    refine ⟨by decide, fun s n_s => ?_⟩
    have g_s := same_was (sm_H1.trans sm_H2) n_s
    have qs := ne_of_none e_q n_s
    have hs := ne_of_none e_h n_s
    have sm_H3 := same_new (o := HO.lst []) n_s
    have e_s : upd H2 s (HO.lst []) s = some (HO.lst []) := upd_same
    replace hl := sm_H3 _ _ hl
    replace e_q := sm_H3 _ _ e_q
    replace e_h := sm_H3 _ _ e_h
    generalize upd H2 s (HO.lst []) = H3 at *
    intro p n_p
    have g_p := same_was ((sm_H1.trans sm_H2).trans sm_H3) n_p
    have qp := ne_of_none e_q n_p
    have hp := ne_of_none e_h n_p
    have sp := ne_of_none e_s n_p
    have sm_H4 := same_new (o := HO.dK []) n_p
    have e_p : upd H3 p (HO.dK []) p = some (HO.dK []) := upd_same
    replace hl := sm_H4 _ _ hl
    replace e_q := sm_H4 _ _ e_q
    replace e_h := sm_H4 _ _ e_h
    replace e_s := sm_H4 _ _ e_s
    generalize upd H3 p (HO.dK []) = H4 at *
    refine ⟨by decide, fun u n_u => ?_⟩
    have g_u := same_was (((sm_H1.trans sm_H2).trans sm_H3).trans sm_H4) n_u
    have qu := ne_of_none e_q n_u
    have hu := ne_of_none e_h n_u
    have su := ne_of_none e_s n_u
    have pu' := ne_of_none e_p n_u
    have sm_H5 := same_new (o := HO.lst []) n_u
    have e_u : upd H4 u (HO.lst []) u = some (HO.lst []) := upd_same
    replace hl := sm_H5 _ _ hl
    replace e_q := sm_H5 _ _ e_q
    replace e_h := sm_H5 _ _ e_h
    replace e_s := sm_H5 _ _ e_s
    replace e_p := sm_H5 _ _ e_p
    generalize upd H4 u (HO.lst []) = H5 at *
    have sm := (((sm_H1.trans sm_H2).trans sm_H3).trans sm_H4).trans sm_H5
    refine ⟨e_q, [(.inr "high", .ref h), (.inr "sides", .ref s), (.inr "places", .ref p), (.inr "through", .ref u), (.inr "drawn", .int 0), (.inr "out", .int 0)], rfl, by simp, ?_⟩
    rw [show mergeK [] [(Sum.inr (Str.ofString "high"), V.ref h), (Sum.inr (Str.ofString "sides"), V.ref s), (Sum.inr (Str.ofString "places"), V.ref p), (Sum.inr (Str.ofString "through"), V.ref u), (Sum.inr (Str.ofString "drawn"), V.int 0), (Sum.inr (Str.ofString "out"), V.int 0)] = stk ⟨q, h, s, p, u⟩ 0 0 from rfl]
    refine k ⟨q, h, s, p, u⟩ _ (fun b o e => ?_) ?_ ⟨upd_same, ?_, ?_, ?_, ?_, ?_⟩
    · rw [upd_ne (ne_of_none e n_q0)]; exact sm b o e
    · intro y hy
      simp only [SA.foot, List.mem_cons, List.not_mem_nil, or_false] at hy
      rcases hy with rfl | rfl | rfl | rfl | rfl <;> assumption
    · rw [upd_ne qh.symm]; exact e_h
    · rw [upd_ne qs.symm]; exact e_s
    · rw [upd_ne qp.symm]; exact e_p
    · rw [upd_ne qu.symm]; exact e_u
    · simp only [SA.foot, List.nodup_cons, List.mem_cons, List.not_mem_nil, or_false, not_or, List.nodup_nil, and_true, not_false_eq_true]
      exact ⟨⟨qh, qs, qp, qu⟩, ⟨hs, hp, hu⟩, ⟨sp, su⟩, pu'⟩
end
theorem val_plV (b : Int) : ∀ l : List (Int × Int), valV (plV l) (Sum.inl b : Key) = (l.lookup b).map V.int
  | [] => rfl
  | (c, p) :: r => by
    have ih := val_plV b r
    unfold plV at ih ⊢
    rw [List.map_cons, List.lookup_cons]
    by_cases e : c = b
    · subst e
      rw [valV_pos rfl]
      simp
    · rw [valV_neg (by simpa using e), ih]
      have : (b == c) = false := by simpa using fun z : b = c => e z.symm
      rw [this]
theorem drop_plV (b : Int) (l : List (Int × Int)) : dropK (plV l) (Sum.inl b : Key) = plV (dropAt b l) := by
  unfold dropK plV dropAt
  rw [List.filter_map]
  congr 1
  apply List.filter_congr
  intro x _
  simp
theorem any_plV (b : Int) (l : List (Int × Int)) : ((plV l).any fun kv => decide (kv.1 = (Sum.inl b : Key))) = (l.lookup b).isSome := by
  rw [valV_any, val_plV]; cases l.lookup b <;> rfl
theorem put_old {b p q : Int} {l : List (Int × Int)} (nd : (l.map (·.1)).Pairwise (· < ·)) (h : l.lookup b = some q) : putK (plV l) (Sum.inl b : Key) (.int p) = plV (Lf.putAt b p l) := by
  unfold putK
  rw [any_plV, h, if_pos (by rfl)]
  clear h
  induction l with
  | nil => rfl
  | cons x r ih =>
    obtain ⟨c, z⟩ := x
    rw [List.map_cons, List.pairwise_cons] at nd
    have ih := ih nd.2
    unfold plV at ih ⊢
    rw [List.map_cons, List.map_cons]
    unfold Lf.putAt
    by_cases e : c = b
    · subst e
      rw [if_pos rfl, if_pos rfl, List.map_cons]
      congr 1
      rw [List.map_map]
      apply List.map_congr_left
      intro y hy
      have : c < y.1 := nd.1 y.1 (List.mem_map.mpr ⟨y, hy, rfl⟩)
      have : ¬ y.1 = c := by omega
      simp [this]
    · rw [if_neg (by simpa using e), if_neg e, List.map_cons, ih]
theorem put_new {b p : Int} {l : List (Int × Int)} (h : l.lookup b = none) : putK (plV l) (Sum.inl b : Key) (.int p) = plV (l ++ [(b, p)]) := by
  unfold putK
  rw [any_plV, h, if_neg (by simp)]
  unfold plV; simp
theorem drop_put {b p : Int} {l : List (Int × Int)} : dropAt b (Lf.putAt b p l) = dropAt b l := by
  induction l with
  | nil => rfl
  | cons x r ih =>
    obtain ⟨c, z⟩ := x
    unfold Lf.putAt
    by_cases e : c = b
    · subst e; simp [dropAt]
    · rw [if_neg e]; unfold dropAt at ih ⊢; rw [List.filter_cons, List.filter_cons, ih]
theorem look_put {b p q : Int} {l : List (Int × Int)} (h : l.lookup b = some q) : (Lf.putAt b p l).lookup b = some p := by
  induction l with
  | nil => cases h
  | cons x r ih =>
    obtain ⟨c, z⟩ := x
    unfold Lf.putAt
    by_cases e : c = b
    · subst e; simp
    · have e' : (b == c) = false := by simpa using fun w : b = c => e w.symm
      rw [List.lookup_cons, e'] at h
      rw [if_neg e, List.lookup_cons, e']
      exact ih h
theorem keys_plV (l : List (Int × Int)) : (plV l).map (fun q => kV q.1) = intV (l.map (·.1)) := by unfold plV intV; rw [List.map_map, List.map_map]; rfl
theorem len_plV (l : List (Int × Int)) : (plV l).length = l.length := by unfold plV; simp
theorem st_sides (b : SA) (dr ou : Int) : valV (stk b dr ou) (Sum.inr "sides") = some (.ref b.s) := rfl
theorem st_places (b : SA) (dr ou : Int) : valV (stk b dr ou) (Sum.inr "places") = some (.ref b.p) := rfl
theorem st_through (b : SA) (dr ou : Int) : valV (stk b dr ou) (Sum.inr "through") = some (.ref b.t) := rfl
theorem StAt.setPl {H : Hp} {b : SA} {m : Md} (F : StAt H b m) (h : List (Int × Int)) : StAt (upd H b.p (.dK (plV h))) b { m with places := h } := by
  obtain ⟨⟨_, _, n1, _⟩, ⟨_, n2, _⟩, ⟨n3, _⟩, n4⟩ := F.ne
  obtain ⟨h1, h2, h3, h4, h5, h6⟩ := F
  exact ⟨by rw [upd_ne n1]; exact h1, by rw [upd_ne n2]; exact h2, by rw [upd_ne n3]; exact h3, upd_same, by rw [upd_ne n4.symm]; exact h5, h6⟩
theorem StAt.setSd {H : Hp} {b : SA} {m : Md} (F : StAt H b m) (h : List Bool) : StAt (upd H b.s (.lst (sidV h))) b { m with sides := h } := by
  obtain ⟨⟨_, n1, _, _⟩, ⟨n2, _, _⟩, ⟨n3, n4⟩, _⟩ := F.ne
  obtain ⟨h1, h2, h3, h4, h5, h6⟩ := F
  exact ⟨by rw [upd_ne n1]; exact h1, by rw [upd_ne n2]; exact h2, upd_same, by rw [upd_ne n3.symm]; exact h4, by rw [upd_ne n4.symm]; exact h5, h6⟩
theorem StAt.setTh {H : Hp} {b : SA} {m : Md} (F : StAt H b m) (h : List Int) : StAt (upd H b.t (.lst (intV h))) b { m with through := h } := by
  obtain ⟨⟨_, _, _, n1⟩, ⟨_, _, n2⟩, ⟨_, n3⟩, n4⟩ := F.ne
  obtain ⟨h1, h2, h3, h4, h5, h6⟩ := F
  exact ⟨by rw [upd_ne n1]; exact h1, by rw [upd_ne n2]; exact h2, by rw [upd_ne n3]; exact h3, by rw [upd_ne n4]; exact h4, upd_same, h6⟩
theorem sp' (b : SA) : b.p ∈ b.foot := by simp [SA.foot]
theorem ss' (b : SA) : b.s ∈ b.foot := by simp [SA.foot]
theorem st' (b : SA) : b.t ∈ b.foot := by simp [SA.foot]
def wordS : SailR → Str
  | .noBoat => "no boat"
  | .notFirst => "not first"
  | .shut => "shut"
  | .occupied => "occupied"
  | .done => "done"
theorem at2 (x y : V) (b : Bool) : atI [x, y] (if b = true then 1 else 0) = some (if b = true then y else x) := by cases b <;> rfl
structure MOk (m : Md) : Prop where
  key : ∀ x ∈ m.places, 0 ≤ x.1 ∧ x.1 < (m.sides.length : Int)
  asc : m.keys.Pairwise (· < ·)
  hz : m.high.length ≤ 100
  pz : m.places.length ≤ 60
  rng : ∀ x ∈ m.places, 0 ≤ x.2 ∧ x.2 ≤ (m.high.length : Int) + 1
  lo : ∀ x ∈ m.places, x.2 = 0 → m.side x.1 = false
  hi : ∀ x ∈ m.places, x.2 = (m.high.length : Int) + 1 → m.side x.1 = true
theorem MOk.gate {m : Md} (O : MOk m) {b here : Int} (h : m.places.lookup b = some here) : 0 ≤ min here (stepOf (m.side b) here) ∧ min here (stepOf (m.side b) here) ≤ m.high.length := by
  have mem := lookup_mem h
  have r := O.rng _ mem
  have l := O.lo _ mem
  have u := O.hi _ mem
  dsimp only at r l u
  unfold stepOf
  cases e : m.side b with
  | false => rw [e] at u; have : ¬ here = (m.high.length : Int) + 1 := fun z => by cases u z
             simp; omega
  | true => rw [e] at l; have : ¬ here = 0 := fun z => by cases l z
            simp; omega
theorem flt_intV (p : Int → Bool) (l : List Int) : List.map id (List.filter (fun v => match v with | .int one => p one | _ => false) (intV l)) = intV (l.filter p) := by
  unfold intV
  rw [List.map_id, List.filter_map]
  rfl
theorem in2 (x a b : Int) : inV (.int x) [.int a, .int b] = (decide (x = a) || decide (x = b)) := by
  have e : ∀ p q : Int, (p == q) = decide (q = p) := fun p q => by
    by_cases z : p = q
    · subst z; simp
    · have z' : ¬ q = p := fun w => z w.symm
      simp [z, z']
  simp only [inV, eqV, List.any_cons, List.any_nil, Bool.or_false, e]
theorem shut_join {a b : Bool} {X R : Prop} (h1 : (!a || b) = true → X) (h2 : (!a || b) = false → R) : if (!a) = true then X else if b = true then X else R := by
  cases a <;> cases b <;> first | exact h1 rfl | exact h2 rfl
theorem and3 {q1 q2 q3 : Bool} {A B : Prop} (h1 : (q1 && q2 && q3) = true → A) (h2 : (q1 && q2 && q3) = false → B) : if q1 = true then (if q2 = true then (if q3 = true then A else B) else B) else B := by
  cases q1 <;> cases q2 <;> cases q3 <;> first | exact h1 rfl | exact h2 rfl
section
variable {P : Program} {w : World} {K : PySem.W.Frag} {mg : Str → Option Value} {base : Heap} {t : Adr}
inductive sp_then  (vs : List V) (H : Hp) (Q : VK) (E_ : XK) : Prop
  | mk (S : SA) (m : Md) (b here : Int) (z0 : vs = [.ref S.q, .int b]) (z1 : StAt H S m) (z2 : m.places.lookup b = some here) (z3 : 0 ≤ b) (z4 : b < (m.sides.length : Int)) (z5 : ∀ H', Same H H' → Q (.int (stepOf (m.side b) here)) H') : sp_then  vs H Q E_
theorem sc_l_then : FnScope ["state", "boat"] ["state", "boat"] (defScope s_l_then) := ⟨rfl, rfl, rfl, by decide +kernel, rfl, by decide +kernel, by decide +kernel⟩
set_option maxHeartbeats 800000 in
theorem ok_l_then (T : Txt w K mg t) : FnOk P w K mg base (CXe P w) 1 t.f_l_then t.d_l_then ["state", "boat"] (sp_then) := by
  refine okX T.F_l_then sc_l_then (fun vs H Q E h => ?_) (fun cdv A outer s H vs Q E hr h => ?_)
  · obtain ⟨b, m, g, here, rfl, _⟩ := h; rfl
  · obtain ⟨S, m, b, here, rfl, hF, hl, b0, b1, k⟩ := h
    have hu1 := hu_of hr
    obtain ⟨h1, h2, h3, h4, h5, h6⟩ := id hF
    have hv := val_plV b m.places
    rw [hl] at hv
    refine ⟨_, (pss_one (ps_ret (pe_op ou_add (eu_dget hu1 (eu_dget hu1 (pu 0) pe_str) (pu 1)) (eu_ix xu_seq (pe_lst (pa_cons pe_int (pa_cons (pe_un uu_neg pe_int) pa_nil))) (pe_callTy cu_int rfl T.z_int PyProof.Rows.boot_int (pa_cons (pe_cmpR (ou_eq hr.units) (eu_ix xu_seq (eu_dget hu1 (pu 0) pe_str) (pu 1)) pe_str (nomark _)) pa_nil)))))), ?_⟩
    try simp_arith [h1, h4, st_places, hv, Option.map_some]
    refine ⟨by decide, fun l n_l => ?_⟩
    have sm_H1 := same_new (o := HO.lst [V.int 1, V.int (negI 1)]) n_l
    have e_l : upd H l (HO.lst [V.int 1, V.int (negI 1)]) l = some (HO.lst [V.int 1, V.int (negI 1)]) := upd_same
    replace h1 := sm_H1 _ _ h1
    replace h3 := sm_H1 _ _ h3
    generalize upd H l (HO.lst [V.int 1, V.int (negI 1)]) = H1 at *
    try simp_arith [h1, h3, st_sides, at_sidV b0 b1, sid_eq, sid_dn, e_l, at2]
    have k' := k _ sm_H1
    unfold Md.side at k'
    cases hsd : m.sides.getD b.toNat false <;> rw [hsd] at k' <;> exact And.intro trivial k'
inductive sp_sword  (vs : List V) (H : Hp) (Q : VK) (E_ : XK) : Prop
  | mk (S : SA) (m : Md) (b : Int) (z0 : vs = [.ref S.q, .int b]) (z1 : StAt H S m) (z2 : MOk m) (z3 : ∀ H', Same H H' → Q (.str (wordS (m.sailWord b))) H') : sp_sword  vs H Q E_
theorem sc_l_sail_word : FnScope ["state", "boat", "places", "here", "many", "side", "ahead", "gate", "high", "then"] ["state", "boat"] (defScope s_l_sail_word) := ⟨rfl, rfl, rfl, by decide +kernel, rfl, by decide +kernel, by decide +kernel⟩
set_option maxHeartbeats 800000 in
theorem ok_l_sail_word (T : Txt w K mg t) : FnOk P w K mg base (CXe P w) 2 t.f_l_sail_word t.d_l_sail_word ["state", "boat"] (sp_sword) := by
  have G_l_then := ok_l_then (P := P) (w := w) (base := base) T
  refine okX T.F_l_sail_word sc_l_sail_word (fun vs H Q E h => ?_) (fun cdv A outer s H vs Q E hr h => ?_)
  · obtain ⟨S, m, b, rfl, _⟩ := h; rfl
  · obtain ⟨S, m, b, rfl, hF, O, k⟩ := h
    have hu1 := hu_of hr
    obtain ⟨h1, h2, h3, h4, h5, h6⟩ := id hF
    have hv := val_plV b m.places
    refine ⟨_, (pss_cons (ps_set (i := 2) sc_l_sail_word.nd rfl (Or.inr rfl) (eu_dget hu1 (pu 0) pe_str))
 (pss_cons (ps_if (tu_pc (cu_dnotin hu1 (pu 1) (pu 2))) (pss_one (ps_ret pe_str)) pss_nil)
 (pss_cons (ps_set (i := 3) sc_l_sail_word.nd rfl (Or.inr rfl) (eu_dget hu1 (pu 2) (pu 1)))
 (pss_cons (ps_set (i := 4) sc_l_sail_word.nd rfl (Or.inl rfl) (pe_callB cu_len rfl T.z_len PySem.boot_len (pa_cons (eu_dget hu1 (pu 0) pe_str) pa_nil)))
 (pss_cons (ps_set (i := 5) sc_l_sail_word.nd rfl (Or.inr rfl) (eu_ix xu_seq (eu_dget hu1 (pu 0) pe_str) (pu 1)))
 (pss_cons (ps_setComp (i := 6) sc_l_sail_word.nd rfl rfl (fv := ["here", "side", "boat", "places", "state"]) (ixs := [3, 5, 1, 2, 0]) rfl (by decide +kernel) rfl rfl (pi_listK (K := K) rfl (pe_callTy (cu_listD rfl) rfl T.z_list PyProof.Rows.boot_list (pa_cons (pu 2) pa_nil))) (fun cl C s H fp => (pif_one (PW.pt (pw_and (tu_cmp (ou_eq hr.units) (eu_dget hu1 (pu 4) (pu 0)) (pu 1) (nomark _)) (pw_and (tu_cmp (ou_eq hr.units) (eu_ix xu_seq (eu_dget hu1 (pu 5) pe_str) (pu 0)) (pu 2) (nomark _)) (pw_and1 (tu_cmp ou_lt (pu 0) (pu 3) (nomark _)))))))) (fun cl C s H fp => (pu 0)))
 (pss_cons (ps_if (PW.pt (pw_and (tu_cmp ou_in (pu 3) (pe_tup (pa_cons pe_int (pa_cons (pe_op ou_add (pu 4) pe_int) pa_nil))) rfl) (pw_and1 (tu_cmp ou_gt (pe_callB cu_len rfl T.z_len PySem.boot_len (pa_cons (pu 6) pa_nil)) pe_int (nomark _))))) (pss_one (ps_ret pe_str)) pss_nil)
 (pss_cons (ps_set (i := 7) sc_l_sail_word.nd rfl (Or.inl rfl) (pe_callB (cu_min rfl) rfl T.z_min PyProof.Rows.boot_min (pa_cons (pu 3) (pa_cons (eu_call G_l_then (hr.mono (by decide)) rfl T.g_l_then T.F_l_then.kp T.b_l_then passB (pa_cons (pu 0) (pa_cons (pu 1) pa_nil))) pa_nil))))
 (pss_cons (ps_set (i := 8) sc_l_sail_word.nd rfl (Or.inl rfl) (pe_op ou_add (pe_op ou_add (pe_lst (pa_cons pe_bl pa_nil)) (eu_dget hu1 (pu 0) pe_str)) (pe_lst (pa_cons pe_bl pa_nil))))
 (pss_cons (ps_if (PW.pt (pw_or (pt_not (tu_val (eu_ix xu_seq (pu 8) (pu 7)))) (pw_or1 (tu_val (eu_ix xu_seq (pu 8) (pe_op ou_add (pu 7) pe_int)))))) (pss_one (ps_ret pe_str)) pss_nil)
 (pss_cons (ps_set (i := 9) sc_l_sail_word.nd rfl (Or.inl rfl) (eu_call G_l_then (hr.mono (by decide)) rfl T.g_l_then T.F_l_then.kp T.b_l_then passB (pa_cons (pu 0) (pa_cons (pu 1) pa_nil))))
 (pss_cons (ps_if (PW.pt (pw_and (tu_chain ou_lt ou_le pe_int (pu 9) (pu 4)) (pw_and1 (tu_cmp ou_in (pu 9) (pe_comp (fv := ["places"]) (ixs := [2]) rfl (by decide +kernel) rfl rfl (pi_listK (K := K) rfl (pe_callTy (cu_listD rfl) rfl T.z_list PyProof.Rows.boot_list (pa_cons (pu 2) pa_nil))) (fun cl C s H fp => pif_nil) (fun cl C s H fp => (eu_dget hu1 (pu 1) (pu 0)))) rfl)))) (pss_one (ps_ret pe_str)) pss_nil)
 (pss_one (ps_ret pe_str)))))))))))))), ?_⟩
    refine seqG fun R hR => ?_
    try simp_arith [h1, st_places]
    subst hR
    refine seqG fun R hR => ?_
    try simp_arith [h4, hv]
    unfold Md.sailWord at k
    cases hl : m.places.lookup b with
    | none =>
      rw [hl] at k
      try simp_arith [Option.map_none, Option.isSome_none, Bool.not_false]
      exact k _ (Same.refl _)
    | some here =>
      rw [hl] at k
      try dsimp only at k
      have mem := lookup_mem hl
      obtain ⟨b0, b1⟩ := O.key _ mem
      dsimp only at b0 b1
      try simp_arith [Option.map_some, Option.isSome_some, Bool.not_true]
      subst hR
      refine seqG fun R hR => ?_
      try simp_arith [h4, hv, hl, Option.map_some]
      subst hR
      refine seqG fun R hR => ?_
      try simp_arith [h1, h2, st_high, len_bls]
      subst hR
      refine seqG fun R hR => ?_
      try simp_arith [h1, h3, st_sides, at_sidV b0 b1]
      subst hR
      refine seqG fun R hR => ?_
      try simp_arith [h4, iList, keys_plV]
      intro l n_l
      have sm_H1 := same_new (o := HO.lst (intV (m.places.map fun x => x.1))) n_l
      have e_l : upd H l (HO.lst (intV (m.places.map fun x => x.1))) l = some (HO.lst (intV (m.places.map fun x => x.1))) := upd_same
      replace h1 := sm_H1 _ _ h1
      replace h2 := sm_H1 _ _ h2
      replace h3 := sm_H1 _ _ h3
      replace h4 := sm_H1 _ _ h4
      generalize upd H l (HO.lst (intV (m.places.map fun x => x.1))) = H1 at *
      refine ⟨l, rfl, ⟨_, .inl (.inl e_l)⟩, comp_list (fun v => match v with | .int one => (m.places.lookup one == some here) && (m.side one == m.side b) && decide (one < b) | _ => false) id (.inl (.inl e_l)) ?_ ?_ ?_⟩
      · rw [len_intV, List.length_map]
        exact Nat.le_trans O.pz (by decide)
      · intro x hx H2 s2 Rt Rf hRt hRf
        obtain ⟨one, hone, rfl⟩ := List.mem_map.mp hx
        obtain ⟨⟨one', p1⟩, hm1, rfl⟩ := List.mem_map.mp hone
        have g1 := s2 _ _ h1
        have g3 := s2 _ _ h3
        have g4 := s2 _ _ h4
        obtain ⟨o0, o1⟩ := O.key _ hm1
        dsimp only at o0 o1
        have hlo : m.places.lookup one' = some p1 := mem_lookup O.asc hm1
        have hv1 := val_plV one' m.places
        rw [hlo] at hv1
        try simp_arith [g1, g3, g4, hv1, st_sides, at_sidV o0 o1, Option.map_some, sid_eq]
        dsimp only at hRt hRf
        rw [hlo] at hRt hRf
        have e1 : decide (V.int p1 = V.int here) = (some p1 == some here) := by
          by_cases z : p1 = here
          · subst z; simp
          · simp [z]
        have e2 : decide (V.str (if m.sides.getD one'.toNat false = true then Str.ofString "down" else Str.ofString "up") = V.str (if m.sides.getD b.toNat false = true then Str.ofString "down" else Str.ofString "up")) = (m.side one' == m.side b) := by
          unfold Md.side
          cases m.sides.getD one'.toNat false <;> cases m.sides.getD b.toNat false <;> decide
        rw [e1, e2]
        generalize (some p1 == some here) = q1 at *
        generalize (m.side one' == m.side b) = q2 at *
        generalize decide (one' < b) = q3 at *
        exact and3 (fun z => hRt z _ s2) (fun z => hRf z _ s2)
      · intro H2 s2 D n_D
        rw [flt_intV]
        have eah : (m.places.map fun x => x.1).filter (fun one => m.places.lookup one == some here && m.side one == m.side b && decide (one < b)) = m.ahead b here := rfl
        rw [eah]
        replace h1 := s2 _ _ h1
        replace h2 := s2 _ _ h2
        replace h3 := s2 _ _ h3
        replace h4 := s2 _ _ h4
        have n_D0 := n_D
        have sm_H3 := same_new (o := HO.lst (intV (m.ahead b here))) n_D
        have e_D : upd H2 D (HO.lst (intV (m.ahead b here))) D = some (HO.lst (intV (m.ahead b here))) := upd_same
        replace h1 := sm_H3 _ _ h1
        replace h2 := sm_H3 _ _ h2
        replace h3 := sm_H3 _ _ h3
        replace h4 := sm_H3 _ _ h4
        generalize upd H2 D (HO.lst (intV (m.ahead b here))) = H3 at *
        have S3 : Same H H3 := (sm_H1.trans s2).trans sm_H3
        subst hR
        refine seqG fun R hR => ?_
        try simp_arith [true_and]
        refine ⟨by decide, fun tp n_tp => ?_⟩
        have sm_H4 := same_new (o := HO.tup [V.int 0, V.int (m.high.length + 1)]) n_tp
        have e_tp : upd H3 tp (HO.tup [V.int 0, V.int (m.high.length + 1)]) tp = some (HO.tup [V.int 0, V.int (m.high.length + 1)]) := upd_same
        replace h1 := sm_H4 _ _ h1
        replace h2 := sm_H4 _ _ h2
        replace h3 := sm_H4 _ _ h3
        replace h4 := sm_H4 _ _ h4
        replace e_D := sm_H4 _ _ e_D
        generalize upd H3 tp (HO.tup [V.int 0, V.int (m.high.length + 1)]) = H4 at *
        have S4 := S3.trans sm_H4
        try simp_arith [e_tp, e_D, len_intV, in2, flatV, List.all_cons, List.all_nil, Bool.and_true]
        refine join3 (d := 0 < (m.ahead b here).length) (fun c d hR => ?_) (fun c d => ?_) (fun c => ?_)
        · rw [if_neg (fun z => d (by have := of_decide_eq_true z; omega))]; exact hR
        · rw [if_pos ⟨by simpa using c, d⟩] at k
          rw [if_pos (decide_eq_true (by omega))]
          exact k _ S4
        rw [if_neg (by simpa using c)] at k
        have F4 : StAt H4 S m := hF.same S4
        obtain ⟨g0, g1⟩ := O.gate hl
        subst hR
        refine seqG fun R hR => ?_
        try simp_arith [true_and]
        refine ⟨S, m, b, here, rfl, F4, hl, b0, b1, fun H5 s5 => ?_⟩
        have F5 := F4.same s5
        obtain ⟨h1, h2, h3, h4, _, _⟩ := id F5
        try simp_arith [min_if]
        generalize hgate : min here (stepOf (m.side b) here) = gate at *
        generalize hth : stepOf (m.side b) here = th at *
        subst hR
        refine seqG fun R hR => ?_
        try simp_arith [h1, st_high]
        refine ⟨by decide, fun a1 n_a1 => ?_⟩
        have sm_H6 := same_new (o := HO.lst [V.bl true]) n_a1
        have e_a1 : upd H5 a1 (HO.lst [V.bl true]) a1 = some (HO.lst [V.bl true]) := upd_same
        replace h1 := sm_H6 _ _ h1
        replace h2 := sm_H6 _ _ h2
        generalize upd H5 a1 (HO.lst [V.bl true]) = H6 at *
        try simp_arith [h1, h2, e_a1, st_high]
        have hz := O.hz
        refine ⟨by simp [len_bls]; exact Nat.le_trans (by omega : _ ≤ 1000) (by decide), fun a2 n_a2 => ?_⟩
        have sm_H7 := same_new (o := HO.lst (V.bl true :: bls m.high)) n_a2
        have e_a2 : upd H6 a2 (HO.lst (V.bl true :: bls m.high)) a2 = some (HO.lst (V.bl true :: bls m.high)) := upd_same
        replace h1 := sm_H7 _ _ h1
        replace h2 := sm_H7 _ _ h2
        generalize upd H6 a2 (HO.lst (V.bl true :: bls m.high)) = H7 at *
        refine ⟨by decide, fun a3 n_a3 => ?_⟩
        have sm_H8 := same_new (o := HO.lst [V.bl false]) n_a3
        have e_a3 : upd H7 a3 (HO.lst [V.bl false]) a3 = some (HO.lst [V.bl false]) := upd_same
        replace h1 := sm_H8 _ _ h1
        replace h2 := sm_H8 _ _ h2
        replace e_a2 := sm_H8 _ _ e_a2
        generalize upd H7 a3 (HO.lst [V.bl false]) = H8 at *
        try simp_arith [e_a2, e_a3]
        refine ⟨by simp [len_bls]; exact Nat.le_trans (by omega : _ ≤ 1000) (by decide), fun a4 n_a4 => ?_⟩
        have epad : V.bl true :: (bls m.high ++ [V.bl false]) = bls ([true] ++ m.high ++ [false]) := by unfold bls; simp
        rw [epad]
        have plen : ([true] ++ m.high ++ [false]).length = m.high.length + 2 := by simp
        unfold shutAt at k
        generalize [true] ++ m.high ++ [false] = pad at *
        have sm_H9 := same_new (o := HO.lst (bls pad)) n_a4
        have e_a4 : upd H8 a4 (HO.lst (bls pad)) a4 = some (HO.lst (bls pad)) := upd_same
        replace h1 := sm_H9 _ _ h1
        replace h2 := sm_H9 _ _ h2
        generalize upd H8 a4 (HO.lst (bls pad)) = H9 at *
        have S9 : Same H H9 := (((((S4.trans s5).trans sm_H6).trans sm_H7).trans sm_H8)).trans sm_H9
        subst hR
        refine seqG fun R hR => ?_
        have i1 : atI (bls pad) gate = some (.bl (pad.getD gate.toNat false)) := at_bls (by omega) (by rw [plen]; omega)
        have i2 : atI (bls pad) (gate + 1) = some (.bl (pad.getD (gate + 1).toNat false)) := at_bls (by omega) (by rw [plen]; omega)
        try simp_arith [e_a4, i1, i2]
        refine shut_join (fun c => ?_) (fun c => ?_)
        · rw [if_pos c] at k
          exact k _ S9
        rw [if_neg (by rw [c]; decide)] at k
        have F9 : StAt H9 S m := hF.same S9
        subst hR
        refine seqG fun R hR => ?_
        try simp_arith [true_and]
        refine ⟨S, m, b, here, rfl, F9, hl, b0, b1, fun H10 s10 => ?_⟩
        rw [hth]
        have F10 := F9.same s10
        have S10 := S9.trans s10
        obtain ⟨f1, f2, f3, f4, _, _⟩ := id F10
        subst hR
        refine seqG fun R hR => ?_
        try simp_arith [f4, iList, keys_plV]
        by_cases c0 : 0 < th
        · by_cases c1 : th ≤ (m.high.length : Int)
          · simp only [c0, c1, decide_true, if_true]
            intro lz n_lz
            have sm_H11 := same_new (o := HO.lst (intV (m.places.map fun x => x.1))) n_lz
            have e_lz : upd H10 lz (HO.lst (intV (m.places.map fun x => x.1))) lz = some (HO.lst (intV (m.places.map fun x => x.1))) := upd_same
            replace f4 := sm_H11 _ _ f4
            generalize upd H10 lz (HO.lst (intV (m.places.map fun x => x.1))) = H11 at *
            refine ⟨lz, rfl, ⟨_, .inl (.inl e_lz)⟩, comp_list (fun _ => true) (fun v => match v with | .int one => .int ((m.places.lookup one).getD 0) | _ => .non) (.inl (.inl e_lz)) ?_ ?_ ?_⟩
            · rw [len_intV, List.length_map]
              exact Nat.le_trans O.pz (by decide)
            · intro x hx H12 s12 Rt Rf hRt hRf
              obtain ⟨one, hone, rfl⟩ := List.mem_map.mp hx
              obtain ⟨⟨one', p1⟩, hm1, rfl⟩ := List.mem_map.mp hone
              have g4 := s12 _ _ f4
              have hlo : m.places.lookup one' = some p1 := mem_lookup O.asc hm1
              have hv1 := val_plV one' m.places
              rw [hlo] at hv1
              try simp_arith [g4, hv1, Option.map_some, tAll]
              have := hRt rfl _ s12
              dsimp only at this
              rw [hlo] at this
              exact this
            · intro H12 s12 D2 n_D2
              have el : List.map (fun v => match v with | V.int one => V.int ((m.places.lookup one).getD 0) | _ => V.non) (List.filter (fun _ => true) (intV (m.places.map fun x => x.1))) = intV (m.places.map fun x => x.2) := by
                rw [List.filter_eq_self.mpr (fun _ _ => rfl)]
                unfold intV
                rw [List.map_map, List.map_map, List.map_map]
                apply List.map_congr_left
                intro x hx
                have := mem_lookup O.asc (show (x.1, x.2) ∈ m.places from hx)
                simp [this]
              rw [el]
              have S12 := (S10.trans sm_H11).trans s12
              have sm_H13 := same_new (o := HO.lst (intV (m.places.map fun x => x.2))) n_D2
              have e_D2 : upd H12 D2 (HO.lst (intV (m.places.map fun x => x.2))) D2 = some (HO.lst (intV (m.places.map fun x => x.2))) := upd_same
              generalize upd H12 D2 (HO.lst (intV (m.places.map fun x => x.2))) = H13 at *
              try simp_arith [e_D2, flatV, flat_intV, in_intV]
              have S13 := S12.trans sm_H13
              by_cases c2 : th ∈ m.places.map fun x => x.2
              · rw [if_pos ⟨⟨c0, c1⟩, c2⟩] at k
                rw [if_pos (decide_eq_true c2)]
                exact k _ S13
              · rw [if_neg (fun z => c2 z.2)] at k
                rw [if_neg (fun z => c2 (of_decide_eq_true z))]
                subst hR
                exact k _ S13
          · rw [if_neg (fun z => c1 z.1.2)] at k
            simp only [c0, c1, decide_true, decide_false, if_true, Bool.false_eq_true, if_false]
            subst hR
            exact k _ S10
        · rw [if_neg (fun z => c0 z.1.1)] at k
          simp only [c0, decide_false, Bool.false_eq_true, if_false]
          subst hR
          exact k _ S10
end
theorem sorted_eq {l l' : List Int} (p : List.Perm l' l) (s : l'.Pairwise (· ≤ ·)) (a : l.Pairwise (· < ·)) : l' = l := by
  exact List.Perm.eq_of_pairwise (fun _ _ _ _ h1 h2 => Int.le_antisymm h1 h2) s (a.imp fun h => Int.le_of_lt h) p
theorem key_not {m : Md} (h : ∀ x ∈ m.places, 0 ≤ x.1 ∧ x.1 < (m.sides.length : Int)) : m.places.lookup (m.sides.length : Int) = none := by
  cases e : m.places.lookup (m.sides.length : Int) with
  | none => rfl
  | some p => have := h _ (lookup_mem e); dsimp only at this; omega
theorem come_val (b : Bool) (x : Int) : atI [V.int 0, V.int x] (if b = true then 1 else 0) = some (.int (if b = true then x else 0)) := by cases b <;> rfl
theorem orJ {a b : Bool} {X R : Prop} (h1 : (a || b) = true → X) (h2 : (a || b) = false → R) : if a = true then X else if b = true then X else R := by
  cases a <;> cases b <;> first | exact h1 rfl | exact h2 rfl
section
variable {P : Program} {w : World} {K : PySem.W.Frag} {mg : Str → Option Value} {base : Heap} {t : Adr}
inductive sp_lcome  (vs : List V) (H : Hp) (Q : VK) (E_ : XK) : Prop
  | mk (S : SA) (m : Md) (sd : Bool) (z0 : vs = [.ref S.q, sid sd]) (z1 : StAt H S m) (z2 : (∀ x ∈ m.places, 0 ≤ x.1 ∧ x.1 < (m.sides.length : Int))) (z3 : m.sides.length ≤ 1000) (z4 : m.places.length ≤ 1000) (z5 : ∀ H', StAt H' S (m.come sd) → But S.foot H H' → Q (.int m.sides.length) H') : sp_lcome  vs H Q E_
theorem sc_l_come : FnScope ["state", "side", "boat"] ["state", "side"] (defScope s_l_come) := ⟨rfl, rfl, rfl, by decide +kernel, rfl, by decide +kernel, by decide +kernel⟩
set_option maxHeartbeats 800000 in
theorem ok_l_come (T : Txt w K mg t) : FnOk P w K mg base (CXe P w) 1 t.f_l_come t.d_l_come ["state", "side"] (sp_lcome) := by
  refine okX T.F_l_come sc_l_come (fun vs H Q E h => ?_) (fun cdv A outer s H vs Q E hr h => ?_)
  · obtain ⟨S, m, sd, rfl, _⟩ := h; rfl
  · obtain ⟨S, m, sd, rfl, hF, hk, hz1, hz2, k⟩ := h
    have hu1 := hu_of hr
    obtain ⟨h1, h2, h3, h4, h5, h6⟩ := id hF
    refine ⟨_, (pss_cons (ps_set (i := 2) sc_l_come.nd rfl (Or.inl rfl) (pe_callB cu_len rfl T.z_len PySem.boot_len (pa_cons (eu_dget hu1 (pu 0) pe_str) pa_nil)))
 (pss_cons (ps_expr (eu_lm PySem.F.slot_list_append PySem.F.type_list_append mu_append (eu_dget hu1 (pu 0) pe_str) (pa_cons (pu 1) pa_nil)))
 (pss_cons (su_dput hu1 (eu_dget hu1 (pu 0) pe_str) (pu 2) (eu_ix xu_seq (pe_lst (pa_cons pe_int (pa_cons (pe_op ou_add (pe_callB cu_len rfl T.z_len PySem.boot_len (pa_cons (eu_dget hu1 (pu 0) pe_str) pa_nil)) pe_int) pa_nil))) (pe_callTy cu_int rfl T.z_int PyProof.Rows.boot_int (pa_cons (pe_cmpR (ou_eq hr.units) (pu 1) pe_str (nomark _)) pa_nil))))
 (pss_one (ps_ret (pu 2)))))), ?_⟩
    simp only [tSeq]
    try simp_arith [h1, h3, st_sides, len_sidV]
    simp only [tSeq]
    try simp_arith [h1, h3, st_sides, len_sidV]
    refine ⟨Nat.lt_of_le_of_lt hz1 (by decide), ?_⟩
    rw [app_sidV]
    have F2 := hF.setSd (m.sides ++ [sd])
    have b2 : But S.foot H (upd H S.s (.lst (sidV (m.sides ++ [sd])))) := But.upd (ss' S)
    generalize upd H S.s (.lst (sidV (m.sides ++ [sd]))) = H2 at *
    clear h1 h2 h3 h4 h5
    obtain ⟨h1, h2, h3, h4, h5, _⟩ := id F2
    dsimp only at h1 h2 h3 h4 h5
    simp only [tSeq]
    try simp_arith [h1, h2, st_high, len_bls, sid_eq, sid_dn]
    refine ⟨by decide, fun l n_l => ?_⟩
    have sm_H3 := same_new (o := HO.lst [V.int 0, V.int (m.high.length + 1)]) n_l
    have e_l : upd H2 l (HO.lst [V.int 0, V.int (m.high.length + 1)]) l = some (HO.lst [V.int 0, V.int (m.high.length + 1)]) := upd_same
    replace h1 := sm_H3 _ _ h1
    replace h2 := sm_H3 _ _ h2
    replace h4 := sm_H3 _ _ h4
    generalize upd H2 l (HO.lst [V.int 0, V.int (m.high.length + 1)]) = H3 at *
    try simp_arith [h1, h4, e_l, come_val, st_places, len_plV]
    refine ⟨Nat.lt_of_le_of_lt hz2 (by decide), ?_⟩
    rw [put_new (key_not hk)]
    have F3 := (F2.same sm_H3).setPl (m.places ++ [((m.sides.length : Int), if sd = true then (m.high.length : Int) + 1 else 0)])
    exact k _ F3 ((b2.trans (But.same sm_H3)).trans (But.upd (sp' S)))
inductive sp_lsail  (vs : List V) (H : Hp) (Q : VK) (E_ : XK) : Prop
  | mk (S : SA) (m : Md) (b here : Int) (z0 : vs = [.ref S.q, .int b]) (z1 : StAt H S m) (z2 : m.places.lookup b = some here) (z3 : MOk m) (z4 : m.through.length ≤ 1000) (z5 : ∀ H', StAt H' S (m.sail b) → But S.foot H H' → Q (.int (stepOf (m.side b) here)) H') : sp_lsail  vs H Q E_
theorem sc_l_sail : FnScope ["state", "boat", "then"] ["state", "boat"] (defScope s_l_sail) := ⟨rfl, rfl, rfl, by decide +kernel, rfl, by decide +kernel, by decide +kernel⟩
set_option maxHeartbeats 800000 in
theorem ok_l_sail (T : Txt w K mg t) : FnOk P w K mg base (CXe P w) 2 t.f_l_sail t.d_l_sail ["state", "boat"] (sp_lsail) := by
  have G_l_then := ok_l_then (P := P) (w := w) (base := base) T
  refine okX T.F_l_sail sc_l_sail (fun vs H Q E h => ?_) (fun cdv A outer s H vs Q E hr h => ?_)
  · obtain ⟨S, m, b, here, rfl, _⟩ := h; rfl
  · obtain ⟨S, m, b, here, rfl, hF, hl, O, hz, k⟩ := h
    have hu1 := hu_of hr
    obtain ⟨b0, b1⟩ := O.key _ (lookup_mem hl)
    dsimp only at b0 b1
    refine ⟨_, (pss_cons (ps_set (i := 2) sc_l_sail.nd rfl (Or.inl rfl) (eu_call G_l_then (hr.mono (by decide)) rfl T.g_l_then T.F_l_then.kp T.b_l_then passB (pa_cons (pu 0) (pa_cons (pu 1) pa_nil))))
 (pss_cons (su_dput hu1 (eu_dget hu1 (pu 0) pe_str) (pu 1) (pu 2))
 (pss_cons (ps_if (PW.pt (pw_or (tu_cmp (ou_eq hr.units) (pu 2) pe_int (nomark _)) (pw_or1 (tu_cmp (ou_eq hr.units) (pu 2) (pe_op ou_add (pe_callB cu_len rfl T.z_len PySem.boot_len (pa_cons (eu_dget hu1 (pu 0) pe_str) pa_nil)) pe_int) (nomark _))))) (pss_cons (ps_expr (eu_dpop (eu_dget hu1 (pu 0) pe_str) (pu 1)))
 (pss_one (ps_expr (eu_lm PySem.F.slot_list_append PySem.F.type_list_append mu_append (eu_dget hu1 (pu 0) pe_str) (pa_cons (pu 1) pa_nil))))) pss_nil)
 (pss_one (ps_ret (pu 2)))))), ?_⟩
    simp only [tSeq]
    try simp_arith [true_and]
    refine ⟨S, m, b, here, rfl, hF, hl, b0, b1, fun H1 s1 => ?_⟩
    unfold Md.sail at k
    rw [hl] at k
    try dsimp only at k
    generalize stepOf (m.side b) here = th at *
    have F1 := hF.same s1
    obtain ⟨h1, h2, h3, h4, h5, h6⟩ := id F1
    simp only [tSeq]
    try simp_arith [h1, h4, st_places, len_plV]
    refine ⟨Nat.lt_of_le_of_lt O.pz (by decide), ?_⟩
    rw [put_old O.asc hl]
    have F2 := F1.setPl (Lf.putAt b th m.places)
    have b2 : But S.foot H (upd H1 S.p (.dK (plV (Lf.putAt b th m.places)))) := (But.same s1).trans (But.upd (sp' S))
    generalize upd H1 S.p (.dK (plV (Lf.putAt b th m.places))) = H2 at *
    clear h1 h2 h3 h4 h5
    obtain ⟨h1, h2, h3, h4, h5, _⟩ := id F2
    dsimp only at h1 h2 h3 h4 h5
    simp only [tSeq]
    try simp_arith [h1, h2, st_high, len_bls]
    have eo : (decide (V.int th = V.int 0) || decide (V.int th = V.int ((m.high.length : Int) + 1))) = outOf m.high.length th := by simp [outOf]
    refine orJ (fun c => ?_) (fun c => ?_)
    · rw [eo] at c
      rw [if_pos c] at k
      have hv := val_plV b (Lf.putAt b th m.places)
      rw [look_put hl] at hv
      simp only [tSeq]
      try simp_arith [h1, h4, st_places, hv, Option.map_some]
      rw [drop_plV, drop_put]
      have F3 := F2.setPl (dropAt b m.places)
      have b3 := b2.trans (But.upd (H := H2) (o := .dK (plV (dropAt b m.places))) (sp' S))
      generalize upd H2 S.p (.dK (plV (dropAt b m.places))) = H3 at *
      obtain ⟨g1, g2, g3, g4, g5, _⟩ := id F3
      dsimp only at g1 g2 g3 g4 g5
      try simp_arith [g1, g5, st_through, len_intV]
      refine ⟨Nat.lt_of_le_of_lt hz (by decide), ?_⟩
      rw [app_intV]
      exact k _ (F3.setTh (m.through ++ [b])) (b3.trans (But.upd (st' S)))
    · rw [eo] at c
      rw [if_neg (by rw [c]; decide)] at k
      exact k _ F2 b2
inductive sp_lets  (vs : List V) (H : Hp) (Q : VK) (E_ : XK) : Prop
  | mk (S : SA) (m : Md) (z0 : vs = [.ref S.q]) (z1 : StAt H S m) (z2 : m.high.length ≤ 100) (z3 : ∀ l H', Same H H' → H l = none → H' l = some (.lst (intV (((List.range (m.high.length + 1)).filter fun (k : Nat) => m.letWord (k : Int) == .done).map fun (k : Nat) => (k : Int)))) → Q (.ref l) H') : sp_lets  vs H Q E_
theorem sc_l_lets : FnScope ["state"] ["state"] (defScope s_l_lets) := ⟨rfl, rfl, rfl, by decide +kernel, rfl, by decide +kernel, by decide +kernel⟩
set_option maxHeartbeats 800000 in
theorem ok_l_lets (T : Txt w K mg t) : FnOk P w K mg base (CXe P w) 2 t.f_l_lets t.d_l_lets ["state"] (sp_lets) := by
  have G_l_let_word := ok_l_let_word (P := P) (w := w) (base := base) T
  refine okX T.F_l_lets sc_l_lets (fun vs H Q E h => ?_) (fun cdv A outer s H vs Q E hr h => ?_)
  · obtain ⟨S, m, rfl, _⟩ := h; rfl
  · obtain ⟨S, m, rfl, hF, hz, k⟩ := h
    have hu1 := hu_of hr
    obtain ⟨h1, h2, h3, h4, h5, h6⟩ := id hF
    refine ⟨_, (pss_one (ps_ret (pe_comp (fv := ["state"]) (ixs := [0]) rfl (by decide +kernel) rfl rfl (pi_range1 rfl T.z_range (pa_cons (pe_op ou_add (pe_callB cu_len rfl T.z_len PySem.boot_len (pa_cons (eu_dget hu1 (pu 0) pe_str) pa_nil)) pe_int) pa_nil)) (fun cl C s H fp => (pif_one (tu_cmp (ou_eq hr.units) (eu_call G_l_let_word (hr.mono (by decide)) rfl T.g_l_let_word T.F_l_let_word.kp T.b_l_let_word passF (pa_cons (pu 1) (pa_cons (pu 0) pa_nil))) pe_str (nomark _)))) (fun cl C s H fp => (pu 0))))), ?_⟩
    try simp_arith [h1, h2, st_high, len_bls, iRng1]
    refine ⟨_, rfl, by omega, by omega, comp_range (fun k => m.letWord (k : Int) == .done) (fun k => .int (k : Int)) ?_ ?_ ?_⟩
    · exact Nat.le_trans (by omega : _ ≤ 1000) (by decide)
    · intro j hj H1 s1 Rt Rf hRt hRf
      try simp_arith [true_and]
      refine ⟨S, m, _, rfl, hF.same s1, hz, fun H2 s2 => ?_⟩
      rw [show (0 : Int) + (j : Int) = (j : Int) by omega]
      try simp_arith [true_and]
      have e : decide (V.str (wordL (m.letWord (j : Int))) = V.str (Str.ofString "done")) = (m.letWord (j : Int) == .done) := by
        cases m.letWord (j : Int) <;> decide
      rw [e]
      generalize (m.letWord (j : Int) == .done) = q at *
      cases q
      · exact hRf rfl _ (s1.trans s2)
      · exact hRt rfl _ (s1.trans s2)
    · intro H1 s1 D nD
      refine k D _ (s1.trans (same_new nD)) (same_was s1 nD) ?_
      rw [upd_same]
      congr 2
      unfold intV
      rw [List.map_map, show ((m.high.length : Int) + 1).toNat = m.high.length + 1 by omega]
      rfl
inductive sp_sails  (vs : List V) (H : Hp) (Q : VK) (E_ : XK) : Prop
  | mk (S : SA) (m : Md) (z0 : vs = [.ref S.q]) (z1 : StAt H S m) (z2 : MOk m) (z3 : ∀ l H', Same H H' → H l = none → H' l = some (.lst (intV (m.keys.filter fun b => m.sailWord b == .done))) → Q (.ref l) H') : sp_sails  vs H Q E_
theorem sc_l_sails : FnScope ["state"] ["state"] (defScope s_l_sails) := ⟨rfl, rfl, rfl, by decide +kernel, rfl, by decide +kernel, by decide +kernel⟩
set_option maxHeartbeats 800000 in
theorem ok_l_sails (T : Txt w K mg t) : FnOk P w K mg base (CXe P w) 3 t.f_l_sails t.d_l_sails ["state"] (sp_sails) := by
  have G_l_sail_word := ok_l_sail_word (P := P) (w := w) (base := base) T
  refine okX T.F_l_sails sc_l_sails (fun vs H Q E h => ?_) (fun cdv A outer s H vs Q E hr h => ?_)
  · obtain ⟨S, m, rfl, _⟩ := h; rfl
  · obtain ⟨S, m, rfl, hF, O, k⟩ := h
    have hu1 := hu_of hr
    obtain ⟨h1, h2, h3, h4, h5, h6⟩ := id hF
    refine ⟨_, (pss_one (ps_ret (pe_comp (fv := ["state"]) (ixs := [0]) rfl (by decide +kernel) rfl rfl (pi_listK (K := K) rfl (pe_callB cu_sorted rfl T.z_sorted PyProof.Rows.boot_sorted (pa_cons (pe_callTy (cu_listD rfl) rfl T.z_list PyProof.Rows.boot_list (pa_cons (eu_dget hu1 (pu 0) pe_str) pa_nil)) pa_nil))) (fun cl C s H fp => (pif_one (tu_cmp (ou_eq hr.units) (eu_call G_l_sail_word (hr.mono (by decide)) rfl T.g_l_sail_word T.F_l_sail_word.kp T.b_l_sail_word passF (pa_cons (pu 1) (pa_cons (pu 0) pa_nil))) pe_str (nomark _)))) (fun cl C s H fp => (pu 0))))), ?_⟩
    try simp_arith [h1, h4, st_places, iList, keys_plV]
    intro l n_l
    have sm_H1 := same_new (o := HO.lst (intV (m.places.map fun x => x.1))) n_l
    have e_l : upd H l (HO.lst (intV (m.places.map fun x => x.1))) l = some (HO.lst (intV (m.places.map fun x => x.1))) := upd_same
    replace h1 := sm_H1 _ _ h1
    replace h4 := sm_H1 _ _ h4
    generalize upd H l (HO.lst (intV (m.places.map fun x => x.1))) = H1 at *
    refine ⟨m.places.map fun x => x.1, rfl, by rw [List.length_map]; exact Nat.lt_of_le_of_lt O.pz (by decide), fun l2 ns' n_l2 pm so => ?_⟩
    have ens : ns' = m.keys := sorted_eq pm so O.asc
    subst ens
    have hk : (m.keys).length ≤ 60 := by unfold Md.keys; rw [List.length_map]; exact O.pz
    have g_l2 := same_was sm_H1 n_l2
    have sm_H2 := same_new (o := HO.lst (List.map V.int m.keys)) n_l2
    have e_l2 : upd H1 l2 (HO.lst (List.map V.int m.keys)) l2 = some (HO.lst (List.map V.int m.keys)) := upd_same
    replace h1 := sm_H2 _ _ h1
    replace h4 := sm_H2 _ _ h4
    generalize upd H1 l2 (HO.lst (List.map V.int m.keys)) = H2 at *
    have S2 := sm_H1.trans sm_H2
    refine ⟨l2, rfl, ⟨_, .inl (.inl e_l2)⟩, comp_list (fun v => match v with | .int one => m.sailWord one == .done | _ => false) id (.inl (.inl e_l2)) ?_ ?_ ?_⟩
    · rw [List.length_map]; exact Nat.le_trans hk (by decide)
    · intro x hx H3 s3 Rt Rf hRt hRf
      obtain ⟨one, hone, rfl⟩ := List.mem_map.mp hx
      try simp_arith [true_and]
      refine ⟨S, m, one, rfl, hF.same (S2.trans s3), O, fun H4 s4 => ?_⟩
      try simp_arith [true_and]
      have e : decide (V.str (wordS (m.sailWord one)) = V.str (Str.ofString "done")) = (m.sailWord one == .done) := by
        cases m.sailWord one <;> decide
      rw [e]
      dsimp only at hRt hRf
      generalize (m.sailWord one == .done) = q at *
      cases q
      · exact hRf rfl _ (s3.trans s4)
      · exact hRt rfl _ (s3.trans s4)
    · intro H3 s3 D nD
      refine k D _ ((S2.trans s3).trans (same_new nD)) (same_was (S2.trans s3) nD) ?_
      rw [upd_same]
      congr 2
      exact flt_intV (fun one => m.sailWord one == .done) m.keys
end
inductive Step : Md → Md → Prop
  | come {m : Md} (s : Bool) (h : m.sides.length < 12) : Step m (m.come s)
  | let {m : Md} {g : Int} (h : letOut m.high g = .done) : Step m (m.let g)
  | sail {m : Md} {b : Int} (h : m.sailWord b = .done) : Step m (m.sail b)
  | stay {m : Md} : Step m m
structure Sz (m : Md) : Prop where
  hz : m.high.length ≤ 8
  sz : m.sides.length ≤ 20
theorem asc_len : ∀ (l : List Int) (a n : Int), a ≤ n → l.Pairwise (· < ·) → (∀ x ∈ l, a ≤ x ∧ x < n) → (l.length : Int) ≤ n - a
  | [], a, n, h, _, _ => by simp; omega
  | x :: r, a, n, _, p, h => by
    have hx := h x (by simp)
    rw [List.pairwise_cons] at p
    have := asc_len r (x + 1) n (by omega) p.2 fun y hy => ⟨by have := p.1 y hy; omega, (h y (by simp [hy])).2⟩
    simp; omega
theorem rel_plen {f : Fl} {m : Md} (R : Rel f m) : m.places.length ≤ m.sides.length := by
  have := asc_len m.keys 0 m.sides.length (by omega) R.asc fun x hx => by
    obtain ⟨y, hy, rfl⟩ := List.mem_map.mp hx
    exact R.key y hy
  unfold Md.keys at this
  rw [List.length_map] at this
  omega
theorem rel_ok {f : Fl} {m : Md} (R : Rel f m) (z : Sz m) : MOk m :=
  ⟨R.key, R.asc, Nat.le_trans z.hz (by decide), Nat.le_trans (rel_plen R) (Nat.le_trans z.sz (by decide)), R.rng, R.lo, R.hi⟩
theorem rel_wf {f : Fl} {m : Md} (R : Rel f m) (z : Sz m) (g : f.gone.length ≤ 1000) : WF f := by
  refine ⟨R.len, fun b hb => ?_, fun b hb => ?_, fun b hb => ?_, by rw [R.high]; exact Nat.le_trans z.hz (by decide), g⟩
  · rw [R.up] at hb
    obtain ⟨x, hx, rfl⟩ := List.mem_map.mp hb
    obtain ⟨h1, h2⟩ := List.mem_filter.mp hx
    rw [R.sides, R.side]
    exact ⟨R.key x h1, R.lo x h1 (by simpa using h2)⟩
  · rw [R.down] at hb
    obtain ⟨x, hx, rfl⟩ := List.mem_map.mp hb
    obtain ⟨h1, h2⟩ := List.mem_filter.mp hx
    rw [R.sides, R.side]
    exact ⟨R.key x h1, R.hi x h1 (by simpa using h2)⟩
  · obtain ⟨k, hk, e⟩ := List.mem_iff_getElem.mp hb
    rw [R.sides]
    have hk' : k < m.high.length := by rw [← R.high, ← R.len]; exact hk
    exact R.key _ ((R.ins k b hk').mp (by rw [List.getElem?_eq_getElem hk, e]))
theorem row_len {f : Fl} {m : Md} (R : Rel f m) (z : Sz m) (b : Bool) : (f.row b).length ≤ 1000 := by
  have := rel_plen R
  have := z.sz
  cases b
  · show f.up.length ≤ 1000
    rw [R.up, List.length_map]
    have := List.length_filter_le (fun x : Int × Int => decide (x.2 = 0)) m.places
    omega
  · show f.down.length ≤ 1000
    rw [R.down, List.length_map]
    have := List.length_filter_le (fun x : Int × Int => decide (x.2 = (m.high.length : Int) + 1)) m.places
    omega
theorem at_intV {l : List Int} {i : Int} (h0 : 0 ≤ i) (h1 : i < l.length) : ∃ x ∈ l, atI (intV l) i = some (.int x) := by
  unfold atI intV
  rw [List.length_map, ixN_nat h0 h1]
  have : i.toNat < l.length := by omega
  exact ⟨l[i.toNat], List.getElem_mem this, by simp [this]⟩
theorem at_ud {i : Int} (h0 : 0 ≤ i) (h1 : i < 2) : ∃ b, atI [V.str (Str.ofString "up"), V.str (Str.ofString "down")] i = some (sid b) := by
  have : i = 0 ∨ i = 1 := by omega
  rcases this with rfl | rfl
  · exact ⟨false, rfl⟩
  · exact ⟨true, rfl⟩
theorem cd7 (c : Int) : CDiv c 7 := ⟨by decide, by decide⟩
theorem l7 : (0 : Int) < 7 := by decide
theorem l2' : (0 : Int) < 2 := by decide
theorem FA_app {xs ys : List Addr} {H H' : Hp} (b : But xs H H') : But (xs ++ ys) H H' := b.mono fun _ h => List.mem_append_left _ h
theorem FA_app' {xs ys : List Addr} {H H' : Hp} (b : But ys H H') : But (xs ++ ys) H H' := b.mono fun _ h => List.mem_append_right _ h
section
variable {P : Program} {w : World} {K : PySem.W.Frag} {mg : Str → Option Value} {base : Heap} {t : Adr}
inductive sp_step (t : Adr) (vs : List V) (H : Hp) (Q : VK) (E_ : XK) : Prop
  | mk (A : FA) (S : SA) (f : Fl) (m : Md) (c : Int) (z0 : vs = [.ref A.p, .ref S.q, .int c]) (z1 : FlAt t H A f) (z2 : StAt H S m) (z3 : Rel f m) (z4 : Sz m) (z5 : m.through.length ≤ 1000) (z6 : (∀ y ∈ A.foot, y ∉ S.foot)) (z7 : ∀ H' f' m', Step m m' → StepF f f' → Rel f' m' → FlAt t H' A f' → StAt H' S m' → But (A.foot ++ S.foot) H H' → Q .non H') : sp_step t vs H Q E_
theorem sc_l_step : FnScope ["flight", "state", "cell", "kind", "side", "gates", "gate", "boats", "boat"] ["flight", "state", "cell"] (defScope s_l_step) := ⟨rfl, rfl, rfl, by decide +kernel, rfl, by decide +kernel, by decide +kernel⟩
set_option maxHeartbeats 800000 in
theorem ok_l_step (T : Txt w K mg t) : FnOk P w K mg base (CXe P w) 6 t.f_l_step t.d_l_step ["flight", "state", "cell"] (sp_step t) := by
  have G_come := ok_come (P := P) (w := w) (base := base) T
  have G_let := ok_let (P := P) (w := w) (base := base) T
  have G_sail := ok_sail (P := P) (w := w) (base := base) T
  have G_l_come := ok_l_come (P := P) (w := w) (base := base) T
  have G_l_let := ok_l_let (P := P) (w := w) (base := base) T
  have G_l_sail := ok_l_sail (P := P) (w := w) (base := base) T
  have G_l_lets := ok_l_lets (P := P) (w := w) (base := base) T
  have G_l_sails := ok_l_sails (P := P) (w := w) (base := base) T
  refine okX T.F_l_step sc_l_step (fun vs H Q E h => ?_) (fun cdv A outer s H vs Q E hr h => ?_)
  · obtain ⟨A, S, f, m, c, rfl, _⟩ := h; rfl
  · obtain ⟨A, S, f, m, c, rfl, hF, hS, R, Z, hg, AS, k⟩ := h
    have hu1 := hu_of hr
    have O := rel_ok R Z
    obtain ⟨⟨dx, f1⟩, f2, _⟩ := id hF
    obtain ⟨h1, h2, h3, h4, h5, h6⟩ := id hS
    have pl := rel_plen R
    have sz := Z.sz
    have hz := Z.hz
    refine ⟨_, (pss_cons (ps_set (i := 3) sc_l_step.nd rfl (Or.inl rfl) (pe_op ou_mod (pu 2) pe_int))
 (pss_one (ps_if (PW.pt (pw_and (tu_cmp (ou_eq hr.units) (pu 3) pe_int (nomark _)) (pw_and1 (tu_cmp ou_lt (pe_callB cu_len rfl T.z_len PySem.boot_len (pa_cons (eu_dget hu1 (pu 1) pe_str) pa_nil)) pe_int (nomark _))))) (pss_cons (ps_set (i := 4) sc_l_step.nd rfl (Or.inl rfl) (eu_ix xu_seq (pe_lst (pa_cons pe_str (pa_cons pe_str pa_nil))) (pe_op ou_mod (pe_op ou_fdiv (pu 2) pe_int) pe_int)))
 (pss_cons (ps_expr (eu_meth (pu 0) T.cl T.m_come G_come (hr.mono (by decide)) T.b_come passB (pa_cons (pu 4) pa_nil)))
 (pss_one (ps_expr (eu_call G_l_come (hr.mono (by decide)) rfl T.g_l_come T.F_l_come.kp T.b_l_come passB (pa_cons (pu 1) (pa_cons (pu 4) pa_nil))))))) (pss_one (ps_if (tu_cmp ou_lt (pu 3) pe_int (nomark _)) (pss_cons (ps_set (i := 5) sc_l_step.nd rfl (Or.inl rfl) (eu_call G_l_lets (hr.mono (by decide)) rfl T.g_l_lets T.F_l_lets.kp T.b_l_lets passB (pa_cons (pu 1) pa_nil)))
 (pss_cons (ps_set (i := 6) sc_l_step.nd rfl (Or.inl rfl) (eu_ix xu_seq (pu 5) (pe_op ou_mod (pe_op ou_fdiv (pu 2) pe_int) (pe_callB cu_len rfl T.z_len PySem.boot_len (pa_cons (pu 5) pa_nil)))))
 (pss_cons (ps_expr (eu_meth (pu 0) T.cl T.m_let G_let (hr.mono (by decide)) T.b_let passB (pa_cons (pu 6) pa_nil)))
 (pss_one (ps_expr (eu_call G_l_let (hr.mono (by decide)) rfl T.g_l_let T.F_l_let.kp T.b_l_let passB (pa_cons (pu 1) (pa_cons (pu 6) pa_nil)))))))) (pss_cons (ps_set (i := 7) sc_l_step.nd rfl (Or.inl rfl) (eu_call G_l_sails (hr.mono (by decide)) rfl T.g_l_sails T.F_l_sails.kp T.b_l_sails passB (pa_cons (pu 1) pa_nil)))
 (pss_one (ps_if (tu_cmp ou_gt (pe_callB cu_len rfl T.z_len PySem.boot_len (pa_cons (pu 7) pa_nil)) pe_int (nomark _)) (pss_cons (ps_set (i := 8) sc_l_step.nd rfl (Or.inl rfl) (eu_ix xu_seq (pu 7) (pe_op ou_mod (pe_op ou_fdiv (pu 2) pe_int) (pe_callB cu_len rfl T.z_len PySem.boot_len (pa_cons (pu 7) pa_nil)))))
 (pss_cons (ps_expr (eu_meth (pu 0) T.cl T.m_sail G_sail (hr.mono (by decide)) T.b_sail passB (pa_cons (pu 8) pa_nil)))
 (pss_one (ps_expr (eu_call G_l_sail (hr.mono (by decide)) rfl T.g_l_sail T.F_l_sail.kp T.b_l_sail passB (pa_cons (pu 1) (pa_cons (pu 8) pa_nil))))))) pss_nil)))))))), ?_⟩
    refine seqG fun R0 hR0 => ?_
    try simp_arith [true_and]
    refine ⟨l7, ?_⟩
    subst hR0
    refine ifG fun T1 U1 hT1 hU1 => ?_
    try simp_arith [h1, h3, st_sides, len_sidV]
    refine join3 (d := m.sides.length < 12) (fun _ d hR => ?_) (fun _ d => ?_) (fun _ => ?_)
    · rw [if_neg (fun z => d (by have := of_decide_eq_true z; omega))]; exact hR
    · rw [if_pos (decide_eq_true (by omega))]
      subst hT1
      refine seqG fun R1 hR1 => ?_
      try simp_arith [true_and]
      refine ⟨by decide, fun l n_l => ⟨cd7 _, l2', ?_⟩⟩
      obtain ⟨sd, hsd⟩ := at_ud (i := c / 7 % 2) (by omega) (by omega)
      have F1 := hF.same (same_new (o := HO.lst [V.str (Str.ofString "up"), V.str (Str.ofString "down")]) n_l)
      have G1 := hS.same (same_new (o := HO.lst [V.str (Str.ofString "up"), V.str (Str.ofString "down")]) n_l)
      have sm_H1 := same_new (o := HO.lst [V.str (Str.ofString "up"), V.str (Str.ofString "down")]) n_l
      have e_l : upd H l (HO.lst [V.str (Str.ofString "up"), V.str (Str.ofString "down")]) l = some (HO.lst [V.str (Str.ofString "up"), V.str (Str.ofString "down")]) := upd_same
      replace f1 := sm_H1 _ _ f1
      generalize upd H l (HO.lst [V.str (Str.ofString "up"), V.str (Str.ofString "down")]) = H1 at *
      try simp_arith [hsd]
      subst hR1
      refine seqG fun R1 hR1 => ?_
      try simp_arith [f1, fn_summit, fn_is_chamber, fn_can_give, fn_can_take, fn_give, fn_take, fn_let, fn_levels, fn_drawn, fn_out, fn_boats, fn_waiting, fn_through, fn_side, fn_place, fn_come, fn_sail, fn_is_level, fn_leave, fn_enter]
      refine ⟨A, f, sd, rfl, F1, by rw [R.sides]; omega, row_len R Z sd, fun H2 F2 b2 => ?_⟩
      have G2 : StAt H2 S m := G1.but b2 (fun y hy h => AS y h hy)
      subst hR1
      try simp_arith [true_and]
      refine ⟨S, m, sd, rfl, G2, R.key, by omega, by omega, fun H3 G3 b3 => ?_⟩
      exact k H3 _ _ (.come sd d) (.come sd) (R.come sd) (F2.but b3 AS) G3 (((But.same sm_H1).trans (FA_app b2)).trans (FA_app' b3))
    subst hU1
    refine ifG fun T2 U2 hT2 hU2 => ?_
    try simp_arith [true_and]
    by_cases c4 : c % 7 < 4
    · rw [if_pos (decide_eq_true c4)]
      subst hT2
      refine seqG fun R2 hR2 => ?_
      try simp_arith [true_and]
      refine ⟨S, m, rfl, hS, O.hz, fun l H1 s1 n_l e_l => ?_⟩
      have F1 := hF.same s1
      have G1 := hS.same s1
      obtain ⟨g0, hg0, hg1⟩ := let_some m.high
      have gmem : (g0 : Int) ∈ ((List.range (m.high.length + 1)).filter fun (k : Nat) => m.letWord (k : Int) == .done).map fun (k : Nat) => (k : Int) := by
        refine List.mem_map.mpr ⟨g0, List.mem_filter.mpr ⟨List.mem_range.mpr (by omega), ?_⟩, rfl⟩
        rw [let_agree, hg1]; rfl
      have gall : ∀ g ∈ ((List.range (m.high.length + 1)).filter fun (k : Nat) => m.letWord (k : Int) == .done).map fun (k : Nat) => (k : Int), letOut m.high g = .done := fun g hg => by
        obtain ⟨j, hj, rfl⟩ := List.mem_map.mp hg
        have := (List.mem_filter.mp hj).2
        rw [let_agree] at this
        simpa using this
      generalize ((List.range (m.high.length + 1)).filter fun (k : Nat) => m.letWord (k : Int) == .done).map (fun (k : Nat) => (k : Int)) = gs at *
      have gpos : 0 < gs.length := List.length_pos_of_mem gmem
      have ipos : (0 : Int) < (gs.length : Int) := by omega
      obtain ⟨g, hgm, hga⟩ := at_intV (l := gs) (i := c / 7 % (gs.length : Int)) (Int.emod_nonneg _ (by omega)) (Int.emod_lt_of_pos _ ipos)
      have gd := gall g hgm
      obtain ⟨q0, q1, _⟩ := let_done gd
      subst hR2
      refine seqG fun R2 hR2 => ?_
      try simp_arith [e_l, len_intV]
      refine ⟨cd7 _, ipos, ?_⟩
      rw [hga]
      obtain ⟨⟨dx1, r1⟩, _⟩ := id F1
      simp only [give_p, true_and]
      subst hR2
      refine seqG fun R2 hR2 => ?_
      try simp_arith [r1, fn_summit, fn_is_chamber, fn_can_give, fn_can_take, fn_give, fn_take, fn_let, fn_levels, fn_drawn, fn_out, fn_boats, fn_waiting, fn_through, fn_side, fn_place, fn_come, fn_sail, fn_is_level, fn_leave, fn_enter]
      refine ⟨A, f, g, rfl, F1, ?_⟩
      rw [R.high, gd]
      intro H2 F2 b2
      have G2 : StAt H2 S m := G1.but b2 (fun y hy h => AS y h hy)
      subst hR2
      try simp_arith [true_and]
      refine ⟨S, m, g, rfl, G2, q0, q1, fun H3 G3 b3 => ?_⟩
      exact k H3 _ _ (.let gd) (.let (by rw [R.high]; exact gd)) (R.let gd) (F2.but b3 AS) G3 (((But.same s1).trans (FA_app b2)).trans (FA_app' b3))
    · rw [if_neg (fun z => c4 (of_decide_eq_true z))]
      subst hU2
      refine seqG fun R3 hR3 => ?_
      try simp_arith [true_and]
      refine ⟨S, m, rfl, hS, O, fun l H1 s1 n_l e_l => ?_⟩
      have F1 := hF.same s1
      have G1 := hS.same s1
      have ball : ∀ b ∈ m.keys.filter fun b => m.sailWord b == .done, m.sailWord b = .done := fun b hb => by
        simpa using (List.mem_filter.mp hb).2
      generalize (m.keys.filter fun b => m.sailWord b == .done) = bs at *
      subst hR3
      refine ifG fun T4 U4 hT4 hU4 => ?_
      try simp_arith [e_l, len_intV]
      by_cases c5 : 0 < bs.length
      · rw [if_pos (decide_eq_true (by omega))]
        have ipos : (0 : Int) < (bs.length : Int) := by omega
        obtain ⟨b, hbm, hba⟩ := at_intV (l := bs) (i := c / 7 % (bs.length : Int)) (Int.emod_nonneg _ (by omega)) (Int.emod_lt_of_pos _ ipos)
        have bd := ball b hbm
        obtain ⟨here, p1, p2, p3⟩ := R.sail bd
        subst hT4
        refine seqG fun R4 hR4 => ?_
        try simp_arith [e_l, len_intV]
        refine ⟨cd7 _, ipos, ?_⟩
        rw [hba]
        obtain ⟨⟨dx1, r1⟩, _⟩ := id F1
        simp only [give_p, true_and]
        subst hR4
        refine seqG fun R4 hR4 => ?_
        try simp_arith [r1, fn_summit, fn_is_chamber, fn_can_give, fn_can_take, fn_give, fn_take, fn_let, fn_levels, fn_drawn, fn_out, fn_boats, fn_waiting, fn_through, fn_side, fn_place, fn_come, fn_sail, fn_is_level, fn_leave, fn_enter]
        refine ⟨A, f, b, rfl, F1, rel_wf R Z (by rw [R.gone]; exact hg), ?_⟩
        rw [R.sailOut, bd]
        intro H2 here' e' F2 b2
        rw [p1] at e'
        cases e'
        have G2 : StAt H2 S m := G1.but b2 (fun y hy h => AS y h hy)
        subst hR4
        try simp_arith [true_and]
        refine ⟨S, m, b, here, rfl, G2, p2, O, hg, fun H3 G3 b3 => ?_⟩
        exact k H3 _ _ (.sail bd) (.sail p1 ((R.sailOut b).trans bd)) p3 (F2.but b3 AS) G3 (((But.same s1).trans (FA_app b2)).trans (FA_app' b3))
      · rw [if_neg (fun z => c5 (by have := of_decide_eq_true z; omega))]
        subst hU4
        exact k H1 f m   .stay .stay R F1 G1 (But.same s1)
end
theorem FlAt.there {t : Adr} {H : Hp} {a : FA} {f : Fl} (F : FlAt t H a f) : ∀ y ∈ a.foot, ∃ o, H y = some o := by
  obtain ⟨⟨dx, h1⟩, h2, h3, h4, h5, h6, h7, h8, h9⟩ := F
  intro y hy
  simp only [FA.foot, List.mem_cons, List.not_mem_nil, or_false] at hy
  rcases hy with rfl | rfl | rfl | rfl | rfl | rfl | rfl | rfl <;> exact ⟨_, by assumption⟩
theorem StAt.there {H : Hp} {b : SA} {m : Md} (F : StAt H b m) : ∀ y ∈ b.foot, ∃ o, H y = some o := by
  obtain ⟨h1, h2, h3, h4, h5, h9⟩ := F
  intro y hy
  simp only [SA.foot, List.mem_cons, List.not_mem_nil, or_false] at hy
  rcases hy with rfl | rfl | rfl | rfl | rfl <;> exact ⟨_, by assumption⟩
theorem apart {H : Hp} {xs ys : List Addr} (h : ∀ y ∈ xs, ∃ o, H y = some o) (n : ∀ y ∈ ys, H y = none) : ∀ y ∈ xs, y ∉ ys := fun y hy hy' => by
  obtain ⟨o, e⟩ := h y hy
  rw [n y hy'] at e; cases e
theorem newin {H : Hp} {xs : List Addr} {y : Addr} (h : ∀ y ∈ xs, ∃ o, H y = some o) (n : H y = none) : y ∉ xs := fun hy => by
  obtain ⟨o, e⟩ := h y hy
  rw [n] at e; cases e
theorem mk_flight {t : Adr} {H : Hp} {x dx l : Addr} {lv : List Bool} {Q : VK} {E : XK} (nx : H x = none) (ndx : H dx = none) (ne : dx ≠ x) (hl : H l = some (.lst (bls lv))) (lo : 1 ≤ lv.length) (hi : lv.length ≤ 8)
    (k : ∀ (A : FA) H', A.p = x → (∀ y ∈ A.foot, H y = none) → Same H H' → FlAt t H' A (Fl.new lv) → Q .non H') :
    sp_init t [.ref x, .ref l] (upd (upd H dx (.own x)) x (.ins t.c_Flight dx [])) Q E := by
  have n1 : l ≠ x := ne_of_none hl nx
  have n2 : l ≠ dx := ne_of_none hl ndx
  refine ⟨x, l, dx, lv, rfl, upd_same, by rw [upd_ne n1, upd_ne n2]; exact hl, by omega, ?_⟩
  rw [if_neg (by omega)]
  intro A H' e fr F b
  refine k A H' e (fun y hy => ?_) (fun y o ey => ?_) F
  · rcases fr y hy with h | h
    · rw [h]; exact nx
    · exact (upd_none (upd_none h).2).2
  · have m1 : y ≠ x := ne_of_none ey nx
    have m2 : y ≠ dx := ne_of_none ey ndx
    exact b y o (by rw [upd_ne m1, upd_ne m2]; exact ey) (by simpa using m1)
theorem cut_int {ns : List Int} {lo hi : Option Int} {i : Nat} {x : V} (h : (cutV (ns.map V.int) lo hi)[i]? = some x) : ∃ c, x = .int c := by
  have h1 := List.mem_of_getElem? h
  unfold cutV at h1
  obtain ⟨c, _, e⟩ := List.mem_map.mp (List.mem_of_mem_drop (List.mem_of_mem_take h1))
  exact ⟨c, e.symm⟩
theorem for_slice {K : PySem.W.Frag} {a : Addr} {xs : List V} {v : Nat} {lo hi : Int} {g : TG} {tb : TS} {D : Ends} {σ : St} {H : Hp} (Pv : Addr → Nat → St → Hp → Prop) (hv : σ[v]? = some (some (.ref a))) (hS : SqL K H a xs)
    (k : ∀ p, H p = none → Pv p 0 σ (upd H p (.lst (cutV xs (some lo) (some hi)))) ∧ (∀ i σ H, Pv p i σ H → H p = some (.lst (cutV xs (some lo) (some hi)))) ∧
      (∀ i x σ H, (cutV xs (some lo) (some hi))[i]? = some x → Pv p i σ H → g x σ H fun σ2 H2 => tb { D with nx := Pv p (i + 1), ct := Pv p (i + 1), bk := D.nx } σ2 H2) ∧
      (∀ σ H, Pv p (cutV xs (some lo) (some hi)).length σ H → D.nx σ H)) :
    tFor (iList K (tSl (rSlL K) (vU v) (tPart (tC (.int lo))) (tPart (tC (.int hi))))) g tb D σ H := by
  unfold tFor iList tSl tPart rSlL vU tC
  rw [hv]
  refine ⟨lo, rfl, hi, rfl, a, xs, rfl, hS, fun p np => ⟨p, rfl, ⟨_, .inl (.inl upd_same)⟩, ?_⟩⟩
  obtain ⟨k1, k2, k3, k4⟩ := k p np
  exact for_list (Pv p) k1 (fun i σ H _ h => .inl (.inl (k2 i σ H h))) k3 k4
theorem sail_keeps (m : Md) (b : Int) : (m.sail b).high = m.high ∧ (m.sail b).drawn = m.drawn ∧ (m.sail b).out = m.out ∧ (m.sail b).sides = m.sides ∧ (m.sail b).through.length ≤ m.through.length + 1 := by
  unfold Md.sail
  split
  · exact ⟨rfl, rfl, rfl, rfl, by omega⟩
  · split
    · exact ⟨rfl, rfl, rfl, rfl, by simp⟩
    · exact ⟨rfl, rfl, rfl, rfl, by dsimp only; omega⟩
theorem step_high {m m' : Md} (s : Step m m') : m'.high.length = m.high.length := by
  cases s with
  | come _ _ => rfl
  | @«let» g d =>
    obtain ⟨q0, q1, _⟩ := let_done d
    rw [let_same q0 q1, letH_len]
  | sail _ => rw [(sail_keeps _ _).1]
  | stay => rfl
theorem step_sz {m m' : Md} (s : Step m m') (z : Sz m) : Sz m' := by
  refine ⟨by rw [step_high s]; exact z.hz, ?_⟩
  have zz := z.sz
  cases s with
  | come _ h => show (m.sides ++ [_]).length ≤ 20; rw [List.length_append]; simp; omega
  | «let» d => exact zz
  | sail _ => rw [(sail_keeps _ _).2.2.2.1]; exact zz
  | stay => exact zz
theorem step_thr {m m' : Md} (s : Step m m') : m'.through.length ≤ m.through.length + 1 := by
  cases s with
  | come _ _ => show m.through.length ≤ _; omega
  | «let» d => show m.through.length ≤ _; omega
  | sail _ => exact (sail_keeps _ _).2.2.2.2
  | stay => omega
theorem rd_intV {H : Hp} : ∀ (l : List Int), RdVs H (intV l) (l.map PyData.int)
  | [] => .nil
  | b :: r => .cons (.int b) (rd_intV r)
theorem lay_ints : ∀ (l : List Int), PyData.canLayAll0 (l.map PyData.int) = true
  | [] => rfl
  | _ :: r => by simp [PyData.canLayAll0, PyData.canLay0, lay_ints r]
theorem depth_ints : ∀ (l : List Int), PyData.depthAll (l.map PyData.int) = 0
  | [] => rfl
  | _ :: r => by simp [PyData.depthAll, PyData.depth, depth_ints r]
theorem shaped_ints (l : List Int) : SeqAt.shaped (.list (l.map PyData.int)) = true := by
  simp [SeqAt.shaped, PyData.canLay0, PyData.depth, lay_ints, depth_ints]
theorem eqv_ints : ∀ (x y : List Int), PyData.eqvAll (x.map PyData.int) (y.map PyData.int) = decide (x = y)
  | [], [] => by simp [PyData.eqvAll]
  | [], _ :: _ => by simp [PyData.eqvAll]
  | _ :: _, [] => by simp [PyData.eqvAll]
  | a :: r, b :: q => by
    simp only [List.map_cons, PyData.eqvAll, eqv_ints r q]
    by_cases h1 : a = b <;> by_cases h : r = q <;> simp [PyData.eqv, h, h1]
theorem eqv_intL (x y : List Int) : PyData.eqv (.list (x.map PyData.int)) (.list (y.map PyData.int)) = decide (x = y) := by
  simp only [PyData.eqv]; exact eqv_ints x y
theorem sid_same (a b : Bool) : decide (sid a = sid b) = (a == b) := by cases a <;> cases b <;> decide
def isIn (g : Int → Bool) : V → Bool
  | .int b => g b
  | _ => false
theorem flt_int (g : Int → Bool) : ∀ l : List Int, ((intV l).filter (isIn g)).map id = intV (l.filter g)
  | [] => rfl
  | b :: r => by
    have ih := flt_int g r
    unfold intV at *
    rw [List.map_cons, List.filter_cons, List.filter_cons]
    cases e : g b <;> simpa [isIn, e] using ih
section
variable {P : Program} {w : World} {K : PySem.W.Frag} {mg : Str → Option Value} {base : Heap} {t : Adr}
end
theorem map_true (l : List V) : (l.filter fun _ => true).map (fun _ => V.bl true) = List.replicate l.length (V.bl true) := by
  rw [List.filter_eq_self.mpr (fun _ _ => rfl)]
  exact map_const l (V.bl true)
theorem all_true (n : Nat) : (List.replicate n (V.bl true)).all isTr = true ∧ (List.replicate n (V.bl true)).all isBl = true := by
  constructor <;> (rw [List.all_eq_true]; intro v hv; rw [List.eq_of_mem_replicate hv]; rfl)
section
variable {P : Program} {w : World} {K : PySem.W.Frag} {mg : Str → Option Value} {base : Heap} {t : Adr}
inductive sp_numbers  (vs : List V) (H : Hp) (Q : VK) (E_ : XK) : Prop
  | mk (p q : Addr) (x y : List Int) (z0 : vs = [.ref p, .ref q]) (z1 : H p = some (.lst (intV x))) (z2 : H q = some (.lst (intV y))) (z3 : x.length ≤ 1000) (z4 : ∀ H', Same H H' → Q (.bl (decide (x = y))) H') : sp_numbers  vs H Q E_
theorem sc_l_numbers : FnScope ["found", "due"] ["found", "due"] (defScope s_l_numbers) := ⟨rfl, rfl, rfl, by decide +kernel, rfl, by decide +kernel, by decide +kernel⟩
set_option maxHeartbeats 800000 in
theorem ok_l_numbers (T : Txt w K mg t) : FnOk P w K mg base (CXe P w) 2 t.f_l_numbers t.d_l_numbers ["found", "due"] (sp_numbers) := by
  have G_l_whole := ok_l_whole (P := P) (w := w) (base := base) T
  refine okX T.F_l_numbers sc_l_numbers (fun vs H Q E h => ?_) (fun cdv A outer s H vs Q E hr h => ?_)
  · obtain ⟨p, q, x, y, rfl, _⟩ := h; rfl
  · obtain ⟨p, q, x, y, rfl, hp, hq, hz, k⟩ := h
    refine ⟨_, (pss_cons (ps_if (PW.pt (pw_or (pt_not (tu_val (pe_callB (cu_isiK (K := K) rfl) rfl T.z_isinstance PyProof.Rows.boot_isinstance (pa_cons (pu 0) (pa_cons (pe_bltn (v := .ty "list") rfl T.z_list PyProof.Rows.boot_list rfl) pa_nil))))) (pw_or1 (tu_cmp (ou_ne hr.units) (pe_callB cu_len rfl T.z_len PySem.boot_len (pa_cons (pu 0) pa_nil)) (pe_callB cu_len rfl T.z_len PySem.boot_len (pa_cons (pu 1) pa_nil)) (nomark _))))) (pss_one (ps_ret pe_bl)) pss_nil)
 (pss_one (ps_ret (eu_and (pe_callB (cu_all rfl) rfl T.z_all PyProof.Rows.boot_all (pa_cons (pe_comp (fv := []) (ixs := []) rfl (by decide +kernel) rfl rfl (pi_listK (K := K) rfl (pu 0)) (fun cl C s H fp => pif_nil) (fun cl C s H fp => (eu_call G_l_whole (hr.mono (by decide)) rfl T.g_l_whole T.F_l_whole.kp T.b_l_whole passF (pa_cons (pu 0) pa_nil)))) pa_nil)) (pe_one (pe_cmpR (ou_eq hr.units) (pu 0) (pu 1) (nomark _))))))), ?_⟩
    simp only [tSeq]
    try simp_arith [hp, hq, tyO, okC, cV, T.q_list_list, Bool.not_true, len_intV]
    by_cases c : x.length = y.length
    · rw [if_neg (by simp; omega)]
      try simp_arith [iList]
      refine ⟨p, rfl, ⟨_, .inl (.inl hp)⟩, comp_list (fun _ => true) (fun _ => .bl true) (.inl (.inl hp)) (by rw [len_intV]; exact Nat.le_trans hz (by decide)) ?_ ?_⟩
      · intro v hv H1 s1 Rt Rf hRt hRf
        obtain ⟨b, _, rfl⟩ := List.mem_map.mp hv
        try simp_arith [tAll]
        exact ⟨_, rfl, hRt rfl _ s1⟩
      · intro H1 s1 D n_D
        rw [map_true]
        have s2 := s1.trans (same_new (o := HO.lst (List.replicate (intV x).length (V.bl true))) n_D)
        have sm_H2 := same_new (o := HO.lst (List.replicate (intV x).length (V.bl true))) n_D
        have e_D : upd H1 D (HO.lst (List.replicate (intV x).length (V.bl true))) D = some (HO.lst (List.replicate (intV x).length (V.bl true))) := upd_same
        generalize upd H1 D (HO.lst (List.replicate (intV x).length (V.bl true))) = H2 at *
        obtain ⟨e3, e4⟩ := all_true (intV x).length
        try simp_arith [e_D, e3, e4]
        refine ⟨_, _, .lst (s2 _ _ hp) (rd_intV x), .lst (s2 _ _ hq) (rd_intV y), shaped_ints x, shaped_ints y, ?_⟩
        rw [eqv_intL]
        exact k _ s2
    · rw [if_pos (by simp; omega)]
      have : decide (x = y) = false := by
        have : x ≠ y := fun e => c (by rw [e])
        simpa using this
      rw [this] at k
      exact k _ (Same.refl _)
theorem for_te {K : PySem.W.Frag} {te : TE} {g : TG} {tb : TS} {D : Ends} {σ : St} {H : Hp}
    (h : ∀ R : V → Hp → Prop, (∀ (a : Addr) (xs : List V) (H1 : Hp) (Pv : Nat → St → Hp → Prop), SqL K H1 a xs → Pv 0 σ H1 → (∀ i σ H, i ≤ xs.length → Pv i σ H → SqL K H a xs) → (∀ i x σ H, xs[i]? = some x → Pv i σ H → g x σ H fun σ2 H2 => tb { D with nx := Pv (i + 1), ct := Pv (i + 1), bk := D.nx } σ2 H2) → (∀ σ H, Pv xs.length σ H → D.nx σ H) → R (.ref a) H1) → te σ H R) :
    tFor (iList K te) g tb D σ H := by
  unfold tFor iList
  exact h _ fun a xs H1 Pv hq h0 hl hs hd => ⟨a, rfl, ⟨xs, hq⟩, for_list Pv h0 hl hs hd⟩
end
def opD : Option Int → PyData
  | none => .none
  | some b => .int b
theorem rd_insV {H : Hp} : ∀ (l : List (Option Int)), RdVs H (insV l) (l.map opD)
  | [] => .nil
  | none :: r => .cons .non (rd_insV r)
  | some b :: r => .cons (.int b) (rd_insV r)
theorem lay_inss : ∀ (l : List (Option Int)), PyData.canLayAll0 (l.map opD) = true
  | [] => rfl
  | none :: r => by simp [PyData.canLayAll0, PyData.canLay0, opD, lay_inss r]
  | some _ :: r => by simp [PyData.canLayAll0, PyData.canLay0, opD, lay_inss r]
theorem depth_inss : ∀ (l : List (Option Int)), PyData.depthAll (l.map opD) = 0
  | [] => rfl
  | none :: r => by simp [PyData.depthAll, PyData.depth, opD, depth_inss r]
  | some _ :: r => by simp [PyData.depthAll, PyData.depth, opD, depth_inss r]
theorem shaped_inss (l : List (Option Int)) : SeqAt.shaped (.list (l.map opD)) = true := by
  simp [SeqAt.shaped, PyData.canLay0, PyData.depth, lay_inss, depth_inss]
theorem eqv_refl_ins : ∀ (l : List (Option Int)), PyData.eqvAll (l.map opD) (l.map opD) = true
  | [] => by simp [PyData.eqvAll]
  | none :: r => by simp [PyData.eqvAll, PyData.eqv, opD, eqv_refl_ins r]
  | some _ :: r => by simp [PyData.eqvAll, PyData.eqv, opD, eqv_refl_ins r]
theorem ne_inss {H : Hp} {p q : Addr} {x : List (Option Int)} {Q : VK} (e1 : H p = some (.lst (insV x))) (e2 : H q = some (.lst (insV x))) (k : Q (.bl false) H) : rNeD (.ref p) (.ref q) H Q :=
  ⟨_, _, .lst e1 (rd_insV x), .lst e2 (rd_insV x), shaped_inss x, shaped_inss x, by
    have : PyData.eqv (.list (x.map opD)) (.list (x.map opD)) = true := by simp only [PyData.eqv]; exact eqv_refl_ins x
    rw [this]; exact k⟩
def insF (n : Nat) (L : List (Int × Int)) : List (Option Int) := L.foldl (fun l x => if 0 < x.2 ∧ x.2 ≤ (n : Int) then l.set (x.2 - 1).toNat (some x.1) else l) (List.replicate n none)
theorem insF_nil (n : Nat) : insF n [] = List.replicate n none := rfl
theorem insF_snoc (n : Nat) (L : List (Int × Int)) (x : Int × Int) : insF n (L ++ [x]) = if 0 < x.2 ∧ x.2 ≤ (n : Int) then (insF n L).set (x.2 - 1).toNat (some x.1) else insF n L := by
  unfold insF; rw [List.foldl_append]; rfl
theorem snocInd {α : Type} {P : List α → Prop} (h0 : P []) (h1 : ∀ l x, P l → P (l ++ [x])) (l : List α) : P l := by
  have k : ∀ r : List α, P r.reverse := fun r => by
    induction r with
    | nil => simpa using h0
    | cons a r ih => rw [List.reverse_cons]; exact h1 _ _ ih
  have := k l.reverse
  rwa [List.reverse_reverse] at this
theorem insF_ok (n : Nat) : ∀ (L : List (Int × Int)), (∀ x ∈ L, ∀ y ∈ L, x.2 = y.2 → 0 < x.2 → x.2 ≤ (n : Int) → x.1 = y.1) →
    (insF n L).length = n ∧ ∀ (k : Nat) (b : Int), k < n → ((insF n L)[k]? = some (some b) ↔ (b, (k : Int) + 1) ∈ L) := by
  intro L
  induction L using snocInd with
  | h0 =>
    intro _
    refine ⟨by rw [insF_nil]; simp, fun k b hk => ?_⟩
    rw [insF_nil]
    simp [hk]
  | h1 L x ih =>
    intro h
    obtain ⟨l1, l2⟩ := ih fun x hx y hy => h x (List.mem_append_left _ hx) y (List.mem_append_left _ hy)
    rw [insF_snoc]
    by_cases c : 0 < x.2 ∧ x.2 ≤ (n : Int)
    · rw [if_pos c]
      refine ⟨by rw [List.length_set]; exact l1, fun k b hk => ?_⟩
      by_cases e : (x.2 - 1).toNat = k
      · rw [← e, List.getElem?_set_self (by rw [l1]; omega)]
        have ek : (((x.2 - 1).toNat : Nat) : Int) + 1 = x.2 := by omega
        rw [ek]
        constructor
        · intro q
          simp at q
          exact List.mem_append_right _ (by rw [← q]; simp)
        · intro q
          have := h (b, x.2) q x (by simp) rfl c.1 c.2
          simp at this
          simp [this]
      · rw [List.getElem?_set_ne e, l2 k b hk]
        constructor
        · intro q; exact List.mem_append_left _ q
        · intro q
          rcases List.mem_append.mp q with q | q
          · exact q
          · have := List.mem_singleton.mp q
            have e2 : (k : Int) + 1 = x.2 := by rw [← this]
            omega
    · rw [if_neg c]
      refine ⟨l1, fun k b hk => ?_⟩
      rw [l2 k b hk]
      constructor
      · intro q; exact List.mem_append_left _ q
      · intro q
        rcases List.mem_append.mp q with q | q
        · exact q
        · have := List.mem_singleton.mp q
          have e2 : (k : Int) + 1 = x.2 := by rw [← this]
          omega
theorem insF_eq {f : Fl} {m : Md} (R : Rel f m) : insF m.high.length m.places = f.inside := by
  obtain ⟨l1, l2⟩ := insF_ok m.high.length m.places fun x hx y hy => R.one x hx y hy
  have hl : f.inside.length = m.high.length := by rw [R.len, R.high]
  refine List.ext_getElem? fun k => ?_
  by_cases hk : k < m.high.length
  · have h1 : k < (insF m.high.length m.places).length := by rw [l1]; exact hk
    have h2 : k < f.inside.length := by rw [hl]; exact hk
    rw [List.getElem?_eq_getElem h1, List.getElem?_eq_getElem h2]
    congr 1
    cases e : (insF m.high.length m.places)[k] with
    | some b =>
      have := (l2 k b hk).mp (by rw [List.getElem?_eq_getElem h1, e])
      have := (R.ins k b hk).mpr this
      rw [List.getElem?_eq_getElem h2] at this
      exact (Option.some.inj this).symm
    | none =>
      cases e2 : f.inside[k] with
      | none => rfl
      | some b =>
        have := (R.ins k b hk).mp (by rw [List.getElem?_eq_getElem h2, e2])
        have := (l2 k b hk).mpr this
        rw [List.getElem?_eq_getElem h1, e] at this
        cases this
  · rw [List.getElem?_eq_none (by rw [l1]; omega), List.getElem?_eq_none (by rw [hl]; omega)]
theorem row_due {f : Fl} {m : Md} (R : Rel f m) (sd : Bool) :
    (m.keys.filter fun b => decide (m.places.lookup b = some (if sd = true then (m.high.length : Int) + 1 else 0))).filter (fun b => m.side b == sd) = f.row sd := by
  have e1 : (m.keys.filter fun b => decide (m.places.lookup b = some (if sd = true then (m.high.length : Int) + 1 else 0))) = (m.places.filter fun x => decide (x.2 = if sd = true then (m.high.length : Int) + 1 else 0)).map (·.1) := by
    unfold Md.keys
    rw [List.filter_map]
    congr 1
    refine List.filter_congr fun x hx => ?_
    have := mem_lookup R.asc (show (x.1, x.2) ∈ m.places from hx)
    simp [this]
  rw [e1]
  have e2 : (m.places.filter fun x => decide (x.2 = if sd = true then (m.high.length : Int) + 1 else 0)).map (·.1) = f.row sd := by
    cases sd
    · show _ = f.up; rw [R.up]; rfl
    · show _ = f.down; rw [R.down]; rfl
  rw [← e2]
  refine List.filter_eq_self.mpr fun b hb => ?_
  obtain ⟨x, hx, rfl⟩ := List.mem_map.mp hb
  obtain ⟨h1, h2⟩ := List.mem_filter.mp hx
  have h2 := of_decide_eq_true h2
  cases sd
  · have := R.lo x h1 (by simpa using h2); simp [this]
  · have := R.hi x h1 (by simpa using h2); simp [this]
theorem for_disp {K : PySem.W.Frag} {tt : TA} {g : TG} {tb : TS} {D : Ends} {σ : St} {H : Hp} (xs : List V) (Pv : Addr → Nat → St → Hp → Prop) (ht : ∀ Q, tt σ H Q = Q xs H) (hz : xs.length ≤ sizeLine)
    (k : ∀ p, H p = none → Pv p 0 σ (upd H p (.lst xs)) ∧ (∀ i σ H, Pv p i σ H → H p = some (.lst xs)) ∧
      (∀ i x σ H, xs[i]? = some x → Pv p i σ H → g x σ H fun σ2 H2 => tb { D with nx := Pv p (i + 1), ct := Pv p (i + 1), bk := D.nx } σ2 H2) ∧
      (∀ σ H, Pv p xs.length σ H → D.nx σ H)) :
    tFor (iList K (tLst tt)) g tb D σ H := by
  unfold tFor iList tLst
  rw [ht]
  refine ⟨hz, fun p np => ⟨p, rfl, ⟨_, .inl (.inl upd_same)⟩, ?_⟩⟩
  obtain ⟨k1, k2, k3, k4⟩ := k p np
  exact for_list (Pv p) k1 (fun i σ H _ h => .inl (.inl (k2 i σ H h))) k3 k4
inductive PvW (A : FA) (S : SA) (H0 : Hp) (p : Addr) (i : Nat) (σ : St) (H' : Hp) : Prop
  | mk (v2 v3 v4 v5 : Option V) (eσ : σ = [some (.ref A.p), some (.ref S.q), v2, v3, v4, v5]) (sm : Same H0 H') (ep : H' p = some (.lst [V.str (Str.ofString "up"), V.str (Str.ofString "down")]))
inductive PvB (A : FA) (S : SA) (n : Nat) (L : List (Int × Int)) (v2 v3 : Option V) (d l : Addr) (H0 : Hp) (i : Nat) (σ : St) (H' : Hp) : Prop
  | mk (v5 : Option V) (eσ : σ = [some (.ref A.p), some (.ref S.q), v2, v3, some (.ref d), v5]) (sm : Same H0 H') (ed : H' d = some (.lst (insV (insF n (L.take i))))) (el : H' l = some (.lst (intV (L.map fun x => x.1))))
theorem len_insF (n : Nat) (L : List (Int × Int)) : (insF n L).length = n := by
  induction L using snocInd with
  | h0 => rw [insF_nil]; simp
  | h1 L x ih => rw [insF_snoc]; split <;> simp [ih]
section
variable {P : Program} {w : World} {K : PySem.W.Frag} {mg : Str → Option Value} {base : Heap} {t : Adr}
inductive sp_stands (t : Adr) (vs : List V) (H : Hp) (Q : VK) (E_ : XK) : Prop
  | mk (A : FA) (S : SA) (f : Fl) (m : Md) (z0 : vs = [.ref A.p, .ref S.q]) (z1 : FlAt t H A f) (z2 : StAt H S m) (z3 : Rel f m) (z4 : Sz m) (z5 : m.through.length ≤ 1000) (z6 : ∀ H', Same H H' → Q (.bl true) H') : sp_stands t vs H Q E_
theorem sc_l_stands : FnScope ["flight", "state", "side", "start", "due", "boat"] ["flight", "state"] (defScope s_l_stands) := ⟨rfl, rfl, rfl, by decide +kernel, rfl, by decide +kernel, by decide +kernel⟩
set_option maxHeartbeats 800000 in
theorem ok_l_stands (T : Txt w K mg t) : FnOk P w K mg base (CXe P w) 3 t.f_l_stands t.d_l_stands ["flight", "state"] (sp_stands t) := by
  have G_levels := ok_levels (P := P) (w := w) (base := base) T
  have G_waiting := ok_waiting (P := P) (w := w) (base := base) T
  have G_boats := ok_boats (P := P) (w := w) (base := base) T
  have G_through := ok_through (P := P) (w := w) (base := base) T
  have G_drawn := ok_drawn (P := P) (w := w) (base := base) T
  have G_out := ok_out (P := P) (w := w) (base := base) T
  have G_l_bools := ok_l_bools (P := P) (w := w) (base := base) T
  have G_l_numbers := ok_l_numbers (P := P) (w := w) (base := base) T
  refine okX T.F_l_stands sc_l_stands (fun vs H Q E h => ?_) (fun cdv A outer s H vs Q E hr h => ?_)
  · obtain ⟨A, S, f, m, rfl, _⟩ := h; rfl
  · obtain ⟨A, S, f, m, rfl, hF, hS, R, Z, hg, k⟩ := h
    have hu1 := hu_of hr
    have O := rel_ok R Z
    have hz := Z.hz
    obtain ⟨⟨dx, f0⟩, _⟩ := id hF
    refine ⟨_, (pss_cons (ps_if (pt_not (tu_val (eu_call G_l_bools (hr.mono (by decide)) rfl T.g_l_bools T.F_l_bools.kp T.b_l_bools passB (pa_cons (eu_meth0 (pu 0) T.cl T.m_levels G_levels (hr.mono (by decide)) T.b_levels passB) (pa_cons (eu_dget hu1 (pu 1) pe_str) pa_nil))))) (pss_one (ps_ret pe_bl)) pss_nil)
 (pss_cons (ps_for ownB rfl (pi_listK (K := K) rfl (pe_lst (pa_cons pe_str (pa_cons pe_str pa_nil)))) (pg_name (i := 2) sc_l_stands.nd rfl (Or.inr rfl)) (pss_cons (ps_set (i := 3) sc_l_stands.nd rfl (Or.inr rfl) (eu_ix xu_seq (pe_lst (pa_cons pe_int (pa_cons (pe_op ou_add (pe_callB cu_len rfl T.z_len PySem.boot_len (pa_cons (eu_dget hu1 (pu 1) pe_str) pa_nil)) pe_int) pa_nil))) (pe_callTy cu_int rfl T.z_int PyProof.Rows.boot_int (pa_cons (pe_cmpR (ou_eq hr.units) (pu 2) pe_str (nomark _)) pa_nil))))
 (pss_cons (ps_setComp (i := 4) sc_l_stands.nd rfl rfl (fv := ["start", "state"]) (ixs := [3, 1]) rfl (by decide +kernel) rfl rfl (pi_listK (K := K) rfl (pe_callB cu_sorted rfl T.z_sorted PyProof.Rows.boot_sorted (pa_cons (pe_callTy (cu_listD rfl) rfl T.z_list PyProof.Rows.boot_list (pa_cons (eu_dget hu1 (pu 1) pe_str) pa_nil)) pa_nil))) (fun cl C s H fp => (pif_one (tu_cmp (ou_eq hr.units) (eu_dget hu1 (eu_dget hu1 (pu 2) pe_str) (pu 0)) (pu 1) (nomark _)))) (fun cl C s H fp => (pu 0)))
 (pss_cons (ps_setComp (i := 4) sc_l_stands.nd rfl rfl (fv := ["side", "state"]) (ixs := [2, 1]) rfl (by decide +kernel) rfl rfl (pi_listK (K := K) rfl (pu 4)) (fun cl C s H fp => (pif_one (tu_cmp (ou_eq hr.units) (eu_ix xu_seq (eu_dget hu1 (pu 2) pe_str) (pu 0)) (pu 1) (nomark _)))) (fun cl C s H fp => (pu 0)))
 (pss_one (ps_if (pt_not (tu_val (eu_call G_l_numbers (hr.mono (by decide)) rfl T.g_l_numbers T.F_l_numbers.kp T.b_l_numbers passB (pa_cons (eu_meth (pu 0) T.cl T.m_waiting G_waiting (hr.mono (by decide)) T.b_waiting passB (pa_cons (pu 2) pa_nil)) (pa_cons (pu 4) pa_nil))))) (pss_one (ps_ret pe_bl)) pss_nil))))))
 (pss_cons (ps_setComp (i := 4) sc_l_stands.nd rfl rfl (fv := []) (ixs := []) rfl (by decide +kernel) rfl rfl (pi_listK (K := K) rfl (eu_dget hu1 (pu 1) pe_str)) (fun cl C s H fp => pif_nil) (fun cl C s H fp => pe_non))
 (pss_cons (ps_for ownB rfl (pi_listK (K := K) rfl (pe_callTy (cu_listD rfl) rfl T.z_list PyProof.Rows.boot_list (pa_cons (eu_dget hu1 (pu 1) pe_str) pa_nil))) (pg_name (i := 5) sc_l_stands.nd rfl (Or.inl rfl)) (pss_one (ps_if (tu_chain ou_lt ou_le pe_int (eu_dget hu1 (eu_dget hu1 (pu 1) pe_str) (pu 5)) (pe_callB cu_len rfl T.z_len PySem.boot_len (pa_cons (pu 4) pa_nil))) (pss_one (su_lput (pu 4) (pe_op ou_sub (eu_dget hu1 (eu_dget hu1 (pu 1) pe_str) (pu 5)) pe_int) (pu 5))) pss_nil)))
 (pss_cons (ps_if (PW.pt (pw_or (tu_cmp (ou_ne hr.units) (eu_meth0 (pu 0) T.cl T.m_boats G_boats (hr.mono (by decide)) T.b_boats passB) (pu 4) (nomark _)) (pw_or1 (pt_not (tu_val (eu_call G_l_numbers (hr.mono (by decide)) rfl T.g_l_numbers T.F_l_numbers.kp T.b_l_numbers passB (pa_cons (eu_meth0 (pu 0) T.cl T.m_through G_through (hr.mono (by decide)) T.b_through passB) (pa_cons (eu_dget hu1 (pu 1) pe_str) pa_nil)))))))) (pss_one (ps_ret pe_bl)) pss_nil)
 (pss_one (ps_ret (eu_and (pe_cmpR (ou_eq hr.units) (eu_meth0 (pu 0) T.cl T.m_drawn G_drawn (hr.mono (by decide)) T.b_drawn passB) (eu_dget hu1 (pu 1) pe_str) (nomark _)) (pe_one (pe_cmpR (ou_eq hr.units) (eu_meth0 (pu 0) T.cl T.m_out G_out (hr.mono (by decide)) T.b_out passB) (eu_dget hu1 (pu 1) pe_str) (nomark _))))))))))), ?_⟩
    refine seqG fun R0 hR0 => ?_
    try simp_arith [f0, fn_summit, fn_is_chamber, fn_can_give, fn_can_take, fn_give, fn_take, fn_let, fn_levels, fn_drawn, fn_out, fn_boats, fn_waiting, fn_through, fn_side, fn_place, fn_come, fn_sail, fn_is_level, fn_leave, fn_enter]
    refine ⟨A, f, rfl, hF, fun a1 n1 => ?_⟩
    try dsimp only
    have s1 := same_new (o := HO.lst (bls f.high)) n1
    have e1 : upd H a1 (.lst (bls f.high)) a1 = some (.lst (bls f.high)) := upd_same
    generalize upd H a1 (.lst (bls f.high)) = H1 at *
    have S1 := hS.same s1
    obtain ⟨g1, g2, _⟩ := id S1
    try simp_arith [g1, st_high]
    refine ⟨a1, S.h, f.high, m.high, rfl, e1, g2, by rw [R.high]; omega, fun H2 s2 => ?_⟩
    rw [decide_eq_true R.high]
    try simp_arith [Bool.not_true]
    have s12 := s1.trans s2
    clear e1 n1 s1 s2
    subst hR0
    refine seqG fun R0 hR0 => ?_
    refine for_disp [V.str (Str.ofString "up"), V.str (Str.ofString "down")] (PvW A S H) (fun _ => rfl) (by decide) fun p n_p => ⟨?_, ?_, ?_, ?_⟩
    · exact ⟨_, _, _, _, rfl, s12.trans (same_new n_p), upd_same⟩
    · rintro i σ H' ⟨_, _, _, _, _, _, e⟩; exact e
    · rintro i x σ H3 hx ⟨v2, v3, v4, v5, rfl, s3, ep⟩
      obtain ⟨sd, rfl⟩ : ∃ sd, x = sid sd := by
        have := List.mem_of_getElem? hx
        simp only [List.mem_cons, List.not_mem_nil, or_false] at this
        rcases this with h | h
        · exact ⟨false, h⟩
        · exact ⟨true, h⟩
      have S3 := hS.same s3
      obtain ⟨h1, h2, h3, h4, h5, h6⟩ := id S3
      refine seqG fun R1 hR1 => ?_
      try simp_arith [h1, h2, st_high, len_bls, sid_eq, sid_dn]
      refine ⟨by decide, fun l n_l => ?_⟩
      have s4 := s3.trans (same_new (o := HO.lst [V.int 0, V.int (m.high.length + 1)]) n_l)
      have sm_H4 := same_new (o := HO.lst [V.int 0, V.int (m.high.length + 1)]) n_l
      have e_l : upd H3 l (HO.lst [V.int 0, V.int (m.high.length + 1)]) l = some (HO.lst [V.int 0, V.int (m.high.length + 1)]) := upd_same
      replace h1 := sm_H4 _ _ h1
      replace h2 := sm_H4 _ _ h2
      replace h3 := sm_H4 _ _ h3
      replace h4 := sm_H4 _ _ h4
      replace ep := sm_H4 _ _ ep
      generalize upd H3 l (HO.lst [V.int 0, V.int (m.high.length + 1)]) = H4 at *
      try simp_arith [e_l, come_val]
      subst hR1
      refine seqG fun R1 hR1 => ?_
      try simp_arith [h1, h4, st_places, iList, keys_plV]
      intro l1 n_l1
      have s5 := s4.trans (same_new (o := HO.lst (intV (m.places.map fun x => x.1))) n_l1)
      have sm_H5 := same_new (o := HO.lst (intV (m.places.map fun x => x.1))) n_l1
      have e_l1 : upd H4 l1 (HO.lst (intV (m.places.map fun x => x.1))) l1 = some (HO.lst (intV (m.places.map fun x => x.1))) := upd_same
      replace h1 := sm_H5 _ _ h1
      replace h3 := sm_H5 _ _ h3
      replace h4 := sm_H5 _ _ h4
      replace ep := sm_H5 _ _ ep
      generalize upd H4 l1 (HO.lst (intV (m.places.map fun x => x.1))) = H5 at *
      refine ⟨m.places.map fun x => x.1, rfl, by rw [List.length_map]; exact Nat.lt_of_le_of_lt O.pz (by decide), fun l2 ns' n_l2 pm so => ?_⟩
      have ens : ns' = m.keys := sorted_eq pm so O.asc
      subst ens
      have hk : (m.keys).length ≤ 60 := by unfold Md.keys; rw [List.length_map]; exact O.pz
      have s6 := s5.trans (same_new (o := HO.lst (List.map V.int m.keys)) n_l2)
      have sm_H6 := same_new (o := HO.lst (List.map V.int m.keys)) n_l2
      have e_l2 : upd H5 l2 (HO.lst (List.map V.int m.keys)) l2 = some (HO.lst (List.map V.int m.keys)) := upd_same
      replace h1 := sm_H6 _ _ h1
      replace h3 := sm_H6 _ _ h3
      replace h4 := sm_H6 _ _ h4
      replace ep := sm_H6 _ _ ep
      generalize upd H5 l2 (HO.lst (List.map V.int m.keys)) = H6 at *
      refine ⟨l2, rfl, ⟨_, .inl (.inl e_l2)⟩, comp_list (isIn fun b => decide (m.places.lookup b = some (if sd = true then (m.high.length : Int) + 1 else 0))) id (.inl (.inl e_l2)) ?_ ?_ ?_⟩
      · rw [List.length_map]; exact Nat.le_trans hk (by decide)
      · intro x hx H7 s7 Rt Rf hRt hRf
        obtain ⟨one, hone, rfl⟩ := List.mem_map.mp hx
        obtain ⟨⟨one', pl⟩, hpl, e⟩ := List.mem_map.mp hone
        dsimp only at e
        subst e
        have lk := mem_lookup R.asc hpl
        have hv := val_plV one' m.places
        rw [lk] at hv
        have e : isIn (fun b => decide (m.places.lookup b = some (if sd = true then (m.high.length : Int) + 1 else 0))) (V.int one') = decide (pl = if sd = true then (m.high.length : Int) + 1 else 0) := by
          show decide (_ = _) = _
          rw [lk]
          simp only [Option.some.injEq]
        rw [e] at hRt hRf
        replace h1 := s7 _ _ h1
        replace h4 := s7 _ _ h4
        try simp_arith [h1, h4, st_places, hv, Option.map_some]
        by_cases c : pl = if sd = true then (m.high.length : Int) + 1 else 0
        · rw [if_pos (by simpa using c)]
          exact hRt (decide_eq_true c) _ s7
        · rw [if_neg (by simpa using c)]
          exact hRf (decide_eq_false c) _ s7
      · intro H7 s7 D n_D
        rw [show List.map V.int m.keys = intV m.keys from rfl, flt_int]
        have hdl := List.length_filter_le (fun b => decide (m.places.lookup b = some (if sd = true then (m.high.length : Int) + 1 else 0))) m.keys
        have hdk : ∀ b ∈ m.keys.filter (fun b => decide (m.places.lookup b = some (if sd = true then (m.high.length : Int) + 1 else 0))), 0 ≤ b ∧ b < (m.sides.length : Int) := fun b hb => by
          obtain ⟨y, hy, rfl⟩ := List.mem_map.mp (List.mem_filter.mp hb).1
          exact R.key y hy
        have hrow := row_due R sd
        generalize m.keys.filter (fun b => decide (m.places.lookup b = some (if sd = true then (m.high.length : Int) + 1 else 0))) = due at *
        have s8 := (s6.trans s7).trans (same_new (o := HO.lst (intV due)) n_D)
        replace h1 := s7 _ _ h1
        replace h3 := s7 _ _ h3
        replace ep := s7 _ _ ep
        have sm_H8 := same_new (o := HO.lst (intV due)) n_D
        have e_D : upd H7 D (HO.lst (intV due)) D = some (HO.lst (intV due)) := upd_same
        replace h1 := sm_H8 _ _ h1
        replace h3 := sm_H8 _ _ h3
        replace ep := sm_H8 _ _ ep
        generalize upd H7 D (HO.lst (intV due)) = H8 at *
        subst hR1
        refine seqG fun R1 hR1 => ?_
        try simp_arith [iList]
        refine ⟨D, rfl, ⟨_, .inl (.inl e_D)⟩, comp_list (isIn fun b => m.side b == sd) id (.inl (.inl e_D)) ?_ ?_ ?_⟩
        · rw [len_intV]; exact Nat.le_trans (by omega : _ ≤ 60) (by decide)
        · intro x hx H9 s9 Rt Rf hRt hRf
          obtain ⟨b, hb, rfl⟩ := List.mem_map.mp hx
          obtain ⟨p0, p1⟩ := hdk b hb
          replace h1 := s9 _ _ h1
          replace h3 := s9 _ _ h3
          have e : isIn (fun b => m.side b == sd) (V.int b) = (m.side b == sd) := rfl
          rw [e] at hRt hRf
          try simp_arith [h1, h3, st_sides, at_sidV p0 p1, sid_eq]
          rw [← sid_eq, ← sid_eq, sid_same]
          change if (m.side b == sd) = true then _ else _
          generalize (m.side b == sd) = q at *
          cases q
          · exact hRf rfl _ s9
          · exact hRt rfl _ s9
        · intro H9 s9 D2 n_D2
          rw [flt_int, hrow]
          have s10 := (s8.trans s9).trans (same_new (o := HO.lst (intV (f.row sd))) n_D2)
          replace ep := s9 _ _ ep
          have sm_H10 := same_new (o := HO.lst (intV (f.row sd))) n_D2
          have e_D2 : upd H9 D2 (HO.lst (intV (f.row sd))) D2 = some (HO.lst (intV (f.row sd))) := upd_same
          replace ep := sm_H10 _ _ ep
          generalize upd H9 D2 (HO.lst (intV (f.row sd))) = H10 at *
          subst hR1
          have F10 := hF.same s10
          obtain ⟨⟨d10, f10⟩, _⟩ := id F10
          try simp_arith [f10, fn_summit, fn_is_chamber, fn_can_give, fn_can_take, fn_give, fn_take, fn_let, fn_levels, fn_drawn, fn_out, fn_boats, fn_waiting, fn_through, fn_side, fn_place, fn_come, fn_sail, fn_is_level, fn_leave, fn_enter]
          refine ⟨A, f, sd, rfl, F10, fun a1 n_a1 => ?_⟩
          have s11 := s10.trans (same_new (o := HO.lst (intV (f.row sd))) n_a1)
          have sm_H11 := same_new (o := HO.lst (intV (f.row sd))) n_a1
          have e_a1 : upd H10 a1 (HO.lst (intV (f.row sd))) a1 = some (HO.lst (intV (f.row sd))) := upd_same
          replace e_D2 := sm_H11 _ _ e_D2
          replace ep := sm_H11 _ _ ep
          generalize upd H10 a1 (HO.lst (intV (f.row sd))) = H11 at *
          refine ⟨a1, D2, _, _, rfl, e_a1, e_D2, row_len R Z sd, fun H12 s12 => ?_⟩
          rw [decide_eq_true rfl]
          try simp_arith [Bool.not_true]
          exact ⟨_, _, _, _, rfl, s11.trans s12, s12 _ _ ep⟩
    · rintro σ H3 ⟨v2, v3, v4, v5, rfl, s3, ep⟩
      clear ep n_p p
      show R0 _ _ _
      subst hR0
      refine seqG fun R0 hR0 => ?_
      have S3 := hS.same s3
      obtain ⟨h1, h2, h3, h4, h5, h6⟩ := id S3
      try simp_arith [h1, st_high, iList]
      refine ⟨S.h, rfl, ⟨_, .inl (.inl h2)⟩, comp_list (fun _ => true) (fun _ => .non) (.inl (.inl h2)) (by rw [len_bls]; exact Nat.le_trans hz (by decide)) ?_ ?_⟩
      · intro x hx H4 s4 Rt Rf hRt hRf
        try simp_arith [tAll]
        exact hRt rfl _ s4
      · intro H4 s4 D n_D
        have eD : ((bls m.high).filter fun _ => true).map (fun _ => V.non) = insV (insF m.high.length []) := by
          rw [List.filter_eq_self.mpr (fun _ _ => rfl), insF_nil]
          unfold insV bls
          rw [List.map_map, List.map_replicate]
          exact map_const m.high V.non
        rw [eD]
        have nD := same_was (s3.trans s4) n_D
        have s5 := (s3.trans s4).trans (same_new (o := HO.lst (insV (insF m.high.length []))) n_D)
        have sm_H5 := same_new (o := HO.lst (insV (insF m.high.length []))) n_D
        have e_D : upd H4 D (HO.lst (insV (insF m.high.length []))) D = some (HO.lst (insV (insF m.high.length []))) := upd_same
        generalize upd H4 D (HO.lst (insV (insF m.high.length []))) = H5 at *
        have S5 := hS.same s5
        subst hR0
        refine seqG fun R0 hR0 => ?_
        refine for_te fun Rr hRr => ?_
        obtain ⟨g1, g2, g3, g4, g5, _⟩ := id S5
        try simp_arith [g1, g4, st_places, keys_plV]
        intro l n_l
        have nl := same_was s5 n_l
        have s6 := s5.trans (same_new (o := HO.lst (intV (m.places.map fun x => x.1))) n_l)
        have lD : l ≠ D := (ne_of_none e_D n_l).symm
        have sm_H6 := same_new (o := HO.lst (intV (m.places.map fun x => x.1))) n_l
        have e_l : upd H5 l (HO.lst (intV (m.places.map fun x => x.1))) l = some (HO.lst (intV (m.places.map fun x => x.1))) := upd_same
        replace e_D := sm_H6 _ _ e_D
        generalize upd H5 l (HO.lst (intV (m.places.map fun x => x.1))) = H6 at *
        refine hRr l _ H6 (PvB A S m.high.length m.places v2 v3 D l H) (.inl (.inl e_l)) ⟨_, rfl, s6, e_D, e_l⟩ (fun i σ H _ h => .inl (.inl (by obtain ⟨_, _, _, _, e⟩ := h; exact e))) ?_ ?_
        · rintro i x σ H7 hx ⟨w5, rfl, s7, ed, el⟩
          have hil : i < (intV (m.places.map fun x => x.1)).length := (List.getElem?_eq_some_iff.mp hx).1
          rw [len_intV, List.length_map] at hil
          have hxi : x = V.int (m.places[i]).1 := by
            unfold intV at hx
            rw [List.map_map, List.getElem?_map, List.getElem?_eq_getElem hil] at hx
            exact (Option.some.inj hx).symm
          have htk : m.places.take (i + 1) = m.places.take i ++ [m.places[i]] := by rw [List.take_add_one, List.getElem?_eq_getElem hil]; rfl
          have hmem : (m.places[i].1, m.places[i].2) ∈ m.places := List.getElem_mem hil
          have lk := mem_lookup R.asc hmem
          obtain ⟨pr0, pr1⟩ := R.rng _ hmem
          dsimp only at pr0 pr1
          generalize m.places[i] = b at *
          subst hxi
          obtain ⟨z1, z2, z3, z4, z5, _⟩ := id (hS.same s7)
          have hv := val_plV b.1 m.places
          rw [lk] at hv
          have li := len_insF m.high.length (m.places.take i)
          try simp_arith [z1, z4, st_places, hv, Option.map_some, ed, len_insV, li]
          have sn := insF_snoc m.high.length (m.places.take i) b
          rw [← htk] at sn
          by_cases c1 : 0 < b.2
          · rw [if_pos (decide_eq_true c1)]
            by_cases c2 : b.2 ≤ (m.high.length : Int)
            · rw [if_pos (decide_eq_true c2), ixN_nat (by omega) (by omega)]
              rw [if_pos ⟨c1, c2⟩] at sn
              try dsimp only
              rw [set_insI]
              refine ⟨_, rfl, fun y o e => ?_, ?_, ?_⟩
              · rw [upd_ne (ne_of_none e nD)]; exact s7 y o e
              · rw [sn]; exact upd_same
              · rw [upd_ne lD]; exact el
            · rw [if_neg (fun z => c2 (of_decide_eq_true z))]
              rw [if_neg (fun z => c2 z.2)] at sn
              exact ⟨_, rfl, s7, by rw [sn]; exact ed, el⟩
          · rw [if_neg (fun z => c1 (of_decide_eq_true z))]
            rw [if_neg (fun z => c1 z.1)] at sn
            exact ⟨_, rfl, s7, by rw [sn]; exact ed, el⟩
        · rintro σ H7 ⟨w5, rfl, s7, ed, el⟩
          rw [len_intV, List.length_map, List.take_length, insF_eq R] at ed
          show R0 _ _ _
          subst hR0
          refine seqG fun R0 hR0 => ?_
          have F7 := hF.same s7
          obtain ⟨⟨d7, f7⟩, _⟩ := id F7
          try simp_arith [f7, fn_summit, fn_is_chamber, fn_can_give, fn_can_take, fn_give, fn_take, fn_let, fn_levels, fn_drawn, fn_out, fn_boats, fn_waiting, fn_through, fn_side, fn_place, fn_come, fn_sail, fn_is_level, fn_leave, fn_enter]
          refine ⟨A, f, rfl, F7, fun b1 n_b1 => ?_⟩
          try dsimp only
          have s8 := s7.trans (same_new (o := HO.lst (insV f.inside)) n_b1)
          have sm_H8 := same_new (o := HO.lst (insV f.inside)) n_b1
          have e_b1 : upd H7 b1 (HO.lst (insV f.inside)) b1 = some (HO.lst (insV f.inside)) := upd_same
          replace ed := sm_H8 _ _ ed
          generalize upd H7 b1 (HO.lst (insV f.inside)) = H8 at *
          have F8 := hF.same s8
          obtain ⟨⟨d8, f8⟩, _⟩ := id F8
          rw [show scal (V.ref b1) (V.ref D) = false from rfl, gNe_f]
          refine ne_inss e_b1 ed ?_
          try simp_arith [f8, fn_summit, fn_is_chamber, fn_can_give, fn_can_take, fn_give, fn_take, fn_let, fn_levels, fn_drawn, fn_out, fn_boats, fn_waiting, fn_through, fn_side, fn_place, fn_come, fn_sail, fn_is_level, fn_leave, fn_enter]
          refine ⟨A, f, rfl, F8, fun b2 n_b2 => ?_⟩
          try dsimp only
          have s9 := s8.trans (same_new (o := HO.lst (intV f.gone)) n_b2)
          have sm_H9 := same_new (o := HO.lst (intV f.gone)) n_b2
          have e_b2 : upd H8 b2 (HO.lst (intV f.gone)) b2 = some (HO.lst (intV f.gone)) := upd_same
          generalize upd H8 b2 (HO.lst (intV f.gone)) = H9 at *
          obtain ⟨y1, y2, y3, y4, y5, _⟩ := id (hS.same s9)
          try simp_arith [y1, st_through]
          refine ⟨b2, S.t, _, _, rfl, e_b2, y5, by rw [R.gone]; exact hg, fun H10 s10 => ?_⟩
          rw [decide_eq_true R.gone]
          try simp_arith [Bool.not_true]
          have s11 := s9.trans s10
          have F11 := hF.same s11
          obtain ⟨⟨d11, f11⟩, _⟩ := id F11
          obtain ⟨x1, _⟩ := id (hS.same s11)
          subst hR0
          try simp_arith [f11, fn_summit, fn_is_chamber, fn_can_give, fn_can_take, fn_give, fn_take, fn_let, fn_levels, fn_drawn, fn_out, fn_boats, fn_waiting, fn_through, fn_side, fn_place, fn_come, fn_sail, fn_is_level, fn_leave, fn_enter]
          refine ⟨A, f, rfl, F11, ?_⟩
          try simp_arith [x1, st_drawn, f11, fn_summit, fn_is_chamber, fn_can_give, fn_can_take, fn_give, fn_take, fn_let, fn_levels, fn_drawn, fn_out, fn_boats, fn_waiting, fn_through, fn_side, fn_place, fn_come, fn_sail, fn_is_level, fn_leave, fn_enter]
          rw [R.drawn, if_pos (decide_eq_true rfl)]
          refine ⟨A, f, rfl, F11, ?_⟩
          try simp_arith [x1, st_out]
          rw [R.out, decide_eq_true rfl]
          exact k _ s11
end
def wordH (b : Bool) : Str := if b then Str.ofString "high" else Str.ofString "low"
def numT (i : Int) : Str := Str.ofString (toString i)
def lineOf (b : Bool) : Option Int → Str
  | none => wordH b
  | some i => wordH b ++ Str.ofString " " ++ numT i
theorem empty_app (x : Str) : Str.empty ++ x = x := by
  show (⟨#[] ++ x.cps⟩ : Str) = x
  cases x; simp
theorem word_len (b : Bool) : (wordH b).length ≤ 4 := by cases b <;> decide +kernel
theorem sp_len : (Str.ofString " ").length = 1 := by decide +kernel
theorem nl_len : (Str.ofString "\n").length = 1 := by decide +kernel
def Few (o : Option Int) : Prop := ∀ i, o = some i → 0 ≤ i ∧ i < 100
theorem line_len {b : Bool} {o : Option Int} (h : Few o) : (lineOf b o).length ≤ 7 := by
  have := word_len b
  cases o with
  | none => show (wordH b).length ≤ 7; omega
  | some i =>
    have h2 : (numT i).length ≤ 2 := int_len (h i rfl)
    show (wordH b ++ Str.ofString " " ++ numT i).length ≤ 7
    rw [strLen_append, strLen_append, sp_len]; omega
def lineV : V × V → V
  | (.bl b, .int i) => .str (lineOf b (some i))
  | (.bl b, .non) => .str (lineOf b none)
  | _ => .non
def linesOf (f : Fl) : List Str := List.zipWith lineOf f.high f.inside
def textOf (f : Fl) : Str := Txt.join (Str.ofString "\n") (linesOf f).reverse
theorem sum_le {l : List Str} (h : ∀ x ∈ l, x.length ≤ 7) : (l.map (·.length)).sum ≤ 7 * l.length := by
  induction l with
  | nil => simp
  | cons a r ih =>
    have := ih fun x hx => h x (by simp [hx])
    have := h a (by simp)
    simp only [List.map_cons, List.sum_cons, List.length_cons]; omega
theorem lines_len {f : Fl} (h : f.inside.length = f.high.length) : (linesOf f).length = f.high.length := by unfold linesOf; simp [h]
theorem lines_few {f : Fl} (h : ∀ o ∈ f.inside, Few o) : ∀ x ∈ linesOf f, x.length ≤ 7 := by
  intro x hx
  obtain ⟨k, hk, e⟩ := List.mem_iff_getElem.mp hx
  unfold linesOf at hk e
  rw [List.getElem_zipWith] at e
  rw [← e]
  exact line_len (h _ (List.getElem_mem _))
theorem join_lines {f : Fl} {H : Hp} {l : Addr} {Q : VK} (h1 : f.inside.length = f.high.length) (h2 : f.high.length ≤ 8) (h3 : ∀ o ∈ f.inside, Few o) (e : H l = some (.lst ((linesOf f).map V.str).reverse)) (k : Q (.str (textOf f)) H) : joinU (.str (Str.ofString "\n")) [.ref l] H Q := by
  unfold joinU
  simp only [e]
  refine ⟨(linesOf f).reverse, by rw [List.map_reverse], ?_, k⟩
  have := sum_le (l := (linesOf f).reverse) fun x hx => lines_few h3 x (by simpa using hx)
  rw [List.length_reverse, lines_len h1] at *
  rw [nl_len]; omega
def txtF (k : Int) (s : Str) (L : List (Int × Int)) : Str := L.foldl (fun s x => if x.2 = k then s ++ Str.ofString " " ++ numT x.1 else s) s
theorem txtF_snoc (k : Int) (s : Str) (L : List (Int × Int)) (x : Int × Int) : txtF k s (L ++ [x]) = if x.2 = k then txtF k s L ++ Str.ofString " " ++ numT x.1 else txtF k s L := by
  unfold txtF; rw [List.foldl_append]; rfl
theorem txtF_none {k : Int} {s : Str} : ∀ {L : List (Int × Int)}, (∀ x ∈ L, x.2 ≠ k) → txtF k s L = s
  | [], _ => rfl
  | x :: r, h => by
    unfold txtF
    rw [List.foldl_cons, if_neg (h x (by simp))]
    exact txtF_none fun y hy => h y (by simp [hy])
theorem txtF_one {k b : Int} {s : Str} : ∀ {L : List (Int × Int)}, (L.map (·.1)).Pairwise (· < ·) → (∀ x ∈ L, ∀ y ∈ L, x.2 = k → y.2 = k → x.1 = y.1) → (b, k) ∈ L → txtF k s L = s ++ Str.ofString " " ++ numT b
  | [], _, _, h => nomatch h
  | x :: r, p, u, h => by
    rw [List.map_cons, List.pairwise_cons] at p
    unfold txtF
    rw [List.foldl_cons]
    by_cases c : x.2 = k
    · rw [if_pos c]
      have e : b = x.1 := u (b, k) h x (by simp) rfl c
      have : txtF k (s ++ Str.ofString " " ++ numT x.1) r = s ++ Str.ofString " " ++ numT x.1 := txtF_none fun y hy hk => by
        have e1 : x.1 = y.1 := u x (by simp) y (by simp [hy]) c hk
        have := p.1 y.1 (List.mem_map.mpr ⟨y, hy, rfl⟩)
        omega
      rw [e]
      exact this
    · rw [if_neg c]
      refine txtF_one p.2 (fun y hy z hz => u y (by simp [hy]) z (by simp [hz])) ?_
      rcases List.mem_cons.mp h with e | e
      · rw [← e] at c; exact absurd rfl c
      · exact e
theorem txtF_len {k : Int} {s : Str} {L : List (Int × Int)} (h : ∀ x ∈ L, 0 ≤ x.1 ∧ x.1 < 100) : (txtF k s L).length ≤ s.length + 3 * L.length := by
  induction L using snocInd with
  | h0 => show s.length ≤ _; omega
  | h1 L x ih =>
    have := ih fun y hy => h y (by simp [hy])
    rw [txtF_snoc]
    rw [List.length_append]
    have h2 : (numT x.1).length ≤ 2 := int_len (h x (by simp))
    split
    · rw [strLen_append, strLen_append, sp_len]; simp; omega
    · simp; omega
theorem txt_line {f : Fl} {m : Md} (R : Rel f m) {k : Nat} (hk : k < m.high.length) {b : Bool} : txtF ((k : Int) + 1) (wordH b) m.places = lineOf b (f.inside.getD k none) := by
  have hl : f.inside.length = m.high.length := by rw [R.len, R.high]
  have h2 : k < f.inside.length := by rw [hl]; exact hk
  have eg : f.inside.getD k none = f.inside[k] := by simp [List.getD, h2]
  rw [eg]
  cases e : f.inside[k] with
  | none =>
    refine txtF_none fun x hx hxk => ?_
    have := (R.ins k x.1 hk).mpr (by rw [← hxk]; exact hx)
    rw [List.getElem?_eq_getElem h2, e] at this
    cases this
  | some i =>
    have := (R.ins k i hk).mp (by rw [List.getElem?_eq_getElem h2, e])
    exact txtF_one R.asc (fun x hx y hy h1 h2 => R.one x hx y hy (h1.trans h2.symm) (by omega) (by omega)) this
theorem few_ins {f : Fl} {m : Md} (R : Rel f m) (Z : Sz m) : ∀ o ∈ f.inside, Few o := by
  intro o ho i hi
  subst hi
  obtain ⟨k, hk, e⟩ := List.mem_iff_getElem.mp ho
  have hk' : k < m.high.length := by rw [← R.high, ← R.len]; exact hk
  have := R.key _ ((R.ins k i hk').mp (by rw [List.getElem?_eq_getElem hk, e]))
  have := Z.sz
  dsimp only at *
  omega
theorem at_lh (b : Bool) : atI [V.str (Str.ofString "low"), V.str (Str.ofString "high")] (if b = true then 1 else 0) = some (V.str (wordH b)) := by cases b <;> rfl
theorem for_rng1 {tt : TA} {g : TG} {tb : TS} {D : Ends} {σ : St} {H : Hp} (n : Int) (Pv : Nat → St → Hp → Prop) (ht : ∀ Q, tt σ H Q = Q [.int n] H) (h1 : -2 ^ 62 ≤ n) (h2 : n < 2 ^ 62) (h0 : Pv 0 σ H)
    (hs : ∀ i σ H, i < n.toNat → Pv i σ H → g (.int (0 + i)) σ H fun σ2 H2 => tb { D with nx := Pv (i + 1), ct := Pv (i + 1), bk := D.nx } σ2 H2) (hd : ∀ σ H, Pv n.toNat σ H → D.nx σ H) : tFor (iRng1 tt) g tb D σ H := by
  unfold tFor iRng1
  rw [ht]
  exact ⟨n, rfl, h1, h2, for_range Pv h0 hs hd⟩
inductive PvT (S : SA) (f : Fl) (l : Addr) (H0 : Hp) (k : Nat) (σ : St) (H' : Hp) : Prop
  | mk (v2 v3 v4 : Option V) (eσ : σ = [some (.ref S.q), some (.ref l), v2, v3, v4]) (sm : Same H0 H') (el : H' l = some (.lst (((linesOf f).take k).map V.str)))
inductive PvU (S : SA) (m : Md) (l : Addr) (k : Nat) (b : Bool) (H0 : Hp) (i : Nat) (σ : St) (H' : Hp) : Prop
  | mk (v4 : Option V) (eσ : σ = [some (.ref S.q), some (.ref l), some (.int (0 + (k : Int))), some (.str (txtF ((k : Int) + 1) (wordH b) (m.places.take i))), v4]) (sm : Same H0 H')
section
variable {P : Program} {w : World} {K : PySem.W.Frag} {mg : Str → Option Value} {base : Heap} {t : Adr}
inductive sp_cline  (vs : List V) (H : Hp) (Q : VK) (E_ : XK) : Prop
  | mk (b : Bool) (o : Option Int) (z0 : vs = [.bl b, insOne o]) (z1 : Few o) (z2 : Q (.str (lineOf b o)) H) : sp_cline  vs H Q E_
theorem sc_chamber_line : FnScope ["high", "boat", "word"] ["high", "boat"] (defScope s_chamber_line) := ⟨rfl, rfl, rfl, by decide +kernel, rfl, by decide +kernel, by decide +kernel⟩
set_option maxHeartbeats 800000 in
theorem ok_chamber_line (T : Txt w K mg t) : FnOk P w K mg base (CXe P w) 1 t.f_chamber_line t.d_chamber_line ["high", "boat"] (sp_cline) := by
  refine okX T.F_chamber_line sc_chamber_line (fun vs H Q E h => ?_) (fun cdv A outer s H vs Q E hr h => ?_)
  · obtain ⟨b, o, rfl, _⟩ := h; rfl
  · obtain ⟨b, o, rfl, hi, k⟩ := h
    refine ⟨_, (pss_cons (ps_set (i := 2) sc_chamber_line.nd rfl (Or.inl rfl) (pe_ifExp (tu_val (pu 0)) pe_str pe_str))
 (pss_one (ps_ret (pe_ifExp (tu_cmp ou_isN (pu 1) pe_non (nomark _)) (pu 2) (pe_f3 (pu 2) (pu 1) (by decide +kernel)))))), ?_⟩
    refine seqG fun R0 hR0 => ?_
    try simp_arith [true_and]
    have key : R0 { nx := fun x H' => Q V.non H', rt := Q } [some (.bl b), some (insOne o), some (.str (wordH b))] H := by
      have wl := word_len b
      subst hR0
      cases o with
      | none =>
        try simp_arith [insOne, tF3]
        exact k
      | some i =>
        try simp_arith [insOne, tF3]
        rw [if_neg (by simp)]
        exact ⟨_, rfl, by omega, i, rfl, hi i rfl, by rw [empty_app]; exact k⟩
    cases b with
    | true => rw [if_pos rfl]; exact key
    | false => rw [if_neg (by decide)]; exact key
inductive sp_drawing (t : Adr) (vs : List V) (H : Hp) (Q : VK) (E_ : XK) : Prop
  | mk (A : FA) (f : Fl) (z0 : vs = [.ref A.p]) (z1 : FlAt t H A f) (z2 : f.inside.length = f.high.length) (z3 : f.high.length ≤ 8) (z4 : (∀ o ∈ f.inside, Few o)) (z5 : ∀ H', Same H H' → Q (.str (textOf f)) H') : sp_drawing t vs H Q E_
theorem sc_drawing : FnScope ["flight", "chambers"] ["flight"] (defScope s_drawing) := ⟨rfl, rfl, rfl, by decide +kernel, rfl, by decide +kernel, by decide +kernel⟩
set_option maxHeartbeats 800000 in
theorem ok_drawing (T : Txt w K mg t) : FnOk P w K mg base (CXe P w) 2 t.f_drawing t.d_drawing ["flight"] (sp_drawing t) := by
  have G_levels := ok_levels (P := P) (w := w) (base := base) T
  have G_boats := ok_boats (P := P) (w := w) (base := base) T
  have G_chamber_line := ok_chamber_line (P := P) (w := w) (base := base) T
  refine okX T.F_drawing sc_drawing (fun vs H Q E h => ?_) (fun cdv A outer s H vs Q E hr h => ?_)
  · obtain ⟨A, f, rfl, _⟩ := h; rfl
  · obtain ⟨A, f, rfl, hF, h1, h2, h3, k⟩ := h
    obtain ⟨⟨dx, f0⟩, _⟩ := id hF
    refine ⟨_, (pss_cons (ps_set (i := 1) sc_drawing.nd rfl (Or.inl rfl) (pe_listZip rfl rfl T.z_list rfl T.z_zip (pa_cons (eu_meth0 (pu 0) T.cl T.m_levels G_levels (hr.mono (by decide)) T.b_levels passB) (pa_cons (eu_meth0 (pu 0) T.cl T.m_boats G_boats (hr.mono (by decide)) T.b_boats passB) pa_nil))))
 (pss_one (ps_ret (eu_join pe_str (pa_cons (pe_comp2K (K := K) rfl (fv := []) (ixs := []) rfl rfl (by decide +kernel) rfl rfl (pi_rev (K := K) rfl rfl T.z_reversed (pa_cons (pu 1) pa_nil)) (fun cl C s H fp => pif_nil) (fun cl C s H fp => (eu_call G_chamber_line (hr.mono (by decide)) rfl T.g_chamber_line T.F_chamber_line.kp T.b_chamber_line passF (pa_cons (pu 0) (pa_cons (pu 1) pa_nil))))) pa_nil))))), ?_⟩
    refine seqG fun R0 hR0 => ?_
    try simp_arith [f0, fn_summit, fn_is_chamber, fn_can_give, fn_can_take, fn_give, fn_take, fn_let, fn_levels, fn_drawn, fn_out, fn_boats, fn_waiting, fn_through, fn_side, fn_place, fn_come, fn_sail, fn_is_level, fn_leave, fn_enter, tLZip]
    refine ⟨A, f, rfl, hF, fun l1 n1 => ?_⟩
    try dsimp only
    have F1 := hF.same (same_new (o := HO.lst (bls f.high)) n1)
    have n_l1 := n1
    have S1 := same_new (o := HO.lst (bls f.high)) n1
    have sm_H1 := same_new (o := HO.lst (bls f.high)) n_l1
    have e_l1 : upd H l1 (HO.lst (bls f.high)) l1 = some (HO.lst (bls f.high)) := upd_same
    replace f0 := sm_H1 _ _ f0
    generalize upd H l1 (HO.lst (bls f.high)) = H1 at *
    try simp_arith [f0, fn_summit, fn_is_chamber, fn_can_give, fn_can_take, fn_give, fn_take, fn_let, fn_levels, fn_drawn, fn_out, fn_boats, fn_waiting, fn_through, fn_side, fn_place, fn_come, fn_sail, fn_is_level, fn_leave, fn_enter]
    refine ⟨A, f, rfl, F1, fun l2 n_l2 => ?_⟩
    have S2 := S1.trans (same_new (o := HO.lst (insV f.inside)) n_l2)
    have sm_H2 := same_new (o := HO.lst (insV f.inside)) n_l2
    have e_l2 : upd H1 l2 (HO.lst (insV f.inside)) l2 = some (HO.lst (insV f.inside)) := upd_same
    replace e_l1 := sm_H2 _ _ e_l1
    generalize upd H1 l2 (HO.lst (insV f.inside)) = H2 at *
    refine ⟨l1, l2, _, _, rfl, e_l1, e_l2, by rw [len_bls, len_insV, h1], fun D H3 s3 n_D e_D pr => ?_⟩
    have S3 := S2.trans s3
    have lb : (bls f.high).length = f.high.length := len_bls _
    subst hR0
    try simp_arith [tComp2, iRev]
    refine ⟨D, _, rfl, .inl (.inl e_D), comp2_rev ((f.high.zip f.inside).map fun x => (V.bl x.1, insOne x.2)) lineV e_D ?_ ?_ ?_ ?_ ?_⟩
    · simp [h1, lb]
    · simp [lb]; omega
    · intro j x y hx hy
      have hj : j < f.high.length := by have := (List.getElem?_eq_some_iff.mp hx).1; simpa [lb] using this
      have hj2 : j < f.inside.length := by rw [h1]; exact hj
      rw [List.getElem?_map, lb, List.getElem?_range hj] at hx
      simp only [Option.map_some, Option.some.injEq] at hx
      subst hx
      refine ⟨_, rfl, ?_⟩
      rw [List.getElem?_map, List.getElem?_eq_getElem (by rw [List.length_zip]; omega)] at hy
      simp only [Option.map_some, Option.some.injEq, List.getElem_zip] at hy
      subst hy
      refine pr j _ _ ?_ ?_
      · unfold bls; rw [List.getElem?_map, List.getElem?_eq_getElem hj]; rfl
      · unfold insV; rw [List.getElem?_map, List.getElem?_eq_getElem hj2]; simp only [Option.map_some, Option.some.injEq]; cases f.inside[j] <;> rfl
    · intro y hy H4 s4 Rt Rf hRt
      obtain ⟨z, hz, rfl⟩ := List.mem_map.mp hy
      have hfew := h3 z.2 (List.of_mem_zip (a := z.1) (b := z.2) hz).2
      have hln : lineV (V.bl z.1, insOne z.2) = .str (lineOf z.1 z.2) := by cases z.2 <;> rfl
      rw [hln] at hRt
      try simp_arith [tAll]
      exact ⟨z.1, z.2, rfl, hfew, hRt _ s4⟩
    · intro H4 s4 y n_y
      have em : ((f.high.zip f.inside).map fun x => (V.bl x.1, insOne x.2)).map lineV = (linesOf f).map V.str := by
        unfold linesOf
        rw [List.map_map, ← List.map_uncurry_zip_eq_zipWith, List.map_map]
        refine List.map_congr_left fun z _ => ?_
        show lineV (V.bl z.1, insOne z.2) = .str (lineOf z.1 z.2)
        cases z.2 <;> rfl
      rw [em]
      exact join_lines h1 h2 h3 upd_same (k _ (S3.trans (s4.trans (same_new n_y))))
inductive sp_text  (vs : List V) (H : Hp) (Q : VK) (E_ : XK) : Prop
  | mk (S : SA) (f : Fl) (m : Md) (z0 : vs = [.ref S.q]) (z1 : StAt H S m) (z2 : Rel f m) (z3 : Sz m) (z4 : ∀ H', Same H H' → Q (.str (textOf f)) H') : sp_text  vs H Q E_
theorem sc_l_text : FnScope ["state", "lines", "k", "line", "boat"] ["state"] (defScope s_l_text) := ⟨rfl, rfl, rfl, by decide +kernel, rfl, by decide +kernel, by decide +kernel⟩
set_option maxHeartbeats 800000 in
theorem ok_l_text (T : Txt w K mg t) : FnOk P w K mg base (CXe P w) 1 t.f_l_text t.d_l_text ["state"] (sp_text) := by
  refine okX T.F_l_text sc_l_text (fun vs H Q E h => ?_) (fun cdv A outer s H vs Q E hr h => ?_)
  · obtain ⟨S, f, m, rfl, _⟩ := h; rfl
  · obtain ⟨S, f, m, rfl, hS, R, Z, k⟩ := h
    have hu1 := hu_of hr
    have O := rel_ok R Z
    have hz := Z.hz
    refine ⟨_, (pss_cons (ps_set (i := 1) sc_l_text.nd rfl (Or.inl rfl) (pe_lst pa_nil))
 (pss_cons (ps_for ownB rfl (pi_range1 rfl T.z_range (pa_cons (pe_callB cu_len rfl T.z_len PySem.boot_len (pa_cons (eu_dget hu1 (pu 0) pe_str) pa_nil)) pa_nil)) (pg_name (i := 2) sc_l_text.nd rfl (Or.inl rfl)) (pss_cons (ps_set (i := 3) sc_l_text.nd rfl (Or.inl rfl) (eu_ix xu_seq (pe_lst (pa_cons pe_str (pa_cons pe_str pa_nil))) (pe_callTy cu_int rfl T.z_int PyProof.Rows.boot_int (pa_cons (eu_ix xu_seq (eu_dget hu1 (pu 0) pe_str) (pu 2)) pa_nil))))
 (pss_cons (ps_for ownB rfl (pi_listK (K := K) rfl (pe_callTy (cu_listD rfl) rfl T.z_list PyProof.Rows.boot_list (pa_cons (eu_dget hu1 (pu 0) pe_str) pa_nil))) (pg_name (i := 4) sc_l_text.nd rfl (Or.inl rfl)) (pss_one (ps_if (tu_cmp (ou_eq hr.units) (eu_dget hu1 (eu_dget hu1 (pu 0) pe_str) (pu 4)) (pe_op ou_add (pu 2) pe_int) (nomark _)) (pss_one (ps_set (i := 3) sc_l_text.nd rfl (Or.inl rfl) (pe_op ou_add (pe_op ou_add (pu 3) pe_str) (pe_callTy cu_strI rfl T.z_str PyProof.Rows.boot_str (pa_cons (pu 4) pa_nil))))) pss_nil)))
 (pss_one (ps_expr (eu_lm PySem.F.slot_list_append PySem.F.type_list_append mu_append (pu 1) (pa_cons (pu 3) pa_nil)))))))
 (pss_one (ps_ret (eu_join pe_str (pa_cons (pe_listRev rfl rfl T.z_list rfl T.z_reversed (pu 1)) pa_nil)))))), ?_⟩
    refine seqG fun R0 hR0 => ?_
    try simp_arith [true_and]
    refine ⟨by decide, fun l n_l => ?_⟩
    have S1 := same_new (o := HO.lst []) n_l
    have n_l0 := n_l
    have sm_H1 := same_new (o := HO.lst []) n_l
    have e_l : upd H l (HO.lst []) l = some (HO.lst []) := upd_same
    generalize upd H l (HO.lst []) = H1 at *
    subst hR0
    refine seqG fun R0 hR0 => ?_
    obtain ⟨h1, h2, _⟩ := id (hS.same S1)
    refine for_rng1 (m.high.length : Int) (PvT S f l H) (fun Q' => ?_) (by omega) (by omega) ⟨_, _, _, rfl, S1, by simpa using e_l⟩ ?_ ?_
    · try simp_arith [h1, h2, st_high, len_bls]
    · rintro k σ H2 hk ⟨v2, v3, v4, rfl, s2, el⟩
      have hk' : k < m.high.length := by omega
      obtain ⟨g1, g2, g3, g4, _⟩ := id (hS.same s2)
      have a0 : atI (bls m.high) (0 + (k : Int)) = some (.bl (m.high.getD k false)) := by
        have := at_bls (l := m.high) (i := 0 + (k : Int)) (by omega) (by omega)
        rw [this]; congr 3; omega
      try simp_arith [true_and]
      refine seqG fun R1 hR1 => ?_
      try simp_arith [g1, g2, st_high, a0]
      refine ⟨by decide, fun p n_p => ?_⟩
      have s3 := s2.trans (same_new (o := HO.lst [V.str (Str.ofString "low"), V.str (Str.ofString "high")]) n_p)
      have sm_H3 := same_new (o := HO.lst [V.str (Str.ofString "low"), V.str (Str.ofString "high")]) n_p
      have e_p : upd H2 p (HO.lst [V.str (Str.ofString "low"), V.str (Str.ofString "high")]) p = some (HO.lst [V.str (Str.ofString "low"), V.str (Str.ofString "high")]) := upd_same
      replace g1 := sm_H3 _ _ g1
      replace g2 := sm_H3 _ _ g2
      replace g4 := sm_H3 _ _ g4
      replace el := sm_H3 _ _ el
      generalize upd H2 p (HO.lst [V.str (Str.ofString "low"), V.str (Str.ofString "high")]) = H3 at *
      try simp_arith [g1, g2, st_high, a0]
      try simp_arith [e_p, at_lh]
      generalize hb : m.high.getD k false = b at *
      subst hR1
      refine seqG fun R1 hR1 => ?_
      refine for_te fun Rr hRr => ?_
      try simp_arith [g1, g4, st_places, keys_plV]
      intro lk n_lk
      have s4 := s3.trans (same_new (o := HO.lst (intV (m.places.map fun x => x.1))) n_lk)
      have sm_H4 := same_new (o := HO.lst (intV (m.places.map fun x => x.1))) n_lk
      have e_lk : upd H3 lk (HO.lst (intV (m.places.map fun x => x.1))) lk = some (HO.lst (intV (m.places.map fun x => x.1))) := upd_same
      replace el := sm_H4 _ _ el
      generalize upd H3 lk (HO.lst (intV (m.places.map fun x => x.1))) = H4 at *
      refine hRr lk _ H4 (PvU S m l k b H4) (.inl (.inl e_lk)) ⟨_, rfl, Same.refl _⟩ (fun i σ H _ h => .inl (.inl (by obtain ⟨_, _, sm⟩ := h; exact sm _ _ e_lk))) ?_ ?_
      · rintro i x σ H5 hx ⟨w4, rfl, s5⟩
        have hil : i < (intV (m.places.map fun x => x.1)).length := (List.getElem?_eq_some_iff.mp hx).1
        rw [len_intV, List.length_map] at hil
        have hxi : x = V.int (m.places[i]).1 := by
          unfold intV at hx
          rw [List.map_map, List.getElem?_map, List.getElem?_eq_getElem hil] at hx
          exact (Option.some.inj hx).symm
        have htk : m.places.take (i + 1) = m.places.take i ++ [m.places[i]] := by rw [List.take_add_one, List.getElem?_eq_getElem hil]; rfl
        have hmem : (m.places[i].1, m.places[i].2) ∈ m.places := List.getElem_mem hil
        have lk2 := mem_lookup R.asc hmem
        have ky := R.key _ hmem
        have tl := txtF_len (k := (k : Int) + 1) (s := wordH b) (L := m.places.take i) fun x hx => by
          have := R.key x (List.mem_of_mem_take hx)
          have := Z.sz
          omega
        have pz := O.pz
        have wl := word_len b
        rw [List.length_take] at tl
        dsimp only at ky
        generalize m.places[i] = q at *
        subst hxi
        obtain ⟨z1, z2, z3, z4, z5, _⟩ := id (hS.same (s4.trans s5))
        have hv := val_plV q.1 m.places
        rw [lk2] at hv
        have sn := txtF_snoc ((k : Int) + 1) (wordH b) (m.places.take i) q
        rw [← htk] at sn
        generalize txtF ((k : Int) + 1) (wordH b) (m.places.take i) = tx at *
        try simp_arith [z1, z4, st_places, hv, Option.map_some]
        have zs := Z.sz
        by_cases c : q.2 = (k : Int) + 1
        · rw [if_pos (by simp; omega)]
          rw [if_pos c] at sn
          have nl : (numT q.1).length ≤ 2 := int_len (by omega)
          refine ⟨Nat.le_trans (by rw [sp_len]; omega : _ ≤ 1000) (by decide), ?_⟩
          unfold strIU
          refine ⟨by omega, ?_⟩
          try simp_arith [true_and]
          refine ⟨Nat.le_trans (show (tx ++ Str.ofString " ").length + (numT q.1).length ≤ 1000 by rw [strLen_append, sp_len]; omega) (by decide), ?_⟩
          exact ⟨_, by rw [sn]; rfl, s5⟩
        · rw [if_neg (by simp; omega)]
          rw [if_neg c] at sn
          exact ⟨_, by rw [sn], s5⟩
      · rintro σ H5 ⟨w4, rfl, s5⟩
        show R1 _ _ _
        rw [len_intV, List.length_map, List.take_length, txt_line R hk']
        have el5 := s5 _ _ el
        subst hR1
        have hl : f.inside.length = f.high.length := R.len
        have hkf : k < f.high.length := by rw [R.high]; exact hk'
        have hkl : k < (linesOf f).length := by rw [lines_len hl]; exact hkf
        have eL : (linesOf f)[k]? = some (lineOf b (f.inside.getD k none)) := by
          unfold linesOf
          rw [List.getElem?_eq_getElem (by rw [List.length_zipWith]; omega), List.getElem_zipWith]
          have e1 : f.high[k] = b := by
            rw [← hb]
            simp [R.high, List.getD, hk']
          have e2 : f.inside.getD k none = f.inside[k]'(by rw [hl]; exact hkf) := by simp [List.getD, show k < f.inside.length by rw [hl]; exact hkf]
          rw [e1, e2]
        try simp_arith [el5]
        refine ⟨by rw [List.length_map, List.length_take]; exact Nat.lt_of_le_of_lt (by omega : _ ≤ 1000) (by decide), _, _, _, rfl, fun y o e => ?_, ?_⟩
        · rw [upd_ne (ne_of_none e n_l0)]; exact (s4.trans s5) y o e
        · rw [upd_same, List.take_succ, eL]; simp
    · rintro σ H2 ⟨v2, v3, v4, rfl, s2, el⟩
      show R0 _ _ _
      have hl : f.inside.length = f.high.length := R.len
      rw [show ((m.high.length : Int)).toNat = (linesOf f).length by rw [lines_len hl, R.high]; omega, List.take_length] at el
      subst hR0
      try simp_arith [el]
      intro y n_y
      exact join_lines hl (by rw [R.high]; exact hz) (few_ins R Z) upd_same (k _ (s2.trans (same_new n_y)))
end
inductive Pv16 (K : PySem.W.Frag) (ns : List Int) (t : Adr) (A : FA) (S : SA) (a l : Addr) (xs : List V) (p : Addr) (i : Nat) (σ : St) (H' : Hp) : Prop
  | mk (f : Fl) (m : Md) (v4 v5 : Option V) (eσ : σ = [some (.ref a), some (.ref l), some (.ref A.p), some (.ref S.q), v4, v5]) (F : FlAt t H' A f) (G : StAt H' S m) (R : Rel f m) (Z : Sz m) (q5 : m.through.length ≤ i) (sq : SqL K H' a (ns.map V.int)) (ep : H' p = some (.lst xs))
theorem seq_but {K : PySem.W.Frag} {H0 : Hp} {a : Addr} {xs : List V} {ys : List Addr} (h : SqL K H0 a xs) (n : a ∈ ys → H0 a = none) : ∀ H H', SqL K H a xs → But ys H H' → SqL K H' a xs := by
  by_cases aF : a ∈ ys
  · have e := n aF
    rcases h with (h | ⟨o, h⟩) | h
    · have h : H0 a = _ := h
      rw [e] at h; cases h
    · have h : H0 a = _ := h
      rw [e] at h; cases h
    · exact fun _ _ _ _ => .inr h
  · intro H H' g b
    rcases g with (g | ⟨o, g⟩) | g
    · exact .inl (.inl (b _ _ g aF))
    · exact .inl (.inr ⟨o, b _ _ g aF⟩)
    · exact .inr g
section
variable {P : Program} {w : World} {K : PySem.W.Frag} {mg : Str → Option Value} {base : Heap} {t : Adr}
inductive sp_law (K : PySem.W.Frag) (vs : List V) (H : Hp) (Q : VK) (E_ : XK) : Prop
  | mk (a : Addr) (ns : List Int) (z0 : vs = [.ref a]) (z1 : SqL K H a (ns.map V.int)) (z2 : ns.length ≤ 63) (z3 : ∀ H', Q (.bl true) H') : sp_law K vs H Q E_
theorem sc_law : FnScope ["script", "levels", "flight", "state", "cell", "found"] ["script"] (defScope s_law) := ⟨rfl, rfl, rfl, by decide +kernel, rfl, by decide +kernel, by decide +kernel⟩
set_option maxHeartbeats 800000 in
theorem ok_law (T : Txt w K mg t) : FnOk P w K mg base (CXe P w) 8 t.f_law t.d_law ["script"] (sp_law K) := by
  have G_init := ok_init (P := P) (w := w) (base := base) T
  have G_l_cell_at := ok_l_cell_at (P := P) (w := w) (base := base) T
  have G_l_levels := ok_l_levels (P := P) (w := w) (base := base) T
  have G_l_new := ok_l_new (P := P) (w := w) (base := base) T
  have G_l_step := ok_l_step (P := P) (w := w) (base := base) T
  have G_l_text := ok_l_text (P := P) (w := w) (base := base) T
  have G_l_stands := ok_l_stands (P := P) (w := w) (base := base) T
  have G_drawing := ok_drawing (P := P) (w := w) (base := base) T
  refine okX T.F_law sc_law (fun vs H Q E h => ?_) (fun cdv A outer s H vs Q E hr h => ?_)
  · obtain ⟨a, ns, rfl, _⟩ := h; rfl
  · obtain ⟨a, ns, rfl, hS, hz, k⟩ := h
    have hu1 := hu_of hr
    refine ⟨_, (pss_cons (ps_set (i := 1) sc_law.nd rfl (Or.inl rfl) (eu_call G_l_levels (hr.mono (by decide)) rfl T.g_l_levels T.F_l_levels.kp T.b_l_levels passB (pa_cons (pu 0) (pa_cons pe_int pa_nil))))
 (pss_cons (ps_set (i := 2) sc_law.nd rfl (Or.inl rfl) (eu_make T.mkc G_init (hr.mono (by decide)) rfl T.g_Flight T.b_init passB (pa_cons (pe_callTy cu_list rfl T.z_list PyProof.Rows.boot_list (pa_cons (pu 1) pa_nil)) pa_nil)))
 (pss_cons (ps_set (i := 3) sc_law.nd rfl (Or.inl rfl) (eu_call G_l_new (hr.mono (by decide)) rfl T.g_l_new T.F_l_new.kp T.b_l_new passB (pa_cons (pu 1) pa_nil)))
 (pss_cons (ps_for ownB rfl (pi_listK (K := K) rfl (pe_slice (sl_listK (K := K) rfl) (pu 0) (po_some pe_int) (po_some pe_int))) (pg_name (i := 4) sc_law.nd rfl (Or.inl rfl)) (pss_one (ps_expr (eu_call G_l_step (hr.mono (by decide)) rfl T.g_l_step T.F_l_step.kp T.b_l_step passB (pa_cons (pu 2) (pa_cons (pu 3) (pa_cons (pu 4) pa_nil)))))))
 (pss_cons (ps_set (i := 5) sc_law.nd rfl (Or.inl rfl) (eu_call G_drawing (hr.mono (by decide)) rfl T.g_drawing T.F_drawing.kp T.b_drawing passB (pa_cons (pu 2) pa_nil)))
 (pss_cons (ps_if (PW.pt (pw_or (pt_not (tu_val (pe_callB (cu_isiK (K := K) rfl) rfl T.z_isinstance PyProof.Rows.boot_isinstance (pa_cons (pu 5) (pa_cons (pe_bltn (v := .ty "str") rfl T.z_str PyProof.Rows.boot_str rfl) pa_nil))))) (pw_or (tu_cmp (ou_ne hr.units) (pu 5) (eu_call G_l_text (hr.mono (by decide)) rfl T.g_l_text T.F_l_text.kp T.b_l_text passB (pa_cons (pu 3) pa_nil)) (nomark _)) (pw_or1 (pt_not (tu_val (eu_call G_l_stands (hr.mono (by decide)) rfl T.g_l_stands T.F_l_stands.kp T.b_l_stands passB (pa_cons (pu 2) (pa_cons (pu 3) pa_nil))))))))) (pss_one (ps_ret pe_bl)) pss_nil)
 (pss_cons (ps_expr (eu_call G_l_step (hr.mono (by decide)) rfl T.g_l_step T.F_l_step.kp T.b_l_step passB (pa_cons (pu 2) (pa_cons (pu 3) (pa_cons (pe_op ou_add pe_int (pe_op ou_mul pe_int (eu_call G_l_cell_at (hr.mono (by decide)) rfl T.g_l_cell_at T.F_l_cell_at.kp T.b_l_cell_at passB (pa_cons (pu 0) (pa_cons pe_int pa_nil))))) pa_nil)))))
 (pss_one (ps_ret (pe_cmpR (ou_eq hr.units) (eu_call G_drawing (hr.mono (by decide)) rfl T.g_drawing T.F_drawing.kp T.b_drawing passB (pa_cons (pu 2) pa_nil)) (eu_call G_l_text (hr.mono (by decide)) rfl T.g_l_text T.F_l_text.kp T.b_l_text passB (pa_cons (pu 3) pa_nil)) (nomark _))))))))))), ?_⟩
    refine seqG fun R0 hR0 => ?_
    try simp_arith [true_and]
    refine ⟨a, ns, 0, rfl, hS, by decide, fun l H1 s1 n1 e1 => ?_⟩
    obtain ⟨lo, hi⟩ := lv_len ns 0
    generalize lvOf ns 0 = lv at *
    have S1 : SqL K H1 a (ns.map V.int) := s1.seq hS
    subst hR0
    refine seqG fun R0 hR0 => ?_
    try simp_arith [e1]
    intro l2 n_l2
    have sm_H2 := same_new (o := HO.lst (bls lv)) n_l2
    have e_l2 : upd H1 l2 (HO.lst (bls lv)) l2 = some (HO.lst (bls lv)) := upd_same
    replace e1 := sm_H2 _ _ e1
    generalize upd H1 l2 (HO.lst (bls lv)) = H2 at *
    intro x dx nx ndx ndxx
    refine mk_flight nx ndx ndxx e_l2 lo hi fun A H3 eA frA s3 FA => ⟨rfl, ?_⟩
    subst eA
    have S3 : SqL K H3 a (ns.map V.int) := s3.seq (sm_H2.seq S1)
    replace e1 := s3 _ _ e1
    subst hR0
    refine seqG fun R0 hR0 => ?_
    try simp_arith [e1]
    refine ⟨l, lv, rfl, e1, fun S H6 s6 frS FS => ?_⟩
    have S6 : SqL K H6 a (ns.map V.int) := s6.seq S3
    have AS := apart FA.there frS
    have FA6 := FA.same s6
    have hb := seq_but hS (ys := A.foot ++ S.foot) fun ha => by
      rcases List.mem_append.mp ha with ha | ha
      · exact same_was (s1.trans sm_H2) (frA a ha)
      · exact same_was ((s1.trans sm_H2).trans s3) (frS a ha)
    subst hR0
    refine seqG fun R0 hR0 => ?_
    refine for_slice (Pv16 K ns t A S a l (cutV (ns.map V.int) (some 2) (some 42))) rfl S6 fun p np => ?_
    have pA := newin FA6.there np
    have pS := newin FS.there np
    have s8 := same_new (o := HO.lst (cutV (ns.map V.int) (some 2) (some 42))) np
    have cl := cutV_length (ns.map V.int) (some 2) (some 42)
    rw [List.length_map] at cl
    refine ⟨?_, ?_, ?_, ?_⟩
    · exact ⟨_, Md.new lv, _, _, rfl, FA6.same s8, FS.same s8, Rel.new lv, ⟨hi, Nat.zero_le _⟩, Nat.le_refl _, s8.seq S6, upd_same⟩
    · rintro i σ H' ⟨f, m, v4, v5, rfl, F, G, _, _, _, _, e⟩
      exact e
    · rintro i c σ H' hc ⟨f, m, v4, v5, rfl, F, G, R, Z, q5, sq, epx⟩
      have hil : i < (cutV (ns.map V.int) (some 2) (some 42)).length := (List.getElem?_eq_some_iff.mp hc).1
      obtain ⟨c, rfl⟩ := cut_int hc
      try simp_arith [true_and]
      refine ⟨A, S, f, m, c, rfl, F, G, R, Z, by omega, AS, fun H2' f' m' st sf R' F' G' bb => ?_⟩
      have q5' := step_thr st
      exact ⟨f', m', _, _, rfl, F', G', R', step_sz st Z, by omega, hb _ _ sq bb, bb _ _ epx (by simp [pA, pS])⟩
    · rintro σ H' ⟨f, m, v4, v5, rfl, F, G, R, Z, q5, sq, epx⟩
      show R0 _ _ _
      have zz := Z.hz
      have hf : f.high.length ≤ 8 := by rw [R.high]; exact zz
      subst hR0
      refine seqG fun R0 hR0 => ?_
      try simp_arith [true_and]
      refine ⟨A, f, rfl, F, R.len, hf, few_ins R Z, fun H1' s1' => ?_⟩
      subst hR0
      refine seqG fun R0 hR0 => ?_
      try simp_arith [tyO, okC, cV, T.q_str_str, Bool.not_true]
      refine ⟨S, f, m, rfl, G.same s1', R, Z, fun H2' s2' => ?_⟩
      try simp_arith [decide_true, Bool.not_true]
      have s12 := s1'.trans s2'
      refine ⟨A, S, f, m, rfl, F.same s12, G.same s12, R, Z, by omega, fun H3' s3' => ?_⟩
      try simp_arith [Bool.not_true]
      have s13 := s12.trans s3'
      subst hR0
      refine seqG fun R0 hR0 => ?_
      try simp_arith [true_and]
      refine ⟨a, ns, 42, rfl, s13.seq sq, by decide, ?_⟩
      try simp_arith [true_and]
      refine ⟨.inl ⟨by decide, by decide⟩, ?_⟩
      generalize 1 + 7 * cellOf ns 42 = c
      refine ⟨A, S, f, m, c, rfl, F.same s13, G.same s13, R, Z, by omega, AS, fun H4' f' m' st sf R' F' G' bb => ?_⟩
      have Z' := step_sz st Z
      subst hR0
      try simp_arith [true_and]
      refine ⟨A, f', rfl, F', R'.len, by rw [R'.high]; exact Z'.hz, few_ins R' Z', fun H5' s5' => ?_⟩
      try simp_arith [true_and]
      refine ⟨S, f', m', rfl, G'.same s5', R', Z', fun H6' s6' => ?_⟩
      try simp_arith [decide_true]
      exact k _
end
abbrev fd_drawing : FuncData := PySem.W.fnOf "drawing" "drawing" (defArgs s_drawing) (defBody s_drawing) (defScope s_drawing) .none .none .none (.str (Str.ofString "lockflight.notes") 319) none (.ref 115) .none
abbrev fd_chamber_line : FuncData := PySem.W.fnOf "chamber_line" "chamber_line" (defArgs s_chamber_line) (defBody s_chamber_line) (defScope s_chamber_line) .none .none .none (.str (Str.ofString "lockflight.notes") 319) none (.ref 122) .none
abbrev fd_init : FuncData := PySem.W.fnOf "__init__" "Flight.__init__" (defArgs s_init) (defBody s_init) (defScope s_init) .none .none .none (.str (Str.ofString "lockflight.flight") 336) none (.ref 136) .none
abbrev fd_levels : FuncData := PySem.W.fnOf "levels" "Flight.levels" (defArgs s_levels) (defBody s_levels) (defScope s_levels) .none .none .none (.str (Str.ofString "lockflight.flight") 336) none (.ref 143) .none
abbrev fd_boats : FuncData := PySem.W.fnOf "boats" "Flight.boats" (defArgs s_boats) (defBody s_boats) (defScope s_boats) .none .none .none (.str (Str.ofString "lockflight.flight") 336) none (.ref 150) .none
abbrev fd_waiting : FuncData := PySem.W.fnOf "waiting" "Flight.waiting" (defArgs s_waiting) (defBody s_waiting) (defScope s_waiting) .none .none .none (.str (Str.ofString "lockflight.flight") 336) none (.ref 157) .none
abbrev fd_through : FuncData := PySem.W.fnOf "through" "Flight.through" (defArgs s_through) (defBody s_through) (defScope s_through) .none .none .none (.str (Str.ofString "lockflight.flight") 336) none (.ref 164) .none
abbrev fd_drawn : FuncData := PySem.W.fnOf "drawn" "Flight.drawn" (defArgs s_drawn) (defBody s_drawn) (defScope s_drawn) .none .none .none (.str (Str.ofString "lockflight.flight") 336) none (.ref 171) .none
abbrev fd_out : FuncData := PySem.W.fnOf "out" "Flight.out" (defArgs s_out) (defBody s_out) (defScope s_out) .none .none .none (.str (Str.ofString "lockflight.flight") 336) none (.ref 178) .none
abbrev fd_side : FuncData := PySem.W.fnOf "side" "Flight.side" (defArgs s_side) (defBody s_side) (defScope s_side) .none .none .none (.str (Str.ofString "lockflight.flight") 336) none (.ref 185) .none
abbrev fd_place : FuncData := PySem.W.fnOf "place" "Flight.place" (defArgs s_place) (defBody s_place) (defScope s_place) .none .none .none (.str (Str.ofString "lockflight.flight") 336) none (.ref 192) .none
abbrev fd_come : FuncData := PySem.W.fnOf "come" "Flight.come" (defArgs s_come) (defBody s_come) (defScope s_come) .none .none .none (.str (Str.ofString "lockflight.flight") 336) none (.ref 199) .none
abbrev fd_let : FuncData := PySem.W.fnOf "let" "Flight.let" (defArgs s_let) (defBody s_let) (defScope s_let) .none .none .none (.str (Str.ofString "lockflight.flight") 336) none (.ref 206) .none
abbrev fd_sail : FuncData := PySem.W.fnOf "sail" "Flight.sail" (defArgs s_sail) (defBody s_sail) (defScope s_sail) .none .none .none (.str (Str.ofString "lockflight.flight") 336) none (.ref 213) .none
abbrev fd_summit : FuncData := PySem.W.fnOf "summit" "Flight.summit" (defArgs s_summit) (defBody s_summit) (defScope s_summit) .none .none .none (.str (Str.ofString "lockflight.flight") 336) none (.ref 220) .none
abbrev fd_is_chamber : FuncData := PySem.W.fnOf "is_chamber" "Flight.is_chamber" (defArgs s_is_chamber) (defBody s_is_chamber) (defScope s_is_chamber) .none .none .none (.str (Str.ofString "lockflight.flight") 336) none (.ref 227) .none
abbrev fd_can_give : FuncData := PySem.W.fnOf "can_give" "Flight.can_give" (defArgs s_can_give) (defBody s_can_give) (defScope s_can_give) .none .none .none (.str (Str.ofString "lockflight.flight") 336) none (.ref 234) .none
abbrev fd_can_take : FuncData := PySem.W.fnOf "can_take" "Flight.can_take" (defArgs s_can_take) (defBody s_can_take) (defScope s_can_take) .none .none .none (.str (Str.ofString "lockflight.flight") 336) none (.ref 241) .none
abbrev fd_is_level : FuncData := PySem.W.fnOf "is_level" "Flight.is_level" (defArgs s_is_level) (defBody s_is_level) (defScope s_is_level) .none .none .none (.str (Str.ofString "lockflight.flight") 336) none (.ref 248) .none
abbrev fd_give : FuncData := PySem.W.fnOf "give" "Flight.give" (defArgs s_give) (defBody s_give) (defScope s_give) .none .none .none (.str (Str.ofString "lockflight.flight") 336) none (.ref 255) .none
abbrev fd_take : FuncData := PySem.W.fnOf "take" "Flight.take" (defArgs s_take) (defBody s_take) (defScope s_take) .none .none .none (.str (Str.ofString "lockflight.flight") 336) none (.ref 262) .none
abbrev fd_leave : FuncData := PySem.W.fnOf "leave" "Flight.leave" (defArgs s_leave) (defBody s_leave) (defScope s_leave) .none .none .none (.str (Str.ofString "lockflight.flight") 336) none (.ref 269) .none
abbrev fd_enter : FuncData := PySem.W.fnOf "enter" "Flight.enter" (defArgs s_enter) (defBody s_enter) (defScope s_enter) .none .none .none (.str (Str.ofString "lockflight.flight") 336) none (.ref 276) .none
abbrev fd_l_cell_at : FuncData := PySem.W.fnOf "_law_cell_at" "_law_cell_at" (defArgs s_l_cell_at) (defBody s_l_cell_at) (defScope s_l_cell_at) .none .none .none (.str (Str.ofString "law_lockflight_k16_flights_drawn") 535) none (.ref 290) .none
abbrev fd_l_whole : FuncData := PySem.W.fnOf "_law_whole" "_law_whole" (defArgs s_l_whole) (defBody s_l_whole) (defScope s_l_whole) .none .none .none (.str (Str.ofString "law_lockflight_k16_flights_drawn") 535) none (.ref 297) .none
abbrev fd_l_bools : FuncData := PySem.W.fnOf "_law_bools" "_law_bools" (defArgs s_l_bools) (defBody s_l_bools) (defScope s_l_bools) .none .none .none (.str (Str.ofString "law_lockflight_k16_flights_drawn") 535) none (.ref 302) .none
abbrev fd_l_numbers : FuncData := PySem.W.fnOf "_law_numbers" "_law_numbers" (defArgs s_l_numbers) (defBody s_l_numbers) (defScope s_l_numbers) .none .none .none (.str (Str.ofString "law_lockflight_k16_flights_drawn") 535) none (.ref 307) .none
abbrev fd_l_stands : FuncData := PySem.W.fnOf "_law_stands" "_law_stands" (defArgs s_l_stands) (defBody s_l_stands) (defScope s_l_stands) .none .none .none (.str (Str.ofString "law_lockflight_k16_flights_drawn") 535) none (.ref 312) .none
abbrev fd_l_levels : FuncData := PySem.W.fnOf "_law_levels" "_law_levels" (defArgs s_l_levels) (defBody s_l_levels) (defScope s_l_levels) .none .none .none (.str (Str.ofString "law_lockflight_k16_flights_drawn") 535) none (.ref 317) .none
abbrev fd_l_new : FuncData := PySem.W.fnOf "_law_new" "_law_new" (defArgs s_l_new) (defBody s_l_new) (defScope s_l_new) .none .none .none (.str (Str.ofString "law_lockflight_k16_flights_drawn") 535) none (.ref 324) .none
abbrev fd_l_let_word : FuncData := PySem.W.fnOf "_law_let_word" "_law_let_word" (defArgs s_l_let_word) (defBody s_l_let_word) (defScope s_l_let_word) .none .none .none (.str (Str.ofString "law_lockflight_k16_flights_drawn") 535) none (.ref 331) .none
abbrev fd_l_let : FuncData := PySem.W.fnOf "_law_let" "_law_let" (defArgs s_l_let) (defBody s_l_let) (defScope s_l_let) .none .none .none (.str (Str.ofString "law_lockflight_k16_flights_drawn") 535) none (.ref 338) .none
abbrev fd_l_then : FuncData := PySem.W.fnOf "_law_then" "_law_then" (defArgs s_l_then) (defBody s_l_then) (defScope s_l_then) .none .none .none (.str (Str.ofString "law_lockflight_k16_flights_drawn") 535) none (.ref 345) .none
abbrev fd_l_sail_word : FuncData := PySem.W.fnOf "_law_sail_word" "_law_sail_word" (defArgs s_l_sail_word) (defBody s_l_sail_word) (defScope s_l_sail_word) .none .none .none (.str (Str.ofString "law_lockflight_k16_flights_drawn") 535) none (.ref 350) .none
abbrev fd_l_sail : FuncData := PySem.W.fnOf "_law_sail" "_law_sail" (defArgs s_l_sail) (defBody s_l_sail) (defScope s_l_sail) .none .none .none (.str (Str.ofString "law_lockflight_k16_flights_drawn") 535) none (.ref 357) .none
abbrev fd_l_come : FuncData := PySem.W.fnOf "_law_come" "_law_come" (defArgs s_l_come) (defBody s_l_come) (defScope s_l_come) .none .none .none (.str (Str.ofString "law_lockflight_k16_flights_drawn") 535) none (.ref 364) .none
abbrev fd_l_lets : FuncData := PySem.W.fnOf "_law_lets" "_law_lets" (defArgs s_l_lets) (defBody s_l_lets) (defScope s_l_lets) .none .none .none (.str (Str.ofString "law_lockflight_k16_flights_drawn") 535) none (.ref 369) .none
abbrev fd_l_sails : FuncData := PySem.W.fnOf "_law_sails" "_law_sails" (defArgs s_l_sails) (defBody s_l_sails) (defScope s_l_sails) .none .none .none (.str (Str.ofString "law_lockflight_k16_flights_drawn") 535) none (.ref 374) .none
abbrev fd_l_step : FuncData := PySem.W.fnOf "_law_step" "_law_step" (defArgs s_l_step) (defBody s_l_step) (defScope s_l_step) .none .none .none (.str (Str.ofString "law_lockflight_k16_flights_drawn") 535) none (.ref 381) .none
abbrev fd_l_text : FuncData := PySem.W.fnOf "_law_text" "_law_text" (defArgs s_l_text) (defBody s_l_text) (defScope s_l_text) .none .none .none (.str (Str.ofString "law_lockflight_k16_flights_drawn") 535) none (.ref 388) .none
abbrev fd_law : FuncData := PySem.W.fnOf "law" "law" (defArgs s_law) (defBody s_law) (defScope s_law) .none .none .none (.str (Str.ofString "law_lockflight_k16_flights_drawn") 535) none (.ref 395) .none
noncomputable def ob_3 (P : PySem.Params) : Obj := ⟨(.type "dict"), none, (.dict #[⟨(PyData.keyHash P (Str.ofString "__name__")), (.str (Str.ofString "__name__") 165), (.str (Str.ofString "law_lockflight_k16_flights_drawn") 535)⟩, ⟨(PyData.keyHash P (Str.ofString "__doc__")), (.str (Str.ofString "__doc__") 166), .none⟩, ⟨(PyData.keyHash P (Str.ofString "__package__")), (.str (Str.ofString "__package__") 167), .none⟩, ⟨(PyData.keyHash P (Str.ofString "__loader__")), (.str (Str.ofString "__loader__") 168), (.builtin "__main__.__loader__#opaque")⟩, ⟨(PyData.keyHash P (Str.ofString "__spec__")), (.str (Str.ofString "__spec__") 169), .none⟩, ⟨(PyData.keyHash P (Str.ofString "__annotations__")), (.str (Str.ofString "__annotations__") 170), (.ref 6)⟩, ⟨(PyData.keyHash P (Str.ofString "__builtins__")), (.str (Str.ofString "__builtins__") 171), (.ref 4)⟩, ⟨(PyData.keyHash P (Str.ofString "__file__")), (.str (Str.ofString "__file__") 173), (.str (Str.ofString "/claim/cut.py") 172)⟩, ⟨(PyData.keyHash P (Str.ofString "__cached__")), (.str (Str.ofString "__cached__") 174), .none⟩, ⟨(PyData.keyHash P (Str.ofString "LockError")), (.str (Str.ofString "LockError") 206), (.ref 24)⟩, ⟨(PyData.keyHash P (Str.ofString "BadFlight")), (.str (Str.ofString "BadFlight") 222), (.ref 37)⟩, ⟨(PyData.keyHash P (Str.ofString "NoGate")), (.str (Str.ofString "NoGate") 238), (.ref 49)⟩, ⟨(PyData.keyHash P (Str.ofString "NoFall")), (.str (Str.ofString "NoFall") 254), (.ref 61)⟩, ⟨(PyData.keyHash P (Str.ofString "NoBoat")), (.str (Str.ofString "NoBoat") 270), (.ref 73)⟩, ⟨(PyData.keyHash P (Str.ofString "NotFirst")), (.str (Str.ofString "NotFirst") 286), (.ref 85)⟩, ⟨(PyData.keyHash P (Str.ofString "Shut")), (.str (Str.ofString "Shut") 302), (.ref 97)⟩, ⟨(PyData.keyHash P (Str.ofString "Occupied")), (.str (Str.ofString "Occupied") 318), (.ref 109)⟩, ⟨(PyData.keyHash P (Str.ofString "drawing")), (.str (Str.ofString "drawing") 326), (.ref 116)⟩, ⟨(PyData.keyHash P (Str.ofString "chamber_line")), (.str (Str.ofString "chamber_line") 335), (.ref 123)⟩, ⟨(PyData.keyHash P (Str.ofString "MOST_CHAMBERS")), (.str (Str.ofString "MOST_CHAMBERS") 339), (.int 8 338)⟩, ⟨(PyData.keyHash P (Str.ofString "Flight")), (.str (Str.ofString "Flight") 534), (.ref 280)⟩, ⟨(PyData.keyHash P (Str.ofString "_law_cell_at")), (.str (Str.ofString "_law_cell_at") 544), (.ref 291)⟩, ⟨(PyData.keyHash P (Str.ofString "_law_whole")), (.str (Str.ofString "_law_whole") 551), (.ref 298)⟩, ⟨(PyData.keyHash P (Str.ofString "_law_bools")), (.str (Str.ofString "_law_bools") 557), (.ref 303)⟩, ⟨(PyData.keyHash P (Str.ofString "_law_numbers")), (.str (Str.ofString "_law_numbers") 563), (.ref 308)⟩, ⟨(PyData.keyHash P (Str.ofString "_law_stands")), (.str (Str.ofString "_law_stands") 569), (.ref 313)⟩, ⟨(PyData.keyHash P (Str.ofString "_law_levels")), (.str (Str.ofString "_law_levels") 575), (.ref 318)⟩, ⟨(PyData.keyHash P (Str.ofString "_law_new")), (.str (Str.ofString "_law_new") 582), (.ref 325)⟩, ⟨(PyData.keyHash P (Str.ofString "_law_let_word")), (.str (Str.ofString "_law_let_word") 592), (.ref 332)⟩, ⟨(PyData.keyHash P (Str.ofString "_law_let")), (.str (Str.ofString "_law_let") 601), (.ref 339)⟩, ⟨(PyData.keyHash P (Str.ofString "_law_then")), (.str (Str.ofString "_law_then") 609), (.ref 346)⟩, ⟨(PyData.keyHash P (Str.ofString "_law_sail_word")), (.str (Str.ofString "_law_sail_word") 615), (.ref 351)⟩, ⟨(PyData.keyHash P (Str.ofString "_law_sail")), (.str (Str.ofString "_law_sail") 624), (.ref 358)⟩, ⟨(PyData.keyHash P (Str.ofString "_law_come")), (.str (Str.ofString "_law_come") 633), (.ref 365)⟩, ⟨(PyData.keyHash P (Str.ofString "_law_lets")), (.str (Str.ofString "_law_lets") 639), (.ref 370)⟩, ⟨(PyData.keyHash P (Str.ofString "_law_sails")), (.str (Str.ofString "_law_sails") 645), (.ref 375)⟩, ⟨(PyData.keyHash P (Str.ofString "_law_step")), (.str (Str.ofString "_law_step") 660), (.ref 382)⟩, ⟨(PyData.keyHash P (Str.ofString "_law_text")), (.str (Str.ofString "_law_text") 671), (.ref 389)⟩, ⟨(PyData.keyHash P (Str.ofString "law")), (.str (Str.ofString "law") 683), (.ref 396)⟩] 39), #[]⟩
noncomputable def ob_23 (P : PySem.Params) : Obj := ⟨(.type "dict"), none, (.dict #[⟨(PyData.keyHash P (Str.ofString "__module__")), (.str (Str.ofString "__module__") 196), (.str (Str.ofString "lockflight.errors") 187)⟩, ⟨(PyData.keyHash P (Str.ofString "__firstlineno__")), (.str (Str.ofString "__firstlineno__") 200), (.int 2 199)⟩, ⟨(PyData.keyHash P (Str.ofString "__static_attributes__")), (.str (Str.ofString "__static_attributes__") 201), (.ref 22)⟩, ⟨(PyData.keyHash P (Str.ofString "__weakref__")), (.str (Str.ofString "__weakref__") 203), (.ref 25)⟩, ⟨(PyData.keyHash P (Str.ofString "__doc__")), (.str (Str.ofString "__doc__") 204), .none⟩] 3), #[]⟩
noncomputable def ob_24 (P : PySem.Params) : Obj := ⟨(.type "type"), none, (.cls ⟨(Str.ofString "LockError"), [(.type "ValueError")], [(.ref 24), (.type "ValueError"), (.type "Exception"), (.type "BaseException"), (.type "object")], 23, (Str.ofString "LockError"), true, [], [(.ref 37), (.ref 49), (.ref 61), (.ref 73), (.ref 85), (.ref 97), (.ref 109)], false, none, false⟩), #[(some (.ref 15)), none, (some (.str (Str.ofString "LockError") 189)), (some (.str (Str.ofString "LockError") 197)), (some (.builtin "ValueError.__new__")), (some (.bool true))]⟩
noncomputable def ob_36 (P : PySem.Params) : Obj := ⟨(.type "dict"), none, (.dict #[⟨(PyData.keyHash P (Str.ofString "__module__")), (.str (Str.ofString "__module__") 214), (.str (Str.ofString "lockflight.errors") 187)⟩, ⟨(PyData.keyHash P (Str.ofString "__firstlineno__")), (.str (Str.ofString "__firstlineno__") 218), (.int 4 217)⟩, ⟨(PyData.keyHash P (Str.ofString "__static_attributes__")), (.str (Str.ofString "__static_attributes__") 219), (.ref 35)⟩, ⟨(PyData.keyHash P (Str.ofString "__doc__")), (.str (Str.ofString "__doc__") 220), .none⟩] 2), #[]⟩
noncomputable def ob_37 (P : PySem.Params) : Obj := ⟨(.type "type"), none, (.cls ⟨(Str.ofString "BadFlight"), [(.ref 24)], [(.ref 37), (.ref 24), (.type "ValueError"), (.type "Exception"), (.type "BaseException"), (.type "object")], 36, (Str.ofString "BadFlight"), true, [], [], false, none, false⟩), #[(some (.ref 28)), none, (some (.str (Str.ofString "BadFlight") 207)), (some (.str (Str.ofString "BadFlight") 215)), (some (.builtin "ValueError.__new__")), (some (.bool true))]⟩
noncomputable def ob_48 (P : PySem.Params) : Obj := ⟨(.type "dict"), none, (.dict #[⟨(PyData.keyHash P (Str.ofString "__module__")), (.str (Str.ofString "__module__") 230), (.str (Str.ofString "lockflight.errors") 187)⟩, ⟨(PyData.keyHash P (Str.ofString "__firstlineno__")), (.str (Str.ofString "__firstlineno__") 234), (.int 6 233)⟩, ⟨(PyData.keyHash P (Str.ofString "__static_attributes__")), (.str (Str.ofString "__static_attributes__") 235), (.ref 47)⟩, ⟨(PyData.keyHash P (Str.ofString "__doc__")), (.str (Str.ofString "__doc__") 236), .none⟩] 2), #[]⟩
noncomputable def ob_49 (P : PySem.Params) : Obj := ⟨(.type "type"), none, (.cls ⟨(Str.ofString "NoGate"), [(.ref 24)], [(.ref 49), (.ref 24), (.type "ValueError"), (.type "Exception"), (.type "BaseException"), (.type "object")], 48, (Str.ofString "NoGate"), true, [], [], false, none, false⟩), #[(some (.ref 40)), none, (some (.str (Str.ofString "NoGate") 223)), (some (.str (Str.ofString "NoGate") 231)), (some (.builtin "ValueError.__new__")), (some (.bool true))]⟩
noncomputable def ob_60 (P : PySem.Params) : Obj := ⟨(.type "dict"), none, (.dict #[⟨(PyData.keyHash P (Str.ofString "__module__")), (.str (Str.ofString "__module__") 246), (.str (Str.ofString "lockflight.errors") 187)⟩, ⟨(PyData.keyHash P (Str.ofString "__firstlineno__")), (.str (Str.ofString "__firstlineno__") 250), (.int 8 249)⟩, ⟨(PyData.keyHash P (Str.ofString "__static_attributes__")), (.str (Str.ofString "__static_attributes__") 251), (.ref 59)⟩, ⟨(PyData.keyHash P (Str.ofString "__doc__")), (.str (Str.ofString "__doc__") 252), .none⟩] 2), #[]⟩
noncomputable def ob_61 (P : PySem.Params) : Obj := ⟨(.type "type"), none, (.cls ⟨(Str.ofString "NoFall"), [(.ref 24)], [(.ref 61), (.ref 24), (.type "ValueError"), (.type "Exception"), (.type "BaseException"), (.type "object")], 60, (Str.ofString "NoFall"), true, [], [], false, none, false⟩), #[(some (.ref 52)), none, (some (.str (Str.ofString "NoFall") 239)), (some (.str (Str.ofString "NoFall") 247)), (some (.builtin "ValueError.__new__")), (some (.bool true))]⟩
noncomputable def ob_72 (P : PySem.Params) : Obj := ⟨(.type "dict"), none, (.dict #[⟨(PyData.keyHash P (Str.ofString "__module__")), (.str (Str.ofString "__module__") 262), (.str (Str.ofString "lockflight.errors") 187)⟩, ⟨(PyData.keyHash P (Str.ofString "__firstlineno__")), (.str (Str.ofString "__firstlineno__") 266), (.int 10 265)⟩, ⟨(PyData.keyHash P (Str.ofString "__static_attributes__")), (.str (Str.ofString "__static_attributes__") 267), (.ref 71)⟩, ⟨(PyData.keyHash P (Str.ofString "__doc__")), (.str (Str.ofString "__doc__") 268), .none⟩] 2), #[]⟩
noncomputable def ob_73 (P : PySem.Params) : Obj := ⟨(.type "type"), none, (.cls ⟨(Str.ofString "NoBoat"), [(.ref 24)], [(.ref 73), (.ref 24), (.type "ValueError"), (.type "Exception"), (.type "BaseException"), (.type "object")], 72, (Str.ofString "NoBoat"), true, [], [], false, none, false⟩), #[(some (.ref 64)), none, (some (.str (Str.ofString "NoBoat") 255)), (some (.str (Str.ofString "NoBoat") 263)), (some (.builtin "ValueError.__new__")), (some (.bool true))]⟩
noncomputable def ob_84 (P : PySem.Params) : Obj := ⟨(.type "dict"), none, (.dict #[⟨(PyData.keyHash P (Str.ofString "__module__")), (.str (Str.ofString "__module__") 278), (.str (Str.ofString "lockflight.errors") 187)⟩, ⟨(PyData.keyHash P (Str.ofString "__firstlineno__")), (.str (Str.ofString "__firstlineno__") 282), (.int 12 281)⟩, ⟨(PyData.keyHash P (Str.ofString "__static_attributes__")), (.str (Str.ofString "__static_attributes__") 283), (.ref 83)⟩, ⟨(PyData.keyHash P (Str.ofString "__doc__")), (.str (Str.ofString "__doc__") 284), .none⟩] 2), #[]⟩
noncomputable def ob_85 (P : PySem.Params) : Obj := ⟨(.type "type"), none, (.cls ⟨(Str.ofString "NotFirst"), [(.ref 24)], [(.ref 85), (.ref 24), (.type "ValueError"), (.type "Exception"), (.type "BaseException"), (.type "object")], 84, (Str.ofString "NotFirst"), true, [], [], false, none, false⟩), #[(some (.ref 76)), none, (some (.str (Str.ofString "NotFirst") 271)), (some (.str (Str.ofString "NotFirst") 279)), (some (.builtin "ValueError.__new__")), (some (.bool true))]⟩
noncomputable def ob_96 (P : PySem.Params) : Obj := ⟨(.type "dict"), none, (.dict #[⟨(PyData.keyHash P (Str.ofString "__module__")), (.str (Str.ofString "__module__") 294), (.str (Str.ofString "lockflight.errors") 187)⟩, ⟨(PyData.keyHash P (Str.ofString "__firstlineno__")), (.str (Str.ofString "__firstlineno__") 298), (.int 14 297)⟩, ⟨(PyData.keyHash P (Str.ofString "__static_attributes__")), (.str (Str.ofString "__static_attributes__") 299), (.ref 95)⟩, ⟨(PyData.keyHash P (Str.ofString "__doc__")), (.str (Str.ofString "__doc__") 300), .none⟩] 2), #[]⟩
noncomputable def ob_97 (P : PySem.Params) : Obj := ⟨(.type "type"), none, (.cls ⟨(Str.ofString "Shut"), [(.ref 24)], [(.ref 97), (.ref 24), (.type "ValueError"), (.type "Exception"), (.type "BaseException"), (.type "object")], 96, (Str.ofString "Shut"), true, [], [], false, none, false⟩), #[(some (.ref 88)), none, (some (.str (Str.ofString "Shut") 287)), (some (.str (Str.ofString "Shut") 295)), (some (.builtin "ValueError.__new__")), (some (.bool true))]⟩
noncomputable def ob_108 (P : PySem.Params) : Obj := ⟨(.type "dict"), none, (.dict #[⟨(PyData.keyHash P (Str.ofString "__module__")), (.str (Str.ofString "__module__") 310), (.str (Str.ofString "lockflight.errors") 187)⟩, ⟨(PyData.keyHash P (Str.ofString "__firstlineno__")), (.str (Str.ofString "__firstlineno__") 314), (.int 16 313)⟩, ⟨(PyData.keyHash P (Str.ofString "__static_attributes__")), (.str (Str.ofString "__static_attributes__") 315), (.ref 107)⟩, ⟨(PyData.keyHash P (Str.ofString "__doc__")), (.str (Str.ofString "__doc__") 316), .none⟩] 2), #[]⟩
noncomputable def ob_109 (P : PySem.Params) : Obj := ⟨(.type "type"), none, (.cls ⟨(Str.ofString "Occupied"), [(.ref 24)], [(.ref 109), (.ref 24), (.type "ValueError"), (.type "Exception"), (.type "BaseException"), (.type "object")], 108, (Str.ofString "Occupied"), true, [], [], false, none, false⟩), #[(some (.ref 100)), none, (some (.str (Str.ofString "Occupied") 303)), (some (.str (Str.ofString "Occupied") 311)), (some (.builtin "ValueError.__new__")), (some (.bool true))]⟩
noncomputable def ob_115 (P : PySem.Params) : Obj := ⟨(.type "code"), none, (.fields #[(.str (Str.ofString "drawing") 321), (.str (Str.ofString "drawing") 322), (.str (Str.ofString "/claim/cut.py") 323), (.int 19 0), (.int 1 0), (.int 0 0), (.int 0 0), (.int 3 0), (.ref 112), (.bool true), (.int 181 0), (.ref 113), .none, .none, .none, (.ref 114), (.int 324 0), (.int 19 0), (.str (Str.ofString "/claim/cut.py") 325)]), #[]⟩
noncomputable def ob_116 (P : PySem.Params) : Obj := ⟨(.type "function"), none, .func fd_drawing, #[]⟩
noncomputable def ob_122 (P : PySem.Params) : Obj := ⟨(.type "code"), none, (.fields #[(.str (Str.ofString "chamber_line") 327), (.str (Str.ofString "chamber_line") 328), (.str (Str.ofString "/claim/cut.py") 329), (.int 22 0), (.int 2 0), (.int 0 0), (.int 0 0), (.int 3 0), (.ref 117), (.bool true), (.int 181 0), (.ref 118), .none, (.ref 119), (.ref 120), (.ref 121), (.int 333 0), (.int 22 0), (.str (Str.ofString "/claim/cut.py") 334)]), #[]⟩
noncomputable def ob_123 (P : PySem.Params) : Obj := ⟨(.type "function"), none, .func fd_chamber_line, #[]⟩
noncomputable def ob_136 (P : PySem.Params) : Obj := ⟨(.type "code"), none, (.fields #[(.str (Str.ofString "__init__") 352), (.str (Str.ofString "Flight.__init__") 353), (.str (Str.ofString "/claim/cut.py") 354), (.int 29 0), (.int 2 0), (.int 0 0), (.int 0 0), (.int 3 0), (.ref 131), (.bool true), (.int 181 0), (.ref 132), .none, (.ref 133), (.ref 134), (.ref 135), (.int 357 0), (.int 29 0), (.str (Str.ofString "/claim/cut.py") 358)]), #[]⟩
noncomputable def ob_137 (P : PySem.Params) : Obj := ⟨(.type "function"), none, .func fd_init, #[]⟩
noncomputable def ob_143 (P : PySem.Params) : Obj := ⟨(.type "code"), none, (.fields #[(.str (Str.ofString "levels") 360), (.str (Str.ofString "Flight.levels") 361), (.str (Str.ofString "/claim/cut.py") 362), (.int 40 0), (.int 1 0), (.int 0 0), (.int 0 0), (.int 3 0), (.ref 138), (.bool true), (.int 181 0), (.ref 139), .none, (.ref 140), (.ref 141), (.ref 142), (.int 364 0), (.int 40 0), (.str (Str.ofString "/claim/cut.py") 365)]), #[]⟩
noncomputable def ob_144 (P : PySem.Params) : Obj := ⟨(.type "function"), none, .func fd_levels, #[]⟩
noncomputable def ob_150 (P : PySem.Params) : Obj := ⟨(.type "code"), none, (.fields #[(.str (Str.ofString "boats") 367), (.str (Str.ofString "Flight.boats") 368), (.str (Str.ofString "/claim/cut.py") 369), (.int 43 0), (.int 1 0), (.int 0 0), (.int 0 0), (.int 3 0), (.ref 145), (.bool true), (.int 181 0), (.ref 146), .none, (.ref 147), (.ref 148), (.ref 149), (.int 371 0), (.int 43 0), (.str (Str.ofString "/claim/cut.py") 372)]), #[]⟩
noncomputable def ob_151 (P : PySem.Params) : Obj := ⟨(.type "function"), none, .func fd_boats, #[]⟩
noncomputable def ob_157 (P : PySem.Params) : Obj := ⟨(.type "code"), none, (.fields #[(.str (Str.ofString "waiting") 374), (.str (Str.ofString "Flight.waiting") 375), (.str (Str.ofString "/claim/cut.py") 376), (.int 46 0), (.int 2 0), (.int 0 0), (.int 0 0), (.int 3 0), (.ref 152), (.bool true), (.int 181 0), (.ref 153), .none, (.ref 154), (.ref 155), (.ref 156), (.int 379 0), (.int 46 0), (.str (Str.ofString "/claim/cut.py") 380)]), #[]⟩
noncomputable def ob_158 (P : PySem.Params) : Obj := ⟨(.type "function"), none, .func fd_waiting, #[]⟩
noncomputable def ob_164 (P : PySem.Params) : Obj := ⟨(.type "code"), none, (.fields #[(.str (Str.ofString "through") 382), (.str (Str.ofString "Flight.through") 383), (.str (Str.ofString "/claim/cut.py") 384), (.int 49 0), (.int 1 0), (.int 0 0), (.int 0 0), (.int 3 0), (.ref 159), (.bool true), (.int 181 0), (.ref 160), .none, (.ref 161), (.ref 162), (.ref 163), (.int 386 0), (.int 49 0), (.str (Str.ofString "/claim/cut.py") 387)]), #[]⟩
noncomputable def ob_165 (P : PySem.Params) : Obj := ⟨(.type "function"), none, .func fd_through, #[]⟩
noncomputable def ob_171 (P : PySem.Params) : Obj := ⟨(.type "code"), none, (.fields #[(.str (Str.ofString "drawn") 389), (.str (Str.ofString "Flight.drawn") 390), (.str (Str.ofString "/claim/cut.py") 391), (.int 52 0), (.int 1 0), (.int 0 0), (.int 0 0), (.int 3 0), (.ref 166), (.bool true), (.int 181 0), (.ref 167), .none, (.ref 168), (.ref 169), (.ref 170), (.int 393 0), (.int 52 0), (.str (Str.ofString "/claim/cut.py") 394)]), #[]⟩
noncomputable def ob_172 (P : PySem.Params) : Obj := ⟨(.type "function"), none, .func fd_drawn, #[]⟩
noncomputable def ob_178 (P : PySem.Params) : Obj := ⟨(.type "code"), none, (.fields #[(.str (Str.ofString "out") 396), (.str (Str.ofString "Flight.out") 397), (.str (Str.ofString "/claim/cut.py") 398), (.int 55 0), (.int 1 0), (.int 0 0), (.int 0 0), (.int 3 0), (.ref 173), (.bool true), (.int 181 0), (.ref 174), .none, (.ref 175), (.ref 176), (.ref 177), (.int 400 0), (.int 55 0), (.str (Str.ofString "/claim/cut.py") 401)]), #[]⟩
noncomputable def ob_179 (P : PySem.Params) : Obj := ⟨(.type "function"), none, .func fd_out, #[]⟩
noncomputable def ob_185 (P : PySem.Params) : Obj := ⟨(.type "code"), none, (.fields #[(.str (Str.ofString "side") 403), (.str (Str.ofString "Flight.side") 404), (.str (Str.ofString "/claim/cut.py") 405), (.int 58 0), (.int 2 0), (.int 0 0), (.int 0 0), (.int 3 0), (.ref 180), (.bool true), (.int 181 0), (.ref 181), .none, (.ref 182), (.ref 183), (.ref 184), (.int 408 0), (.int 58 0), (.str (Str.ofString "/claim/cut.py") 409)]), #[]⟩
noncomputable def ob_186 (P : PySem.Params) : Obj := ⟨(.type "function"), none, .func fd_side, #[]⟩
noncomputable def ob_192 (P : PySem.Params) : Obj := ⟨(.type "code"), none, (.fields #[(.str (Str.ofString "place") 411), (.str (Str.ofString "Flight.place") 412), (.str (Str.ofString "/claim/cut.py") 413), (.int 63 0), (.int 2 0), (.int 0 0), (.int 0 0), (.int 3 0), (.ref 187), (.bool true), (.int 181 0), (.ref 188), .none, (.ref 189), (.ref 190), (.ref 191), (.int 416 0), (.int 63 0), (.str (Str.ofString "/claim/cut.py") 417)]), #[]⟩
noncomputable def ob_193 (P : PySem.Params) : Obj := ⟨(.type "function"), none, .func fd_place, #[]⟩
noncomputable def ob_199 (P : PySem.Params) : Obj := ⟨(.type "code"), none, (.fields #[(.str (Str.ofString "come") 419), (.str (Str.ofString "Flight.come") 420), (.str (Str.ofString "/claim/cut.py") 421), (.int 72 0), (.int 2 0), (.int 0 0), (.int 0 0), (.int 3 0), (.ref 194), (.bool true), (.int 181 0), (.ref 195), .none, (.ref 196), (.ref 197), (.ref 198), (.int 425 0), (.int 72 0), (.str (Str.ofString "/claim/cut.py") 426)]), #[]⟩
noncomputable def ob_200 (P : PySem.Params) : Obj := ⟨(.type "function"), none, .func fd_come, #[]⟩
noncomputable def ob_206 (P : PySem.Params) : Obj := ⟨(.type "code"), none, (.fields #[(.str (Str.ofString "let") 428), (.str (Str.ofString "Flight.let") 429), (.str (Str.ofString "/claim/cut.py") 430), (.int 78 0), (.int 2 0), (.int 0 0), (.int 0 0), (.int 3 0), (.ref 201), (.bool true), (.int 181 0), (.ref 202), .none, (.ref 203), (.ref 204), (.ref 205), (.int 433 0), (.int 78 0), (.str (Str.ofString "/claim/cut.py") 434)]), #[]⟩
noncomputable def ob_207 (P : PySem.Params) : Obj := ⟨(.type "function"), none, .func fd_let, #[]⟩
noncomputable def ob_213 (P : PySem.Params) : Obj := ⟨(.type "code"), none, (.fields #[(.str (Str.ofString "sail") 436), (.str (Str.ofString "Flight.sail") 437), (.str (Str.ofString "/claim/cut.py") 438), (.int 89 0), (.int 2 0), (.int 0 0), (.int 0 0), (.int 3 0), (.ref 208), (.bool true), (.int 181 0), (.ref 209), .none, (.ref 210), (.ref 211), (.ref 212), (.int 444 0), (.int 89 0), (.str (Str.ofString "/claim/cut.py") 445)]), #[]⟩
noncomputable def ob_214 (P : PySem.Params) : Obj := ⟨(.type "function"), none, .func fd_sail, #[]⟩
noncomputable def ob_220 (P : PySem.Params) : Obj := ⟨(.type "code"), none, (.fields #[(.str (Str.ofString "summit") 447), (.str (Str.ofString "Flight.summit") 448), (.str (Str.ofString "/claim/cut.py") 449), (.int 103 0), (.int 1 0), (.int 0 0), (.int 0 0), (.int 3 0), (.ref 215), (.bool true), (.int 181 0), (.ref 216), .none, (.ref 217), (.ref 218), (.ref 219), (.int 451 0), (.int 103 0), (.str (Str.ofString "/claim/cut.py") 452)]), #[]⟩
noncomputable def ob_221 (P : PySem.Params) : Obj := ⟨(.type "function"), none, .func fd_summit, #[]⟩
noncomputable def ob_227 (P : PySem.Params) : Obj := ⟨(.type "code"), none, (.fields #[(.str (Str.ofString "is_chamber") 454), (.str (Str.ofString "Flight.is_chamber") 455), (.str (Str.ofString "/claim/cut.py") 456), (.int 106 0), (.int 2 0), (.int 0 0), (.int 0 0), (.int 3 0), (.ref 222), (.bool true), (.int 181 0), (.ref 223), .none, (.ref 224), (.ref 225), (.ref 226), (.int 459 0), (.int 106 0), (.str (Str.ofString "/claim/cut.py") 460)]), #[]⟩
noncomputable def ob_228 (P : PySem.Params) : Obj := ⟨(.type "function"), none, .func fd_is_chamber, #[]⟩
noncomputable def ob_234 (P : PySem.Params) : Obj := ⟨(.type "code"), none, (.fields #[(.str (Str.ofString "can_give") 462), (.str (Str.ofString "Flight.can_give") 463), (.str (Str.ofString "/claim/cut.py") 464), (.int 109 0), (.int 2 0), (.int 0 0), (.int 0 0), (.int 3 0), (.ref 229), (.bool true), (.int 181 0), (.ref 230), .none, (.ref 231), (.ref 232), (.ref 233), (.int 467 0), (.int 109 0), (.str (Str.ofString "/claim/cut.py") 468)]), #[]⟩
noncomputable def ob_235 (P : PySem.Params) : Obj := ⟨(.type "function"), none, .func fd_can_give, #[]⟩
noncomputable def ob_241 (P : PySem.Params) : Obj := ⟨(.type "code"), none, (.fields #[(.str (Str.ofString "can_take") 470), (.str (Str.ofString "Flight.can_take") 471), (.str (Str.ofString "/claim/cut.py") 472), (.int 112 0), (.int 2 0), (.int 0 0), (.int 0 0), (.int 3 0), (.ref 236), (.bool true), (.int 181 0), (.ref 237), .none, (.ref 238), (.ref 239), (.ref 240), (.int 475 0), (.int 112 0), (.str (Str.ofString "/claim/cut.py") 476)]), #[]⟩
noncomputable def ob_242 (P : PySem.Params) : Obj := ⟨(.type "function"), none, .func fd_can_take, #[]⟩
noncomputable def ob_248 (P : PySem.Params) : Obj := ⟨(.type "code"), none, (.fields #[(.str (Str.ofString "is_level") 478), (.str (Str.ofString "Flight.is_level") 479), (.str (Str.ofString "/claim/cut.py") 480), (.int 115 0), (.int 2 0), (.int 0 0), (.int 0 0), (.int 3 0), (.ref 243), (.bool true), (.int 181 0), (.ref 244), .none, (.ref 245), (.ref 246), (.ref 247), (.int 483 0), (.int 115 0), (.str (Str.ofString "/claim/cut.py") 484)]), #[]⟩
noncomputable def ob_249 (P : PySem.Params) : Obj := ⟨(.type "function"), none, .func fd_is_level, #[]⟩
noncomputable def ob_255 (P : PySem.Params) : Obj := ⟨(.type "code"), none, (.fields #[(.str (Str.ofString "give") 486), (.str (Str.ofString "Flight.give") 487), (.str (Str.ofString "/claim/cut.py") 488), (.int 118 0), (.int 2 0), (.int 0 0), (.int 0 0), (.int 3 0), (.ref 250), (.bool true), (.int 181 0), (.ref 251), .none, (.ref 252), (.ref 253), (.ref 254), (.int 491 0), (.int 118 0), (.str (Str.ofString "/claim/cut.py") 492)]), #[]⟩
noncomputable def ob_256 (P : PySem.Params) : Obj := ⟨(.type "function"), none, .func fd_give, #[]⟩
noncomputable def ob_262 (P : PySem.Params) : Obj := ⟨(.type "code"), none, (.fields #[(.str (Str.ofString "take") 494), (.str (Str.ofString "Flight.take") 495), (.str (Str.ofString "/claim/cut.py") 496), (.int 124 0), (.int 2 0), (.int 0 0), (.int 0 0), (.int 3 0), (.ref 257), (.bool true), (.int 181 0), (.ref 258), .none, (.ref 259), (.ref 260), (.ref 261), (.int 499 0), (.int 124 0), (.str (Str.ofString "/claim/cut.py") 500)]), #[]⟩
noncomputable def ob_263 (P : PySem.Params) : Obj := ⟨(.type "function"), none, .func fd_take, #[]⟩
noncomputable def ob_269 (P : PySem.Params) : Obj := ⟨(.type "code"), none, (.fields #[(.str (Str.ofString "leave") 502), (.str (Str.ofString "Flight.leave") 503), (.str (Str.ofString "/claim/cut.py") 504), (.int 130 0), (.int 3 0), (.int 0 0), (.int 0 0), (.int 3 0), (.ref 264), (.bool true), (.int 181 0), (.ref 265), .none, (.ref 266), (.ref 267), (.ref 268), (.int 508 0), (.int 130 0), (.str (Str.ofString "/claim/cut.py") 509)]), #[]⟩
noncomputable def ob_270 (P : PySem.Params) : Obj := ⟨(.type "function"), none, .func fd_leave, #[]⟩
noncomputable def ob_276 (P : PySem.Params) : Obj := ⟨(.type "code"), none, (.fields #[(.str (Str.ofString "enter") 511), (.str (Str.ofString "Flight.enter") 512), (.str (Str.ofString "/claim/cut.py") 513), (.int 136 0), (.int 3 0), (.int 0 0), (.int 0 0), (.int 3 0), (.ref 271), (.bool true), (.int 181 0), (.ref 272), .none, (.ref 273), (.ref 274), (.ref 275), (.int 517 0), (.int 136 0), (.str (Str.ofString "/claim/cut.py") 518)]), #[]⟩
noncomputable def ob_277 (P : PySem.Params) : Obj := ⟨(.type "function"), none, .func fd_enter, #[]⟩
noncomputable def ob_279 (P : PySem.Params) : Obj := ⟨(.type "dict"), none, (.dict #[⟨(PyData.keyHash P (Str.ofString "__module__")), (.str (Str.ofString "__module__") 347), (.str (Str.ofString "lockflight.flight") 336)⟩, ⟨(PyData.keyHash P (Str.ofString "__firstlineno__")), (.str (Str.ofString "__firstlineno__") 351), (.int 27 350)⟩, ⟨(PyData.keyHash P (Str.ofString "__init__")), (.str (Str.ofString "__init__") 359), (.ref 137)⟩, ⟨(PyData.keyHash P (Str.ofString "levels")), (.str (Str.ofString "levels") 366), (.ref 144)⟩, ⟨(PyData.keyHash P (Str.ofString "boats")), (.str (Str.ofString "boats") 373), (.ref 151)⟩, ⟨(PyData.keyHash P (Str.ofString "waiting")), (.str (Str.ofString "waiting") 381), (.ref 158)⟩, ⟨(PyData.keyHash P (Str.ofString "through")), (.str (Str.ofString "through") 388), (.ref 165)⟩, ⟨(PyData.keyHash P (Str.ofString "drawn")), (.str (Str.ofString "drawn") 395), (.ref 172)⟩, ⟨(PyData.keyHash P (Str.ofString "out")), (.str (Str.ofString "out") 402), (.ref 179)⟩, ⟨(PyData.keyHash P (Str.ofString "side")), (.str (Str.ofString "side") 410), (.ref 186)⟩, ⟨(PyData.keyHash P (Str.ofString "place")), (.str (Str.ofString "place") 418), (.ref 193)⟩, ⟨(PyData.keyHash P (Str.ofString "come")), (.str (Str.ofString "come") 427), (.ref 200)⟩, ⟨(PyData.keyHash P (Str.ofString "let")), (.str (Str.ofString "let") 435), (.ref 207)⟩, ⟨(PyData.keyHash P (Str.ofString "sail")), (.str (Str.ofString "sail") 446), (.ref 214)⟩, ⟨(PyData.keyHash P (Str.ofString "summit")), (.str (Str.ofString "summit") 453), (.ref 221)⟩, ⟨(PyData.keyHash P (Str.ofString "is_chamber")), (.str (Str.ofString "is_chamber") 461), (.ref 228)⟩, ⟨(PyData.keyHash P (Str.ofString "can_give")), (.str (Str.ofString "can_give") 469), (.ref 235)⟩, ⟨(PyData.keyHash P (Str.ofString "can_take")), (.str (Str.ofString "can_take") 477), (.ref 242)⟩, ⟨(PyData.keyHash P (Str.ofString "is_level")), (.str (Str.ofString "is_level") 485), (.ref 249)⟩, ⟨(PyData.keyHash P (Str.ofString "give")), (.str (Str.ofString "give") 493), (.ref 256)⟩, ⟨(PyData.keyHash P (Str.ofString "take")), (.str (Str.ofString "take") 501), (.ref 263)⟩, ⟨(PyData.keyHash P (Str.ofString "leave")), (.str (Str.ofString "leave") 510), (.ref 270)⟩, ⟨(PyData.keyHash P (Str.ofString "enter")), (.str (Str.ofString "enter") 519), (.ref 277)⟩, ⟨(PyData.keyHash P (Str.ofString "__static_attributes__")), (.str (Str.ofString "__static_attributes__") 527), (.ref 278)⟩, ⟨(PyData.keyHash P (Str.ofString "__dict__")), (.str (Str.ofString "__dict__") 529), (.ref 281)⟩, ⟨(PyData.keyHash P (Str.ofString "__weakref__")), (.str (Str.ofString "__weakref__") 531), (.ref 282)⟩, ⟨(PyData.keyHash P (Str.ofString "__doc__")), (.str (Str.ofString "__doc__") 532), .none⟩] 4), #[]⟩
noncomputable def ob_280 (P : PySem.Params) : Obj := ⟨(.type "type"), none, (.cls ⟨(Str.ofString "Flight"), [(.type "object")], [(.ref 280), (.type "object")], 279, (Str.ofString "Flight"), true, [], [], false, none, false⟩), #[none, none, (some (.str (Str.ofString "Flight") 340)), (some (.str (Str.ofString "Flight") 348)), (some (.builtin "object.__new__")), (some (.bool true))]⟩
noncomputable def ob_290 (P : PySem.Params) : Obj := ⟨(.type "code"), none, (.fields #[(.str (Str.ofString "_law_cell_at") 537), (.str (Str.ofString "_law_cell_at") 538), (.str (Str.ofString "/claim/cut.py") 539), (.int 142 0), (.int 2 0), (.int 0 0), (.int 0 0), (.int 3 0), (.ref 285), (.bool true), (.int 181 0), (.ref 286), .none, (.ref 287), (.ref 288), (.ref 289), (.int 542 0), (.int 142 0), (.str (Str.ofString "/claim/cut.py") 543)]), #[]⟩
noncomputable def ob_291 (P : PySem.Params) : Obj := ⟨(.type "function"), none, .func fd_l_cell_at, #[]⟩
noncomputable def ob_297 (P : PySem.Params) : Obj := ⟨(.type "code"), none, (.fields #[(.str (Str.ofString "_law_whole") 545), (.str (Str.ofString "_law_whole") 546), (.str (Str.ofString "/claim/cut.py") 547), (.int 146 0), (.int 1 0), (.int 0 0), (.int 0 0), (.int 3 0), (.ref 292), (.bool true), (.int 181 0), (.ref 293), .none, (.ref 294), (.ref 295), (.ref 296), (.int 549 0), (.int 146 0), (.str (Str.ofString "/claim/cut.py") 550)]), #[]⟩
noncomputable def ob_298 (P : PySem.Params) : Obj := ⟨(.type "function"), none, .func fd_l_whole, #[]⟩
noncomputable def ob_302 (P : PySem.Params) : Obj := ⟨(.type "code"), none, (.fields #[(.str (Str.ofString "_law_bools") 552), (.str (Str.ofString "_law_bools") 553), (.str (Str.ofString "/claim/cut.py") 554), (.int 148 0), (.int 2 0), (.int 0 0), (.int 0 0), (.int 3 0), (.ref 299), (.bool true), (.int 181 0), (.ref 300), .none, .none, .none, (.ref 301), (.int 555 0), (.int 148 0), (.str (Str.ofString "/claim/cut.py") 556)]), #[]⟩
noncomputable def ob_303 (P : PySem.Params) : Obj := ⟨(.type "function"), none, .func fd_l_bools, #[]⟩
noncomputable def ob_307 (P : PySem.Params) : Obj := ⟨(.type "code"), none, (.fields #[(.str (Str.ofString "_law_numbers") 558), (.str (Str.ofString "_law_numbers") 559), (.str (Str.ofString "/claim/cut.py") 560), (.int 152 0), (.int 2 0), (.int 0 0), (.int 0 0), (.int 3 0), (.ref 304), (.bool true), (.int 181 0), (.ref 305), .none, .none, .none, (.ref 306), (.int 561 0), (.int 152 0), (.str (Str.ofString "/claim/cut.py") 562)]), #[]⟩
noncomputable def ob_308 (P : PySem.Params) : Obj := ⟨(.type "function"), none, .func fd_l_numbers, #[]⟩
noncomputable def ob_312 (P : PySem.Params) : Obj := ⟨(.type "code"), none, (.fields #[(.str (Str.ofString "_law_stands") 564), (.str (Str.ofString "_law_stands") 565), (.str (Str.ofString "/claim/cut.py") 566), (.int 156 0), (.int 2 0), (.int 0 0), (.int 0 0), (.int 3 0), (.ref 309), (.bool true), (.int 181 0), (.ref 310), .none, .none, .none, (.ref 311), (.int 567 0), (.int 156 0), (.str (Str.ofString "/claim/cut.py") 568)]), #[]⟩
noncomputable def ob_313 (P : PySem.Params) : Obj := ⟨(.type "function"), none, .func fd_l_stands, #[]⟩
noncomputable def ob_317 (P : PySem.Params) : Obj := ⟨(.type "code"), none, (.fields #[(.str (Str.ofString "_law_levels") 570), (.str (Str.ofString "_law_levels") 571), (.str (Str.ofString "/claim/cut.py") 572), (.int 172 0), (.int 2 0), (.int 0 0), (.int 0 0), (.int 3 0), (.ref 314), (.bool true), (.int 181 0), (.ref 315), .none, .none, .none, (.ref 316), (.int 573 0), (.int 172 0), (.str (Str.ofString "/claim/cut.py") 574)]), #[]⟩
noncomputable def ob_318 (P : PySem.Params) : Obj := ⟨(.type "function"), none, .func fd_l_levels, #[]⟩
noncomputable def ob_324 (P : PySem.Params) : Obj := ⟨(.type "code"), none, (.fields #[(.str (Str.ofString "_law_new") 576), (.str (Str.ofString "_law_new") 577), (.str (Str.ofString "/claim/cut.py") 578), (.int 178 0), (.int 1 0), (.int 0 0), (.int 0 0), (.int 3 0), (.ref 319), (.bool true), (.int 181 0), (.ref 320), .none, (.ref 321), (.ref 322), (.ref 323), (.int 580 0), (.int 178 0), (.str (Str.ofString "/claim/cut.py") 581)]), #[]⟩
noncomputable def ob_325 (P : PySem.Params) : Obj := ⟨(.type "function"), none, .func fd_l_new, #[]⟩
noncomputable def ob_331 (P : PySem.Params) : Obj := ⟨(.type "code"), none, (.fields #[(.str (Str.ofString "_law_let_word") 583), (.str (Str.ofString "_law_let_word") 584), (.str (Str.ofString "/claim/cut.py") 585), (.int 180 0), (.int 2 0), (.int 0 0), (.int 0 0), (.int 3 0), (.ref 326), (.bool true), (.int 181 0), (.ref 327), .none, (.ref 328), (.ref 329), (.ref 330), (.int 590 0), (.int 180 0), (.str (Str.ofString "/claim/cut.py") 591)]), #[]⟩
noncomputable def ob_332 (P : PySem.Params) : Obj := ⟨(.type "function"), none, .func fd_l_let_word, #[]⟩
noncomputable def ob_338 (P : PySem.Params) : Obj := ⟨(.type "code"), none, (.fields #[(.str (Str.ofString "_law_let") 593), (.str (Str.ofString "_law_let") 594), (.str (Str.ofString "/claim/cut.py") 595), (.int 188 0), (.int 2 0), (.int 0 0), (.int 0 0), (.int 3 0), (.ref 333), (.bool true), (.int 181 0), (.ref 334), .none, (.ref 335), (.ref 336), (.ref 337), (.int 599 0), (.int 188 0), (.str (Str.ofString "/claim/cut.py") 600)]), #[]⟩
noncomputable def ob_339 (P : PySem.Params) : Obj := ⟨(.type "function"), none, .func fd_l_let, #[]⟩
noncomputable def ob_345 (P : PySem.Params) : Obj := ⟨(.type "code"), none, (.fields #[(.str (Str.ofString "_law_then") 602), (.str (Str.ofString "_law_then") 603), (.str (Str.ofString "/claim/cut.py") 604), (.int 196 0), (.int 2 0), (.int 0 0), (.int 0 0), (.int 3 0), (.ref 340), (.bool true), (.int 181 0), (.ref 341), .none, (.ref 342), (.ref 343), (.ref 344), (.int 607 0), (.int 196 0), (.str (Str.ofString "/claim/cut.py") 608)]), #[]⟩
noncomputable def ob_346 (P : PySem.Params) : Obj := ⟨(.type "function"), none, .func fd_l_then, #[]⟩
noncomputable def ob_350 (P : PySem.Params) : Obj := ⟨(.type "code"), none, (.fields #[(.str (Str.ofString "_law_sail_word") 610), (.str (Str.ofString "_law_sail_word") 611), (.str (Str.ofString "/claim/cut.py") 612), (.int 198 0), (.int 2 0), (.int 0 0), (.int 0 0), (.int 3 0), (.ref 347), (.bool true), (.int 181 0), (.ref 348), .none, .none, .none, (.ref 349), (.int 613 0), (.int 198 0), (.str (Str.ofString "/claim/cut.py") 614)]), #[]⟩
noncomputable def ob_351 (P : PySem.Params) : Obj := ⟨(.type "function"), none, .func fd_l_sail_word, #[]⟩
noncomputable def ob_357 (P : PySem.Params) : Obj := ⟨(.type "code"), none, (.fields #[(.str (Str.ofString "_law_sail") 616), (.str (Str.ofString "_law_sail") 617), (.str (Str.ofString "/claim/cut.py") 618), (.int 216 0), (.int 2 0), (.int 0 0), (.int 0 0), (.int 3 0), (.ref 352), (.bool true), (.int 181 0), (.ref 353), .none, (.ref 354), (.ref 355), (.ref 356), (.int 622 0), (.int 216 0), (.str (Str.ofString "/claim/cut.py") 623)]), #[]⟩
noncomputable def ob_358 (P : PySem.Params) : Obj := ⟨(.type "function"), none, .func fd_l_sail, #[]⟩
noncomputable def ob_364 (P : PySem.Params) : Obj := ⟨(.type "code"), none, (.fields #[(.str (Str.ofString "_law_come") 625), (.str (Str.ofString "_law_come") 626), (.str (Str.ofString "/claim/cut.py") 627), (.int 223 0), (.int 2 0), (.int 0 0), (.int 0 0), (.int 3 0), (.ref 359), (.bool true), (.int 181 0), (.ref 360), .none, (.ref 361), (.ref 362), (.ref 363), (.int 631 0), (.int 223 0), (.str (Str.ofString "/claim/cut.py") 632)]), #[]⟩
noncomputable def ob_365 (P : PySem.Params) : Obj := ⟨(.type "function"), none, .func fd_l_come, #[]⟩
noncomputable def ob_369 (P : PySem.Params) : Obj := ⟨(.type "code"), none, (.fields #[(.str (Str.ofString "_law_lets") 634), (.str (Str.ofString "_law_lets") 635), (.str (Str.ofString "/claim/cut.py") 636), (.int 228 0), (.int 1 0), (.int 0 0), (.int 0 0), (.int 3 0), (.ref 366), (.bool true), (.int 181 0), (.ref 367), .none, .none, .none, (.ref 368), (.int 637 0), (.int 228 0), (.str (Str.ofString "/claim/cut.py") 638)]), #[]⟩
noncomputable def ob_370 (P : PySem.Params) : Obj := ⟨(.type "function"), none, .func fd_l_lets, #[]⟩
noncomputable def ob_374 (P : PySem.Params) : Obj := ⟨(.type "code"), none, (.fields #[(.str (Str.ofString "_law_sails") 640), (.str (Str.ofString "_law_sails") 641), (.str (Str.ofString "/claim/cut.py") 642), (.int 230 0), (.int 1 0), (.int 0 0), (.int 0 0), (.int 3 0), (.ref 371), (.bool true), (.int 181 0), (.ref 372), .none, .none, .none, (.ref 373), (.int 643 0), (.int 230 0), (.str (Str.ofString "/claim/cut.py") 644)]), #[]⟩
noncomputable def ob_375 (P : PySem.Params) : Obj := ⟨(.type "function"), none, .func fd_l_sails, #[]⟩
noncomputable def ob_381 (P : PySem.Params) : Obj := ⟨(.type "code"), none, (.fields #[(.str (Str.ofString "_law_step") 646), (.str (Str.ofString "_law_step") 647), (.str (Str.ofString "/claim/cut.py") 648), (.int 232 0), (.int 3 0), (.int 0 0), (.int 0 0), (.int 3 0), (.ref 376), (.bool true), (.int 181 0), (.ref 377), .none, (.ref 378), (.ref 379), (.ref 380), (.int 658 0), (.int 232 0), (.str (Str.ofString "/claim/cut.py") 659)]), #[]⟩
noncomputable def ob_382 (P : PySem.Params) : Obj := ⟨(.type "function"), none, .func fd_l_step, #[]⟩
noncomputable def ob_388 (P : PySem.Params) : Obj := ⟨(.type "code"), none, (.fields #[(.str (Str.ofString "_law_text") 661), (.str (Str.ofString "_law_text") 662), (.str (Str.ofString "/claim/cut.py") 663), (.int 249 0), (.int 1 0), (.int 0 0), (.int 0 0), (.int 3 0), (.ref 383), (.bool true), (.int 181 0), (.ref 384), .none, (.ref 385), (.ref 386), (.ref 387), (.int 669 0), (.int 249 0), (.str (Str.ofString "/claim/cut.py") 670)]), #[]⟩
noncomputable def ob_389 (P : PySem.Params) : Obj := ⟨(.type "function"), none, .func fd_l_text, #[]⟩
noncomputable def ob_395 (P : PySem.Params) : Obj := ⟨(.type "code"), none, (.fields #[(.str (Str.ofString "law") 672), (.str (Str.ofString "law") 673), (.str (Str.ofString "/claim/cut.py") 674), (.int 258 0), (.int 1 0), (.int 0 0), (.int 0 0), (.int 3 0), (.ref 390), (.bool true), (.int 181 0), (.ref 391), .none, (.ref 392), (.ref 393), (.ref 394), (.int 681 0), (.int 258 0), (.str (Str.ofString "/claim/cut.py") 682)]), #[]⟩
noncomputable def ob_396 (P : PySem.Params) : Obj := ⟨(.type "function"), none, .func fd_law, #[]⟩
noncomputable def KK0 (P : PySem.Params) : PySem.W.Frag := [(3, ob_3 P), (23, ob_23 P), (24, ob_24 P), (36, ob_36 P), (37, ob_37 P), (48, ob_48 P), (49, ob_49 P), (60, ob_60 P), (61, ob_61 P), (72, ob_72 P)]
noncomputable def KK1 (P : PySem.Params) : PySem.W.Frag := [(73, ob_73 P), (84, ob_84 P), (85, ob_85 P), (96, ob_96 P), (97, ob_97 P), (108, ob_108 P), (109, ob_109 P), (115, ob_115 P), (116, ob_116 P), (122, ob_122 P)]
noncomputable def KK2 (P : PySem.Params) : PySem.W.Frag := [(123, ob_123 P), (136, ob_136 P), (137, ob_137 P), (143, ob_143 P), (144, ob_144 P), (150, ob_150 P), (151, ob_151 P), (157, ob_157 P), (158, ob_158 P), (164, ob_164 P)]
noncomputable def KK3 (P : PySem.Params) : PySem.W.Frag := [(165, ob_165 P), (171, ob_171 P), (172, ob_172 P), (178, ob_178 P), (179, ob_179 P), (185, ob_185 P), (186, ob_186 P), (192, ob_192 P), (193, ob_193 P), (199, ob_199 P)]
noncomputable def KK4 (P : PySem.Params) : PySem.W.Frag := [(200, ob_200 P), (206, ob_206 P), (207, ob_207 P), (213, ob_213 P), (214, ob_214 P), (220, ob_220 P), (221, ob_221 P), (227, ob_227 P), (228, ob_228 P), (234, ob_234 P)]
noncomputable def KK5 (P : PySem.Params) : PySem.W.Frag := [(235, ob_235 P), (241, ob_241 P), (242, ob_242 P), (248, ob_248 P), (249, ob_249 P), (255, ob_255 P), (256, ob_256 P), (262, ob_262 P), (263, ob_263 P), (269, ob_269 P)]
noncomputable def KK6 (P : PySem.Params) : PySem.W.Frag := [(270, ob_270 P), (276, ob_276 P), (277, ob_277 P), (279, ob_279 P), (280, ob_280 P), (290, ob_290 P), (291, ob_291 P), (297, ob_297 P), (298, ob_298 P), (302, ob_302 P)]
noncomputable def KK7 (P : PySem.Params) : PySem.W.Frag := [(303, ob_303 P), (307, ob_307 P), (308, ob_308 P), (312, ob_312 P), (313, ob_313 P), (317, ob_317 P), (318, ob_318 P), (324, ob_324 P), (325, ob_325 P), (331, ob_331 P)]
noncomputable def KK8 (P : PySem.Params) : PySem.W.Frag := [(332, ob_332 P), (338, ob_338 P), (339, ob_339 P), (345, ob_345 P), (346, ob_346 P), (350, ob_350 P), (351, ob_351 P), (357, ob_357 P), (358, ob_358 P), (364, ob_364 P)]
noncomputable def KK9 (P : PySem.Params) : PySem.W.Frag := [(365, ob_365 P), (369, ob_369 P), (370, ob_370 P), (374, ob_374 P), (375, ob_375 P), (381, ob_381 P), (382, ob_382 P), (388, ob_388 P), (389, ob_389 P), (395, ob_395 P)]
noncomputable def KK10 (P : PySem.Params) : PySem.W.Frag := [(396, ob_396 P)]
noncomputable def KK (P : PySem.Params) : PySem.W.Frag := KK0 P ++ KK1 P ++ KK2 P ++ KK3 P ++ KK4 P ++ KK5 P ++ KK6 P ++ KK7 P ++ KK8 P ++ KK9 P ++ KK10 P
def asK : List Nat := [3, 23, 24, 36, 37, 48, 49, 60, 61, 72, 73, 84, 85, 96, 97, 108, 109, 115, 116, 122, 123, 136, 137, 143, 144, 150, 151, 157, 158, 164, 165, 171, 172, 178, 179, 185, 186, 192, 193, 199, 200, 206, 207, 213, 214, 220, 221, 227, 228, 234, 235, 241, 242, 248, 249, 255, 256, 262, 263, 269, 270, 276, 277, 279, 280, 290, 291, 297, 298, 302, 303, 307, 308, 312, 313, 317, 318, 324, 325, 331, 332, 338, 339, 345, 346, 350, 351, 357, 358, 364, 365, 369, 370, 374, 375, 381, 382, 388, 389, 395, 396]
def adK : Adr := ⟨280, 37, 49, 61, 73, 85, 97, 109, 280, 338, 116, fd_drawing, 123, fd_chamber_line, 137, fd_init, 144, fd_levels, 151, fd_boats, 158, fd_waiting, 165, fd_through, 172, fd_drawn, 179, fd_out, 186, fd_side, 193, fd_place, 200, fd_come, 207, fd_let, 214, fd_sail, 221, fd_summit, 228, fd_is_chamber, 235, fd_can_give, 242, fd_can_take, 249, fd_is_level, 256, fd_give, 263, fd_take, 270, fd_leave, 277, fd_enter, 291, fd_l_cell_at, 298, fd_l_whole, 303, fd_l_bools, 308, fd_l_numbers, 313, fd_l_stands, 318, fd_l_levels, 325, fd_l_new, 332, fd_l_let_word, 339, fd_l_let, 346, fd_l_then, 351, fd_l_sail_word, 358, fd_l_sail, 365, fd_l_come, 370, fd_l_lets, 375, fd_l_sails, 382, fd_l_step, 389, fd_l_text, 396, fd_law⟩
set_option maxHeartbeats 8000000 in
theorem txK {w : World} {h : Heap} {mg : Str → Option Value} (X : (KK w.params).In h) (G : h.Ns mainGlobals mg) : Txt w (KK w.params) mg adK := by
  have F_drawing : Fun (KK w.params) "drawing" "drawing" s_drawing 116 fd_drawing := fun_mk (st := s_drawing) (by kernel_rfl : (KK w.params).lookup 116 = some ⟨(.type "function"), none, .func fd_drawing, #[]⟩) (by kernel_rfl) (by kernel_rfl)
  have F_chamber_line : Fun (KK w.params) "chamber_line" "chamber_line" s_chamber_line 123 fd_chamber_line := fun_mk (st := s_chamber_line) (by kernel_rfl : (KK w.params).lookup 123 = some ⟨(.type "function"), none, .func fd_chamber_line, #[]⟩) (by kernel_rfl) (by kernel_rfl)
  have F_init : Fun (KK w.params) "__init__" "Flight.__init__" s_init 137 fd_init := fun_mk (st := s_init) (by kernel_rfl : (KK w.params).lookup 137 = some ⟨(.type "function"), none, .func fd_init, #[]⟩) (by kernel_rfl) (by kernel_rfl)
  have F_levels : Fun (KK w.params) "levels" "Flight.levels" s_levels 144 fd_levels := fun_mk (st := s_levels) (by kernel_rfl : (KK w.params).lookup 144 = some ⟨(.type "function"), none, .func fd_levels, #[]⟩) (by kernel_rfl) (by kernel_rfl)
  have F_boats : Fun (KK w.params) "boats" "Flight.boats" s_boats 151 fd_boats := fun_mk (st := s_boats) (by kernel_rfl : (KK w.params).lookup 151 = some ⟨(.type "function"), none, .func fd_boats, #[]⟩) (by kernel_rfl) (by kernel_rfl)
  have F_waiting : Fun (KK w.params) "waiting" "Flight.waiting" s_waiting 158 fd_waiting := fun_mk (st := s_waiting) (by kernel_rfl : (KK w.params).lookup 158 = some ⟨(.type "function"), none, .func fd_waiting, #[]⟩) (by kernel_rfl) (by kernel_rfl)
  have F_through : Fun (KK w.params) "through" "Flight.through" s_through 165 fd_through := fun_mk (st := s_through) (by kernel_rfl : (KK w.params).lookup 165 = some ⟨(.type "function"), none, .func fd_through, #[]⟩) (by kernel_rfl) (by kernel_rfl)
  have F_drawn : Fun (KK w.params) "drawn" "Flight.drawn" s_drawn 172 fd_drawn := fun_mk (st := s_drawn) (by kernel_rfl : (KK w.params).lookup 172 = some ⟨(.type "function"), none, .func fd_drawn, #[]⟩) (by kernel_rfl) (by kernel_rfl)
  have F_out : Fun (KK w.params) "out" "Flight.out" s_out 179 fd_out := fun_mk (st := s_out) (by kernel_rfl : (KK w.params).lookup 179 = some ⟨(.type "function"), none, .func fd_out, #[]⟩) (by kernel_rfl) (by kernel_rfl)
  have F_side : Fun (KK w.params) "side" "Flight.side" s_side 186 fd_side := fun_mk (st := s_side) (by kernel_rfl : (KK w.params).lookup 186 = some ⟨(.type "function"), none, .func fd_side, #[]⟩) (by kernel_rfl) (by kernel_rfl)
  have F_place : Fun (KK w.params) "place" "Flight.place" s_place 193 fd_place := fun_mk (st := s_place) (by kernel_rfl : (KK w.params).lookup 193 = some ⟨(.type "function"), none, .func fd_place, #[]⟩) (by kernel_rfl) (by kernel_rfl)
  have F_come : Fun (KK w.params) "come" "Flight.come" s_come 200 fd_come := fun_mk (st := s_come) (by kernel_rfl : (KK w.params).lookup 200 = some ⟨(.type "function"), none, .func fd_come, #[]⟩) (by kernel_rfl) (by kernel_rfl)
  have F_let : Fun (KK w.params) "let" "Flight.let" s_let 207 fd_let := fun_mk (st := s_let) (by kernel_rfl : (KK w.params).lookup 207 = some ⟨(.type "function"), none, .func fd_let, #[]⟩) (by kernel_rfl) (by kernel_rfl)
  have F_sail : Fun (KK w.params) "sail" "Flight.sail" s_sail 214 fd_sail := fun_mk (st := s_sail) (by kernel_rfl : (KK w.params).lookup 214 = some ⟨(.type "function"), none, .func fd_sail, #[]⟩) (by kernel_rfl) (by kernel_rfl)
  have F_summit : Fun (KK w.params) "summit" "Flight.summit" s_summit 221 fd_summit := fun_mk (st := s_summit) (by kernel_rfl : (KK w.params).lookup 221 = some ⟨(.type "function"), none, .func fd_summit, #[]⟩) (by kernel_rfl) (by kernel_rfl)
  have F_is_chamber : Fun (KK w.params) "is_chamber" "Flight.is_chamber" s_is_chamber 228 fd_is_chamber := fun_mk (st := s_is_chamber) (by kernel_rfl : (KK w.params).lookup 228 = some ⟨(.type "function"), none, .func fd_is_chamber, #[]⟩) (by kernel_rfl) (by kernel_rfl)
  have F_can_give : Fun (KK w.params) "can_give" "Flight.can_give" s_can_give 235 fd_can_give := fun_mk (st := s_can_give) (by kernel_rfl : (KK w.params).lookup 235 = some ⟨(.type "function"), none, .func fd_can_give, #[]⟩) (by kernel_rfl) (by kernel_rfl)
  have F_can_take : Fun (KK w.params) "can_take" "Flight.can_take" s_can_take 242 fd_can_take := fun_mk (st := s_can_take) (by kernel_rfl : (KK w.params).lookup 242 = some ⟨(.type "function"), none, .func fd_can_take, #[]⟩) (by kernel_rfl) (by kernel_rfl)
  have F_is_level : Fun (KK w.params) "is_level" "Flight.is_level" s_is_level 249 fd_is_level := fun_mk (st := s_is_level) (by kernel_rfl : (KK w.params).lookup 249 = some ⟨(.type "function"), none, .func fd_is_level, #[]⟩) (by kernel_rfl) (by kernel_rfl)
  have F_give : Fun (KK w.params) "give" "Flight.give" s_give 256 fd_give := fun_mk (st := s_give) (by kernel_rfl : (KK w.params).lookup 256 = some ⟨(.type "function"), none, .func fd_give, #[]⟩) (by kernel_rfl) (by kernel_rfl)
  have F_take : Fun (KK w.params) "take" "Flight.take" s_take 263 fd_take := fun_mk (st := s_take) (by kernel_rfl : (KK w.params).lookup 263 = some ⟨(.type "function"), none, .func fd_take, #[]⟩) (by kernel_rfl) (by kernel_rfl)
  have F_leave : Fun (KK w.params) "leave" "Flight.leave" s_leave 270 fd_leave := fun_mk (st := s_leave) (by kernel_rfl : (KK w.params).lookup 270 = some ⟨(.type "function"), none, .func fd_leave, #[]⟩) (by kernel_rfl) (by kernel_rfl)
  have F_enter : Fun (KK w.params) "enter" "Flight.enter" s_enter 277 fd_enter := fun_mk (st := s_enter) (by kernel_rfl : (KK w.params).lookup 277 = some ⟨(.type "function"), none, .func fd_enter, #[]⟩) (by kernel_rfl) (by kernel_rfl)
  have F_l_cell_at : Fun (KK w.params) "_law_cell_at" "_law_cell_at" s_l_cell_at 291 fd_l_cell_at := fun_mk (st := s_l_cell_at) (by kernel_rfl : (KK w.params).lookup 291 = some ⟨(.type "function"), none, .func fd_l_cell_at, #[]⟩) (by kernel_rfl) (by kernel_rfl)
  have F_l_whole : Fun (KK w.params) "_law_whole" "_law_whole" s_l_whole 298 fd_l_whole := fun_mk (st := s_l_whole) (by kernel_rfl : (KK w.params).lookup 298 = some ⟨(.type "function"), none, .func fd_l_whole, #[]⟩) (by kernel_rfl) (by kernel_rfl)
  have F_l_bools : Fun (KK w.params) "_law_bools" "_law_bools" s_l_bools 303 fd_l_bools := fun_mk (st := s_l_bools) (by kernel_rfl : (KK w.params).lookup 303 = some ⟨(.type "function"), none, .func fd_l_bools, #[]⟩) (by kernel_rfl) (by kernel_rfl)
  have F_l_numbers : Fun (KK w.params) "_law_numbers" "_law_numbers" s_l_numbers 308 fd_l_numbers := fun_mk (st := s_l_numbers) (by kernel_rfl : (KK w.params).lookup 308 = some ⟨(.type "function"), none, .func fd_l_numbers, #[]⟩) (by kernel_rfl) (by kernel_rfl)
  have F_l_stands : Fun (KK w.params) "_law_stands" "_law_stands" s_l_stands 313 fd_l_stands := fun_mk (st := s_l_stands) (by kernel_rfl : (KK w.params).lookup 313 = some ⟨(.type "function"), none, .func fd_l_stands, #[]⟩) (by kernel_rfl) (by kernel_rfl)
  have F_l_levels : Fun (KK w.params) "_law_levels" "_law_levels" s_l_levels 318 fd_l_levels := fun_mk (st := s_l_levels) (by kernel_rfl : (KK w.params).lookup 318 = some ⟨(.type "function"), none, .func fd_l_levels, #[]⟩) (by kernel_rfl) (by kernel_rfl)
  have F_l_new : Fun (KK w.params) "_law_new" "_law_new" s_l_new 325 fd_l_new := fun_mk (st := s_l_new) (by kernel_rfl : (KK w.params).lookup 325 = some ⟨(.type "function"), none, .func fd_l_new, #[]⟩) (by kernel_rfl) (by kernel_rfl)
  have F_l_let_word : Fun (KK w.params) "_law_let_word" "_law_let_word" s_l_let_word 332 fd_l_let_word := fun_mk (st := s_l_let_word) (by kernel_rfl : (KK w.params).lookup 332 = some ⟨(.type "function"), none, .func fd_l_let_word, #[]⟩) (by kernel_rfl) (by kernel_rfl)
  have F_l_let : Fun (KK w.params) "_law_let" "_law_let" s_l_let 339 fd_l_let := fun_mk (st := s_l_let) (by kernel_rfl : (KK w.params).lookup 339 = some ⟨(.type "function"), none, .func fd_l_let, #[]⟩) (by kernel_rfl) (by kernel_rfl)
  have F_l_then : Fun (KK w.params) "_law_then" "_law_then" s_l_then 346 fd_l_then := fun_mk (st := s_l_then) (by kernel_rfl : (KK w.params).lookup 346 = some ⟨(.type "function"), none, .func fd_l_then, #[]⟩) (by kernel_rfl) (by kernel_rfl)
  have F_l_sail_word : Fun (KK w.params) "_law_sail_word" "_law_sail_word" s_l_sail_word 351 fd_l_sail_word := fun_mk (st := s_l_sail_word) (by kernel_rfl : (KK w.params).lookup 351 = some ⟨(.type "function"), none, .func fd_l_sail_word, #[]⟩) (by kernel_rfl) (by kernel_rfl)
  have F_l_sail : Fun (KK w.params) "_law_sail" "_law_sail" s_l_sail 358 fd_l_sail := fun_mk (st := s_l_sail) (by kernel_rfl : (KK w.params).lookup 358 = some ⟨(.type "function"), none, .func fd_l_sail, #[]⟩) (by kernel_rfl) (by kernel_rfl)
  have F_l_come : Fun (KK w.params) "_law_come" "_law_come" s_l_come 365 fd_l_come := fun_mk (st := s_l_come) (by kernel_rfl : (KK w.params).lookup 365 = some ⟨(.type "function"), none, .func fd_l_come, #[]⟩) (by kernel_rfl) (by kernel_rfl)
  have F_l_lets : Fun (KK w.params) "_law_lets" "_law_lets" s_l_lets 370 fd_l_lets := fun_mk (st := s_l_lets) (by kernel_rfl : (KK w.params).lookup 370 = some ⟨(.type "function"), none, .func fd_l_lets, #[]⟩) (by kernel_rfl) (by kernel_rfl)
  have F_l_sails : Fun (KK w.params) "_law_sails" "_law_sails" s_l_sails 375 fd_l_sails := fun_mk (st := s_l_sails) (by kernel_rfl : (KK w.params).lookup 375 = some ⟨(.type "function"), none, .func fd_l_sails, #[]⟩) (by kernel_rfl) (by kernel_rfl)
  have F_l_step : Fun (KK w.params) "_law_step" "_law_step" s_l_step 382 fd_l_step := fun_mk (st := s_l_step) (by kernel_rfl : (KK w.params).lookup 382 = some ⟨(.type "function"), none, .func fd_l_step, #[]⟩) (by kernel_rfl) (by kernel_rfl)
  have F_l_text : Fun (KK w.params) "_law_text" "_law_text" s_l_text 389 fd_l_text := fun_mk (st := s_l_text) (by kernel_rfl : (KK w.params).lookup 389 = some ⟨(.type "function"), none, .func fd_l_text, #[]⟩) (by kernel_rfl) (by kernel_rfl)
  have F_law : Fun (KK w.params) "law" "law" s_law 396 fd_law := fun_mk (st := s_law) (by kernel_rfl : (KK w.params).lookup 396 = some ⟨(.type "function"), none, .func fd_law, #[]⟩) (by kernel_rfl) (by kernel_rfl)
  exact ⟨⟨by kernel_rfl, by kernel_rfl, by kernel_rfl, by kernel_rfl⟩,
    ⟨by kernel_rfl, by kernel_rfl, by kernel_rfl, by kernel_rfl⟩,
    PySem.W.mg_of X G (by kernel_rfl),
    PySem.W.mg_of X G (by kernel_rfl),
    PySem.W.mg_of X G (by kernel_rfl),
    PySem.W.mg_of X G (by kernel_rfl),
    PySem.W.mg_of X G (by kernel_rfl),
    PySem.W.mg_of X G (by kernel_rfl),
    PySem.W.mg_of X G (by kernel_rfl),
    PySem.W.mg_of X G (by kernel_rfl),
    by kernel_rfl,
    by kernel_rfl,
    by kernel_rfl,
    by kernel_rfl,
    by kernel_rfl,
    by kernel_rfl,
    by kernel_rfl,
    PySem.W.mg_of X G (by kernel_rfl),
    (by show PySem.W.findIn _ _ _ = _; kernel_rfl),
    (by show PySem.W.findIn _ _ _ = _; kernel_rfl),
    (by show PySem.W.findIn _ _ _ = _; kernel_rfl),
    (by show PySem.W.findIn _ _ _ = _; kernel_rfl),
    (by show PySem.W.findIn _ _ _ = _; kernel_rfl),
    (by show PySem.W.findIn _ _ _ = _; kernel_rfl),
    (by show PySem.W.findIn _ _ _ = _; kernel_rfl),
    F_drawing,
    fb1 F_drawing (fun _ _ _ _ _ _ _ => rfl),
    PySem.W.mg_of X G (by kernel_rfl),
    F_chamber_line,
    fb2 F_chamber_line (fun _ _ _ _ _ _ _ _ => rfl),
    PySem.W.mg_of X G (by kernel_rfl),
    F_init,
    fb2 F_init (fun _ _ _ _ _ _ _ _ => rfl),
    F_levels,
    fb1 F_levels (fun _ _ _ _ _ _ _ => rfl),
    ⟨by kernel_rfl, by kernel_rfl, by kernel_rfl⟩,
    F_boats,
    fb1 F_boats (fun _ _ _ _ _ _ _ => rfl),
    ⟨by kernel_rfl, by kernel_rfl, by kernel_rfl⟩,
    F_waiting,
    fb2 F_waiting (fun _ _ _ _ _ _ _ _ => rfl),
    ⟨by kernel_rfl, by kernel_rfl, by kernel_rfl⟩,
    F_through,
    fb1 F_through (fun _ _ _ _ _ _ _ => rfl),
    ⟨by kernel_rfl, by kernel_rfl, by kernel_rfl⟩,
    F_drawn,
    fb1 F_drawn (fun _ _ _ _ _ _ _ => rfl),
    ⟨by kernel_rfl, by kernel_rfl, by kernel_rfl⟩,
    F_out,
    fb1 F_out (fun _ _ _ _ _ _ _ => rfl),
    ⟨by kernel_rfl, by kernel_rfl, by kernel_rfl⟩,
    F_side,
    fb2 F_side (fun _ _ _ _ _ _ _ _ => rfl),
    ⟨by kernel_rfl, by kernel_rfl, by kernel_rfl⟩,
    F_place,
    fb2 F_place (fun _ _ _ _ _ _ _ _ => rfl),
    ⟨by kernel_rfl, by kernel_rfl, by kernel_rfl⟩,
    F_come,
    fb2 F_come (fun _ _ _ _ _ _ _ _ => rfl),
    ⟨by kernel_rfl, by kernel_rfl, by kernel_rfl⟩,
    F_let,
    fb2 F_let (fun _ _ _ _ _ _ _ _ => rfl),
    ⟨by kernel_rfl, by kernel_rfl, by kernel_rfl⟩,
    F_sail,
    fb2 F_sail (fun _ _ _ _ _ _ _ _ => rfl),
    ⟨by kernel_rfl, by kernel_rfl, by kernel_rfl⟩,
    F_summit,
    fb1 F_summit (fun _ _ _ _ _ _ _ => rfl),
    ⟨by kernel_rfl, by kernel_rfl, by kernel_rfl⟩,
    F_is_chamber,
    fb2 F_is_chamber (fun _ _ _ _ _ _ _ _ => rfl),
    ⟨by kernel_rfl, by kernel_rfl, by kernel_rfl⟩,
    F_can_give,
    fb2 F_can_give (fun _ _ _ _ _ _ _ _ => rfl),
    ⟨by kernel_rfl, by kernel_rfl, by kernel_rfl⟩,
    F_can_take,
    fb2 F_can_take (fun _ _ _ _ _ _ _ _ => rfl),
    ⟨by kernel_rfl, by kernel_rfl, by kernel_rfl⟩,
    F_is_level,
    fb2 F_is_level (fun _ _ _ _ _ _ _ _ => rfl),
    ⟨by kernel_rfl, by kernel_rfl, by kernel_rfl⟩,
    F_give,
    fb2 F_give (fun _ _ _ _ _ _ _ _ => rfl),
    ⟨by kernel_rfl, by kernel_rfl, by kernel_rfl⟩,
    F_take,
    fb2 F_take (fun _ _ _ _ _ _ _ _ => rfl),
    ⟨by kernel_rfl, by kernel_rfl, by kernel_rfl⟩,
    F_leave,
    fb3 F_leave (fun _ _ _ _ _ _ _ _ _ => rfl),
    ⟨by kernel_rfl, by kernel_rfl, by kernel_rfl⟩,
    F_enter,
    fb3 F_enter (fun _ _ _ _ _ _ _ _ _ => rfl),
    ⟨by kernel_rfl, by kernel_rfl, by kernel_rfl⟩,
    F_l_cell_at,
    fb2 F_l_cell_at (fun _ _ _ _ _ _ _ _ => rfl),
    PySem.W.mg_of X G (by kernel_rfl),
    F_l_whole,
    fb1 F_l_whole (fun _ _ _ _ _ _ _ => rfl),
    PySem.W.mg_of X G (by kernel_rfl),
    F_l_bools,
    fb2 F_l_bools (fun _ _ _ _ _ _ _ _ => rfl),
    PySem.W.mg_of X G (by kernel_rfl),
    F_l_numbers,
    fb2 F_l_numbers (fun _ _ _ _ _ _ _ _ => rfl),
    PySem.W.mg_of X G (by kernel_rfl),
    F_l_stands,
    fb2 F_l_stands (fun _ _ _ _ _ _ _ _ => rfl),
    PySem.W.mg_of X G (by kernel_rfl),
    F_l_levels,
    fb2 F_l_levels (fun _ _ _ _ _ _ _ _ => rfl),
    PySem.W.mg_of X G (by kernel_rfl),
    F_l_new,
    fb1 F_l_new (fun _ _ _ _ _ _ _ => rfl),
    PySem.W.mg_of X G (by kernel_rfl),
    F_l_let_word,
    fb2 F_l_let_word (fun _ _ _ _ _ _ _ _ => rfl),
    PySem.W.mg_of X G (by kernel_rfl),
    F_l_let,
    fb2 F_l_let (fun _ _ _ _ _ _ _ _ => rfl),
    PySem.W.mg_of X G (by kernel_rfl),
    F_l_then,
    fb2 F_l_then (fun _ _ _ _ _ _ _ _ => rfl),
    PySem.W.mg_of X G (by kernel_rfl),
    F_l_sail_word,
    fb2 F_l_sail_word (fun _ _ _ _ _ _ _ _ => rfl),
    PySem.W.mg_of X G (by kernel_rfl),
    F_l_sail,
    fb2 F_l_sail (fun _ _ _ _ _ _ _ _ => rfl),
    PySem.W.mg_of X G (by kernel_rfl),
    F_l_come,
    fb2 F_l_come (fun _ _ _ _ _ _ _ _ => rfl),
    PySem.W.mg_of X G (by kernel_rfl),
    F_l_lets,
    fb1 F_l_lets (fun _ _ _ _ _ _ _ => rfl),
    PySem.W.mg_of X G (by kernel_rfl),
    F_l_sails,
    fb1 F_l_sails (fun _ _ _ _ _ _ _ => rfl),
    PySem.W.mg_of X G (by kernel_rfl),
    F_l_step,
    fb3 F_l_step (fun _ _ _ _ _ _ _ _ _ => rfl),
    PySem.W.mg_of X G (by kernel_rfl),
    F_l_text,
    fb1 F_l_text (fun _ _ _ _ _ _ _ => rfl),
    PySem.W.mg_of X G (by kernel_rfl),
    F_law,
    fb1 F_law (fun _ _ _ _ _ _ _ => rfl),
    PySem.W.mg_of X G (by kernel_rfl),
    PySem.W.mg_none_of X G (by kernel_rfl),
    PySem.W.mg_none_of X G (by kernel_rfl),
    PySem.W.mg_none_of X G (by kernel_rfl),
    PySem.W.mg_none_of X G (by kernel_rfl),
    PySem.W.mg_none_of X G (by kernel_rfl),
    PySem.W.mg_none_of X G (by kernel_rfl),
    PySem.W.mg_none_of X G (by kernel_rfl),
    PySem.W.mg_none_of X G (by kernel_rfl),
    PySem.W.mg_none_of X G (by kernel_rfl),
    PySem.W.mg_none_of X G (by kernel_rfl),
    PySem.W.mg_none_of X G (by kernel_rfl),
    PySem.W.mg_none_of X G (by kernel_rfl),
    by kernel_rfl,
    by kernel_rfl,
    by kernel_rfl,
    by kernel_rfl,
    by kernel_rfl⟩
theorem all_mk {l : PySem.W.OpenLaw} {w : World} {h : Heap} {mg : Str → Option Value} {fa : Addr} (X : (KK w.params).In h) (G : h.Ns mainGlobals mg) (hfa : mg "law" = some (.ref fa)) :
    ∃ fd : FuncData, (∀ (s : Shared) (v : Value), BindsTo s fd ⟨[v], []⟩ [("script", v)]) ∧ ∀ base : Heap, (KK w.params).In base → base.Ns mainGlobals mg → FnOk l.prog w (KK w.params) mg base (CXe l.prog w) 8 fa fd ["script"] (sp_law (KK w.params)) := by
  have T := txK X G
  have e := hfa.symm.trans T.g_law
  cases e
  exact ⟨fd_law, fun s v => .of_eq rfl, fun base _ _ => ok_law T⟩
theorem walk {l : PySem.W.OpenLaw} {q : Program} {loose : List Str} {XP : (Str → Option Value) → Heap → Prop} {d : DefRec} (hn : l.most = some 63) (hdf : d.params.defaults = []) (hnm : d.name = "law") :
    PySem.W.WalkO q loose XP (fun w h => (KK w.params).In h) l.row.toRowW d [] (fun f vs => PySem.call f vs) :=
  L2.walk_of (n := 63) (k := 8) (x := "script") (CX := fun w => CXe l.prog w) (sp := fun w => sp_law (KK w.params)) hn (by decide) hdf ⟨rfl, by decide, by decide⟩ (fun w h Y => Y) (fun w mg fa h KX G hmg => all_mk KX G (by rw [← hnm]; exact hmg)) (fun _ _ a ns hl _ hS => ⟨a, ns, rfl, hS, hl, fun _ => rfl⟩) fun _ _ _ _ _ z => by
    obtain ⟨_, _, _, _, _, _, _, _, _, _, _, _, _, _, z⟩ := z; exact z
noncomputable def qK : Program := PySem.W.view PySem.Challenge.pw_lockflight_k16_flights_drawn [1, 2, 3, 4, 5, 6, 7, 8, 10, 11, 13, 14, 16, 17, 18, 19, 20, 21, 22, 23, 24, 25, 26, 27, 28, 29, 30, 31, 32, 33]
noncomputable def xtK (s : Shared) : Bool := PySem.W.xlAt qK [] s && PySem.W.recOk [] s
noncomputable def lhsK := fun (w : World) => fun (os : OsState) => (LX.runT treeTable PySem.Challenge.pw_lockflight_k16_flights_drawn w 11 (some (.ref 6)) 6478 (LX.zBoot 11 w os) (PySem.W.topStub PySem.Challenge.pw_lockflight_k16_flights_drawn)).map fun z => LX.seenT PySem.Challenge.pw_lockflight_k16_flights_drawn qK ([] : List Str) xtK (PySem.W.X.obsZ asK) (PySem.W.boot_heap w.params) true z.abs
noncomputable def rhsK := fun (w : World) => fun (_ : OsState) => some (true, PySem.W.openGood qK ([] : List Str), PySem.W.X.valZ KK 397 684 w)
theorem lhsK_e : lhsK = lhsK := rfl
theorem rhsK_e : rhsK = rhsK := rfl
end KW
name_quick lhsQ for KW.lhsK by KW.lhsK_e
name_quick rhsQ for KW.rhsK by KW.rhsK_e
namespace KW
open PySem L2 LX Lf
theorem coreK : ∀ w, PySem.W.Fast.lhsQ w = PySem.W.Fast.rhsQ w := fun w => by kernel_rfl
theorem leftK : PySem.W.LeftO PySem.Challenge.pw_lockflight_k16_flights_drawn qK ([] : List Str) xtK (PySem.W.X.obsZ asK) (PySem.W.X.valZ KK 397 684) 6478 :=
  LX.left_of_tree (PySem.W.boot_open (by kernel_rfl) (by decide) fun s => by kernel_rfl) (fun w => by kernel_rfl) (fun w os => by kernel_rfl) fun w => (congrFun PySem.W.Fast.lhsQ_eq w).trans ((coreK w).trans (congrFun PySem.W.Fast.rhsQ_eq w).symm)
end KW

set_option Elab.async false
set_option linter.all false
open PySem PySem.W PyProof.Rows
set_option maxRecDepth 100000 in
set_option maxHeartbeats 0 in
theorem PySem.Challenge.cw_lockflight_k16_flights_drawn_holds : PySem.Challenge.rw_lockflight_k16_flights_drawn.Holds := by
  w_on; o_law
  refine holds_openX (r := PySem.Challenge.rw_lockflight_k16_flights_drawn.row) (q := KW.qK) (loose := []) (Xt := KW.xtK) (XP := XL KW.qK []) (Yf := X.obsZ KW.asK) (Ya := X.valZ KW.KK 397 684) (N := 6478) KW.leftK (fun s e => xl_of s (Bool.and_eq_true_iff.mp e).1) XL.keeps (by rfl) (by rfl) (by rfl) (fun s e => recFacts_of (Bool.and_eq_true_iff.mp e).2) (by rfl) (by first | assumption | decide +kernel) (by decide +kernel) ⟨rfl, rfl, rfl, rfl, rfl, by decide +kernel⟩ ?hw ?hc
  case hw => w_witness2
  case hc => exact LX.walkX (fun _ => by kernel_rfl) (KW.walk (l := PySem.Challenge.rw_lockflight_k16_flights_drawn) rfl rfl rfl)
