import PyProof.Rows.All
import Wide.All
import OpenK.AllK
import Wide.FinOn
import Lean
import PyProof.EqAt
import PyProof.EqKinds
import PyProof.TupleCall
import PyProof.NeKinds
import PySem.Challenge.RW_delve_k55_cellars_dealt
set_option Elab.async false
set_option linter.all false
set_option maxRecDepth 100000
namespace L2
open PySem PySem.Spec PyProof.Rows

abbrev Key := Sum Int Str
def keyIs : Key → Value → Bool
  | .inl k, v => Value.isInt k v
  | .inr x, v => Value.isStrOf x v
def keyH (w : World) : Key → Int
  | .inl k => hashInt k
  | .inr x => hashStr w x
theorem keyIs_shape : ∀ {k : Key} {v : Value}, keyIs k v = true → (∃ i t, k = Sum.inl i ∧ v = Value.int i t) ∨ (∃ x t, k = Sum.inr x ∧ v = Value.str x t)
  | .inl i, v, h => by
    obtain ⟨t, e⟩ := Value.isInt_shape (k := i) (v := v) h
    exact .inl ⟨i, t, rfl, e⟩
  | .inr x, v, h => by
    obtain ⟨t, e⟩ := Value.isStrOf_shape (x := x) (v := v) h
    exact .inr ⟨x, t, rfl, e⟩
theorem key_ll (a b : Int) : decide ((Sum.inl a : Key) = Sum.inl b) = (a == b) := by
  by_cases e : a = b
  · subst e; simp
  · have h : ¬ (Sum.inl a : Key) = Sum.inl b := fun q => e (Sum.inl.inj q)
    rw [decide_eq_false h]
    exact (beq_eq_false_iff_ne.mpr e).symm
theorem key_rr (a b : Str) : decide ((Sum.inr a : Key) = Sum.inr b) = decide (a = b) := by
  by_cases e : a = b
  · subst e; simp
  · have h : ¬ (Sum.inr a : Key) = Sum.inr b := fun q => e (Sum.inr.inj q)
    rw [decide_eq_false h, decide_eq_false e]
theorem key_lr (a : Int) (b : Str) : decide ((Sum.inl a : Key) = Sum.inr b) = false := decide_eq_false (fun q => nomatch q)
theorem key_rl (a : Str) (b : Int) : decide ((Sum.inr a : Key) = Sum.inl b) = false := decide_eq_false (fun q => nomatch q)

def mixKind (prog : Program) (w : World) : PySem.KeyKind prog w Key where
  is := keyIs
  hash := keyH w
  inj := fun v a b ha hb => by
    rcases keyIs_shape ha with ⟨i, t, rfl, rfl⟩ | ⟨x, t, rfl, rfl⟩
    · rcases keyIs_shape hb with ⟨j, u, rfl, e⟩ | ⟨y, u, rfl, e⟩
      · injection e with e1 _; rw [e1]
      · exact nomatch e
    · rcases keyIs_shape hb with ⟨j, u, rfl, e⟩ | ⟨y, u, rfl, e⟩
      · exact nomatch e
      · injection e with e1 _; rw [e1]
  byValue := fun k v h => by
    rcases keyIs_shape h with ⟨i, t, rfl, rfl⟩ | ⟨x, t, rfl, rfl⟩ <;> rfl
  pyHash := fun hv h => by
    rcases keyIs_shape hv with ⟨i, t, rfl, rfl⟩ | ⟨x, t, rfl, rfl⟩
    · exact wpAny_pyHash_int h
    · exact wpAny_pyHash_str h
  eqBool := fun hu hv h => by
    rcases keyIs_shape hu with ⟨i, t, rfl, rfl⟩ | ⟨x, t, rfl, rfl⟩
    · rcases keyIs_shape hv with ⟨j, u, rfl, rfl⟩ | ⟨y, u, rfl, rfl⟩
      · rw [key_ll] at h; exact wpAny_eqBool_int h
      · rw [key_lr] at h; exact SeqAt.EqAt.int_str i t y u _ _ _ _ h
    · rcases keyIs_shape hv with ⟨j, u, rfl, rfl⟩ | ⟨y, u, rfl, rfl⟩
      · rw [key_rl] at h; exact SeqAt.EqAt.str_int x t j u _ _ _ _ h
      · rw [key_rr] at h; exact wpAny_eqBool_str h
  «strs» := fun k x t v h => by
    rcases keyIs_shape h with ⟨i, u, rfl, e⟩ | ⟨y, u, rfl, e⟩
    · exact nomatch e
    · injection e with e1 _
      subst e1
      cases v <;> rfl

end L2

namespace L2
open PySem PySem.Spec PyProof.Rows

inductive V where
  | non | bl (b : Bool) | int (i : Int) | str (x : Str) | byt (b : Array UInt8) | flt (b : UInt64) | ref (a : Addr) | ty (n : String)
  deriving DecidableEq

def RelV : V → Value → Prop
  | .non, u => u = Value.none
  | .bl b, u => u = Value.bool b
  | .int i, u => ∃ t, u = Value.int i t
  | .str x, u => ∃ t, u = Value.str x t
  | .byt b, u => ∃ t, u = Value.bytes b t
  | .flt b, u => ∃ t, u = Value.float b t
  | .ref a, u => u = Value.ref a
  | .ty n, u => u = Value.type n

abbrev Vals : List V → List Value → Prop := Paired RelV
theorem Vals.length {xs : List V} {us : List Value} (r : Vals xs us) : xs.length = us.length := Paired.length r
theorem Vals.get : ∀ {xs : List V} {us : List Value} {i : Nat} {x : V}, Vals xs us → xs[i]? = some x → ∃ u, us[i]? = some u ∧ RelV x u
  | _, _, _, _, .nil, e => by simp at e
  | _, _, 0, _, .cons r _, e => by simp at e; subst e; exact ⟨_, rfl, r⟩
  | _, _, i + 1, x, .cons _ t, e => by
    obtain ⟨u, h1, h2⟩ := Vals.get (i := i) (x := x) t (by simpa using e)
    exact ⟨u, by simpa using h1, h2⟩
theorem Vals.set {x : V} {u : Value} (r : RelV x u) : ∀ {xs : List V} {us : List Value} (i : Nat), Vals xs us → Vals (xs.set i x) (us.set i u)
  | _, _, _, .nil => .nil
  | _, _, 0, .cons _ t => .cons r t
  | _, _, i + 1, .cons q t => .cons q (Vals.set r i t)
theorem Vals.append : ∀ {xs ys : List V} {us ws : List Value}, Vals xs us → Vals ys ws → Vals (xs ++ ys) (us ++ ws)
  | _, _, _, _, .nil, s => s
  | _, _, _, _, .cons r t, s => .cons r (Vals.append t s)
theorem Vals.take : ∀ {xs : List V} {us : List Value} (n : Nat), Vals xs us → Vals (xs.take n) (us.take n)
  | _, _, 0, _ => .nil
  | _, _, _ + 1, .nil => .nil
  | _, _, n + 1, .cons r t => .cons r (Vals.take n t)
theorem Vals.drop : ∀ {xs : List V} {us : List Value} (n : Nat), Vals xs us → Vals (xs.drop n) (us.drop n)
  | _, _, 0, r => r
  | _, _, _ + 1, .nil => .nil
  | _, _, n + 1, .cons _ t => Vals.drop n t
theorem Vals.none_of : ∀ {xs : List V} {us : List Value} {i : Nat}, Vals xs us → xs[i]? = none → us[i]? = none := fun {xs us i} r e => by
  have h1 := r.length
  have h2 : xs.length ≤ i := List.getElem?_eq_none_iff.mp e
  exact List.getElem?_eq_none_iff.mpr (by omega)

def RelO : Option V → Option Value → Prop
  | some v, some u => RelV v u
  | none, none => True
  | _, _ => False
def KV {κ : Type} : List (κ × V) → List (κ × Value) → Prop := Paired fun (p : κ × V) (q : κ × Value) => p.1 = q.1 ∧ RelV p.2 q.2

def kV : Key → V
  | .inl i => .int i
  | .inr x => .str x

inductive HO where
  /-- a list -/
  | lst (xs : List V)
  /-- a tuple (never changes) -/
  | tup (xs : List V)
  /-- a dict whose keys are ints and texts; one whose keys are tuples of ints and texts (the empty one is both) -/
  | dK (kvs : List (Key × V)) | dT (kvs : List (List Key × V))
  /-- a set of ints: its members, its size -/
  | set (S : Int → Bool) (n : Nat)
  /-- an instance of the class at C, its dict at dx, its attributes -/
  | ins (C dx : Addr) (fs : List (Str × V))
  /-- the dict of the instance at x -/
  | own (x : Addr)
  /-- the dict of an exception -/
  | xd (fs : List (Str × V))
  /-- a bound method, f of x -/
  | met (f x : Addr)
  /-- a range object lo, lo + 1, .. below hi -/
  | rng (lo hi : Int)
  /-- a thing that is known to the object (the script; a dict while a loop walks it): read, never written while it is so -/
  | frz (o : Obj) (u : HO)
  /-- a code object's table -/
  | tbl (ps : Array Value)
  /-- any other thing, by what is true of its one object (a def of one's own: SetO a S n := HO.ext fun h => ..) -/
  | ext (φ : Heap → Prop)

abbrev Hp := Addr → Option HO
def upd (H : Hp) (a : Addr) (o : HO) : Hp := fun b => if b = a then some o else H b
theorem upd_same {H : Hp} {a : Addr} {o : HO} : upd H a o a = some o := by unfold upd; rw [if_pos rfl]
theorem upd_ne {H : Hp} {a b : Addr} {o : HO} (h : b ≠ a) : upd H a o b = H b := by unfold upd; rw [if_neg h]
theorem ne_of {H : Hp} {a b : Addr} {o u : HO} (h : H a = some o) (h' : H b = some u) (d : o ≠ u) : a ≠ b := by
  intro e; subst e; rw [h] at h'; exact d (Option.some.inj h')
theorem ne_of_none {H : Hp} {a b : Addr} {o : HO} (h : H a = some o) (h' : H b = none) : a ≠ b := by
  intro e; subst e; rw [h] at h'; cases h'

section
variable (P : Program) (w : World)
def ObjOk (H : Hp) (h : Heap) (a : Addr) : HO → Prop
  | .lst xs => xs.length ≤ sizeLine ∧ ∃ (its : List Value) (n : Nat), Vals xs its ∧ h.get? a = some { cls := .type "list", data := .seq its.toArray n }
  | .tup xs => xs.length ≤ sizeLine ∧ ∃ its : List Value, Vals xs its ∧ IsTup h a its.toArray
  | .dK kvs => kvs.length ≤ sizeLine ∧ (a == sysModules) = false ∧ ∃ vs, KV kvs vs ∧ h.DictOf (mixKind P w) a vs
  | .dT kvs => kvs.length ≤ sizeLine ∧ (a == sysModules) = false ∧ ∃ xs : List (List Key × Addr × Value),
      Paired (fun (p : List Key × V) (q : List Key × Addr × Value) => p.1 = q.1 ∧ H q.2.1 = some (.tup (p.1.map kV)) ∧ RelV p.2 q.2.2) kvs xs ∧
      ∃ o es ep, h.get? a = some o ∧ o.ExactDict ∧ o.data = .dict es ep ∧ es.toList = xs.map (entryOfKey (tupleKind (mixKind P w))) ∧ (xs.map (·.1)).Nodup
  | .set S n => h.SetOf (intKind P w) a S n
  | .ins C dx fs => H dx = some (.own a) ∧ fs.length ≤ 1000 ∧ dx ≠ a ∧ h.get? a = some (PySem.W.instObj C dx) ∧
      ∃ mA, h.Ns1 dx mA ∧ (∀ f, RelO (fs.lookup f) (mA f)) ∧ PySem.Within mA (fs.map (·.1))
  | .own _ => ∃ o, h.get? a = some o
  | .xd fs => ∃ mA, h.Ns1 a mA ∧ ∀ f, RelO (fs.lookup f) (mA f)
  | .rng lo hi => ∃ t u v, h.get? a = some { cls := .type "range", data := .fields #[.int lo t, .int hi u, .int 1 v] }
  | .frz o u => h.get? a = some o ∧ ObjOk H h a u
  | .tbl ps => h.get? a = some { cls := .none, data := .fields ps }
  | .met f x => h.get? a = some (PySem.W.methodObj (.ref f) (.ref x))
  | .ext φ => φ h ∧ (∃ o, h.get? a = some o) ∧ ∀ h1 h2 : Heap, φ h1 → (∀ o, h1.get? a = some o → h2.get? a = some o) → φ h2
def HOk (H : Hp) (h : Heap) : Prop := ∀ a o, H a = some o → ObjOk P w H h a o
end

section
variable {P : Program} {w : World} {H H' : Hp} {h h' : Heap} {a : Addr} {o : HO}
theorem ObjOk.lt (x : ObjOk P w H h a o) : a < h.objs.size := by
  cases o with
  | lst xs => obtain ⟨_, _, _, _, e⟩ := x; exact Heap.lt_size e
  | tup xs => obtain ⟨_, _, _, p⟩ := x; exact p.lt
  | dK kvs => obtain ⟨_, _, _, _, o, _, _, e, _⟩ := x; exact Heap.lt_size e
  | dT kvs => obtain ⟨_, _, _, _, o, _, _, e, _⟩ := x; exact Heap.lt_size e
  | set S n => obtain ⟨o, _, _, _, e, _⟩ := x; exact Heap.lt_size e
  | ins C dx fs => obtain ⟨_, _, _, e, _⟩ := x; exact Heap.lt_size e
  | own y => obtain ⟨_, e⟩ := x; exact Heap.lt_size e
  | xd fs => obtain ⟨_, ⟨_, _, _, e, _⟩, _⟩ := x; exact Heap.lt_size e
  | rng lo hi => obtain ⟨_, _, _, e⟩ := x; exact Heap.lt_size e
  | frz ob u => obtain ⟨e, _⟩ := x; exact Heap.lt_size e
  | tbl ps => exact Heap.lt_size (show h.get? a = some _ from x)
  | met f y => exact Heap.lt_size (show h.get? a = some _ from x)
  | ext φ => obtain ⟨_, ⟨_, e⟩, _⟩ := x; exact Heap.lt_size e
theorem Paired.mapP {α β : Type} {F G : α → β → Prop} : ∀ {l₁ : List α} {l₂ : List β}, Paired F l₁ l₂ → (∀ a b, F a b → G a b) → Paired G l₁ l₂
  | _, _, .nil, _ => .nil
  | _, _, .cons r t, f => .cons (f _ _ r) (Paired.mapP t f)
theorem ObjOk.stay (x : ObjOk P w H h a o) (k : ∀ b u, (b = a ∨ H b = some (.own a)) → h.get? b = some u → h'.get? b = some u)
    (ho : ∀ b, H b = some (.own a) → H' b = some (.own a)) (ht : ∀ b xs, H b = some (.tup xs) → H' b = some (.tup xs)) : ObjOk P w H' h' a o := by
  induction o with
  | lst xs => obtain ⟨z, its, n, r, e⟩ := x; exact ⟨z, its, n, r, k _ _ (.inl rfl) e⟩
  | tup xs => obtain ⟨z, its, r, ob, e, c⟩ := x; exact ⟨z, its, r, ob, k _ _ (.inl rfl) e, c⟩
  | dK kvs => obtain ⟨z, y, vs, r, ob, es, ep, e, c⟩ := x; exact ⟨z, y, vs, r, ob, es, ep, k _ _ (.inl rfl) e, c⟩
  | dT kvs =>
    obtain ⟨z, y, xs, r, ob, es, ep, e, c⟩ := x
    exact ⟨z, y, xs, Paired.mapP r fun p q z => ⟨z.1, ht _ _ z.2.1, z.2.2⟩, ob, es, ep, k _ _ (.inl rfl) e, c⟩
  | set S n => obtain ⟨ob, es, ep, t, e, c⟩ := x; exact ⟨ob, es, ep, t, k _ _ (.inl rfl) e, c⟩
  | ins C dx fs =>
    obtain ⟨d, z, ne, e, mA, ⟨od, es, ep, e2, c⟩, r⟩ := x
    exact ⟨ho _ d, z, ne, k _ _ (.inl rfl) e, mA, ⟨od, es, ep, k _ _ (.inr d) e2, c⟩, r⟩
  | own y => obtain ⟨ob, e⟩ := x; exact ⟨ob, k _ _ (.inl rfl) e⟩
  | xd fs => obtain ⟨mA, ⟨od, es, ep, e, c⟩, r⟩ := x; exact ⟨mA, ⟨od, es, ep, k _ _ (.inl rfl) e, c⟩, r⟩
  | rng lo hi => obtain ⟨t, u, v, e⟩ := x; exact ⟨t, u, v, k _ _ (.inl rfl) e⟩
  | frz ob u ih => obtain ⟨e, q⟩ := x; exact ⟨k _ _ (.inl rfl) e, ih q⟩
  | tbl ps =>
    have e : h.get? a = some { cls := .none, data := .fields ps } := x
    show h'.get? a = some { cls := .none, data := .fields ps }
    exact k a _ (.inl rfl) e
  | met f y =>
    have e : h.get? a = some (PySem.W.methodObj (.ref f) (.ref y)) := x
    show h'.get? a = some (PySem.W.methodObj (.ref f) (.ref y))
    exact k a _ (.inl rfl) e
  | ext φ => obtain ⟨p, ⟨o, e⟩, st⟩ := x; exact ⟨st _ _ p fun o q => k _ _ (.inl rfl) q, ⟨o, k _ _ (.inl rfl) e⟩, st⟩
theorem HOk.lt (x : HOk P w H h) (e : H a = some o) : a < h.objs.size := (x a o e).lt
theorem HOk.fresh (x : HOk P w H h) (e : h.objs.size ≤ a) : H a = none := by
  cases q : H a with
  | none => rfl
  | some u => exact absurd (Nat.lt_of_lt_of_le (x.lt q) e) (Nat.lt_irrefl _)
theorem HOk.kept (x : HOk P w H h) (k : ∀ b u, h.get? b = some u → h'.get? b = some u) : HOk P w H h' := fun a o e =>
  (x a o e).stay (fun b u _ q => k b u q) (fun _ q => q) fun _ _ q => q
theorem HOk.laid (x : HOk P w H h) (k : ∀ b u, h.get? b = some u → h'.get? b = some u) (hp : h.objs.size ≤ a) (new : ObjOk P w (upd H a o) h' a o) : HOk P w (upd H a o) h' := fun b u e => by
  have hn := x.fresh hp
  by_cases hb : b = a
  · subst hb; rw [upd_same] at e; cases e; exact new
  · rw [upd_ne hb] at e
    exact (x b u e).stay (fun c v _ q => k c v q) (fun c q => by rw [upd_ne (ne_of_none q hn)]; exact q) fun c xs q => by rw [upd_ne (ne_of_none q hn)]; exact q
end

def Rd (H : Hp) (a : Addr) (u : HO) : Prop := H a = some u ∨ ∃ o, H a = some (.frz o u)
theorem Rd.of {H : Hp} {a : Addr} {u : HO} (h : H a = some u) : Rd H a u := .inl h
theorem Rd.ok {P : Program} {w : World} {H : Hp} {h : Heap} {a : Addr} {u : HO} (r : Rd H a u) (x : HOk P w H h) : ObjOk P w H h a u := by
  rcases r with r | ⟨o, r⟩
  · exact x a u r
  · obtain ⟨_, q⟩ := x a _ r
    exact q
def Mut : Option HO → Prop
  | some (.lst _) => True
  | some (.dK _) => True
  | some (.dT _) => True
  | some (.set _ _) => True
  | some (.ins _ _ _) => True
  | some (.ext _) => True
  | _ => False
section
variable {P : Program} {w : World} {H : Hp} {h h' : Heap} {x e : Addr} {o' : HO}
theorem HOk.write (ok : HOk P w H h) (mu : Mut (H x)) (he : e = x ∨ H e = some (.own x)) (k : ∀ b u, b ≠ e → h.get? b = some u → h'.get? b = some u) (heo : ∃ u, h'.get? e = some u)
    (new : ObjOk P w (upd H x o') h' x o') : HOk P w (upd H x o') h' := fun b u q => by
  have nown : ∀ c y, H c = some (.own y) → c ≠ x := fun c y r z => by subst z; rw [r] at mu; exact mu
  have ntup : ∀ c xs, H c = some (.tup xs) → c ≠ x := fun c xs r z => by subst z; rw [r] at mu; exact mu
  by_cases hb : b = x
  · subst hb; rw [upd_same] at q; cases q; exact new
  · rw [upd_ne hb] at q
    by_cases hbe : b = e
    · have q' : H b = some (.own x) := by
        rcases he with z | z
        · exact absurd (hbe.trans z) hb
        · rw [hbe]; exact z
      rw [q] at q'; cases q'
      obtain ⟨v, hv⟩ := heo
      exact ⟨v, by rw [hbe]; exact hv⟩
    · refine (ok b u q).stay (fun c v hc r => k c v ?_ r) (fun c r => by rw [upd_ne (nown c b r)]; exact r) fun c xs r => by rw [upd_ne (ntup c xs r)]; exact r
      rcases hc with rfl | hc
      · exact hbe
      · rintro rfl
        rcases he with z | z
        · exact nown c b hc z
        · rw [hc] at z; cases z; exact hb rfl
end

structure Un (fs ex : List Addr) (H H' : Hp) (h h' : Heap) : Prop where
  keep : ∀ b o, h.get? b = some o → H b = none → b ∉ fs → b ∉ ex → h'.get? b = some o
  slot : ∀ b o, h.get? b = some o → H b = none → b ∈ fs → b ∉ ex → ∃ sl, h'.get? b = some { o with slots := sl }
  free : ∀ b o, h.get? b = some o → H b = none → b ∉ ex → H' b = none
  there : ∀ b o, h.get? b = some o → b ∉ ex → ∃ o', h'.get? b = some o'
  tups : ∀ b xs, H b = some (.tup xs) → H' b = some (.tup xs)
  frzs : ∀ b o u, H b = some (.frz o u) → H' b = some (.frz o u)
  tbls : ∀ b ps, H b = some (.tbl ps) → ∃ more, H' b = some (.tbl (ps ++ more))
section
variable {fs fs' ex ex' : List Addr} {H H1 H2 : Hp} {h h1 h2 h' : Heap} {a x e : Addr} {o : HO}
theorem Un.any (u : Un fs ex H H1 h h1) {b : Addr} {ob : Obj} (q : h.get? b = some ob) (n : H b = none) (hx : b ∉ ex) : ∃ sl, h1.get? b = some { ob with slots := sl } := by
  by_cases hb : b ∈ fs
  · exact u.slot b ob q n hb hx
  · exact ⟨ob.slots, u.keep b ob q n hb hx⟩
theorem Un.trans (a : Un fs ex H H1 h h1) (b : Un fs ex H1 H2 h1 h2) : Un fs ex H H2 h h2 where
  keep := fun c ob q n hc hx => b.keep c ob (a.keep c ob q n hc hx) (a.free c ob q n hx) hc hx
  slot := fun c ob q n hc hx => by
    obtain ⟨sl, e1⟩ := a.slot c ob q n hc hx
    obtain ⟨sl', e2⟩ := b.slot c _ e1 (a.free c ob q n hx) hc hx
    exact ⟨sl', e2⟩
  free := fun c ob q n hx => by
    obtain ⟨o', e1⟩ := a.there c ob q hx
    exact b.free c o' e1 (a.free c ob q n hx) hx
  there := fun c ob q hx => by
    obtain ⟨o', e1⟩ := a.there c ob q hx
    exact b.there c o' e1 hx
  tups := fun c xs q => b.tups c xs (a.tups c xs q)
  frzs := fun c ob xs q => b.frzs c ob xs (a.frzs c ob xs q)
  tbls := fun c ps q => by
    obtain ⟨m1, e1⟩ := a.tbls c ps q
    obtain ⟨m2, e2⟩ := b.tbls c _ e1
    exact ⟨m1 ++ m2, by rw [e2, Array.append_assoc]⟩
theorem Un.kept (k : ∀ b u, h.get? b = some u → h'.get? b = some u) : Un fs ex H H h h' :=
  ⟨fun b ob q _ _ _ => k b ob q, fun b ob q _ _ _ => ⟨ob.slots, k b ob q⟩, fun _ _ _ n _ => n, fun b ob q _ => ⟨ob, k b ob q⟩, fun _ _ q => q, fun _ _ _ q => q, fun _ ps q => ⟨#[], by rw [q]; simp⟩⟩
theorem Un.refl : Un fs ex H H h h := Un.kept fun _ _ q => q
theorem Un.laid (k : ∀ b u, h.get? b = some u → h'.get? b = some u) (hp : h.objs.size ≤ a) (hn : H a = none) : Un fs ex H (upd H a o) h h' where
  keep := fun b u q _ _ _ => k b u q
  slot := fun b u q _ _ _ => ⟨u.slots, k b u q⟩
  free := fun b u q n _ => by rw [upd_ne (Nat.ne_of_lt (Nat.lt_of_lt_of_le (Heap.lt_size q) hp))]; exact n
  there := fun b u q _ => ⟨u, k b u q⟩
  tups := fun b xs q => by rw [upd_ne (ne_of_none q hn)]; exact q
  frzs := fun b u xs q => by rw [upd_ne (ne_of_none q hn)]; exact q
  tbls := fun b ps q => ⟨#[], by rw [upd_ne (ne_of_none q hn), q]; simp⟩
theorem Un.write (mu : Mut (H x)) (he : e = x ∨ H e = some (.own x)) (k : ∀ b u, b ≠ e → h.get? b = some u → h'.get? b = some u) (heo : ∃ u, h'.get? e = some u) : Un fs ex H (upd H x o) h h' := by
  have hx : ∀ b, H b = none → b ≠ x := fun b n z => by subst z; rw [n] at mu; exact mu
  have hb : ∀ b, H b = none → b ≠ e := fun b n z => by
    subst z
    rcases he with r | r
    · exact hx b n r
    · rw [n] at r; cases r
  have hm : ∀ b u, H b = some u → ¬ Mut (some u) → b ≠ x := fun b u q nm z => by subst z; rw [q] at mu; exact nm mu
  refine ⟨fun b u q n _ _ => k b u (hb b n) q, fun b u q n _ _ => ⟨u.slots, k b u (hb b n) q⟩, fun b u q n _ => by rw [upd_ne (hx b n)]; exact n, fun b u q _ => ?_,
    fun b xs q => by rw [upd_ne (hm b _ q fun z => z)]; exact q, fun b u xs q => by rw [upd_ne (hm b _ q fun z => z)]; exact q, fun b ps q => ⟨#[], by rw [upd_ne (hm b _ q fun z => z), q]; simp⟩⟩
  by_cases hbe : b = e
  · subst hbe; exact heo
  · exact ⟨u, k b u hbe q⟩
theorem Un.mono (u : Un fs ex H H1 h h1) (hs : ∀ b ∈ fs, b ∈ fs') (hx : ∀ b ∈ ex, b ∈ ex') : Un fs' ex' H H1 h h1 :=
  ⟨fun b ob q n hb he => u.keep b ob q n (fun z => hb (hs b z)) fun z => he (hx b z), fun _ _ q n _ he => u.any q n fun z => he (hx _ z), fun b ob q n he => u.free b ob q n fun z => he (hx b z), fun b ob q he => u.there b ob q fun z => he (hx b z), u.tups, u.frzs, u.tbls⟩
end

def trk (h : Heap) (H : Hp) : List Addr := (List.range h.objs.size).filter fun a => (H a).isSome
def hidT (h : Heap) (H : Hp) : Heap := PySem.W.hideAll h (trk h H)
theorem hidT_size (h : Heap) (H : Hp) : (hidT h H).objs.size = h.objs.size := PySem.W.hideAll_size _ _
theorem hidT_get {h : Heap} {H : Hp} {b : Addr} {o : Obj} (e : h.get? b = some o) (n : H b = none) : (hidT h H).get? b = some o :=
  PySem.W.hideAll_get _ e fun hm => by
    have q : (H b).isSome = true := (List.mem_filter.mp hm).2
    rw [n] at q; simp at q
theorem of_hidT {h : Heap} {H : Hp} {b : Addr} {o : Obj} (e : (hidT h H).get? b = some o) : h.get? b = some o ∧ H b = none := by
  have e' : h.get? b = some o := PySem.W.of_hideAll (trk h H) e
  refine ⟨e', ?_⟩
  cases q : H b with
  | none => rfl
  | some x =>
    have hm : b ∈ trk h H := List.mem_filter.mpr ⟨List.mem_range.mpr (Heap.lt_size e'), by simp [q]⟩
    have z : (hidT h H).get? b = none := PySem.W.hideAll_none (trk h H) hm
    rw [z] at e; cases e

def allNews (g h : Heap) (L : Addr) : List (Addr × Obj) := (List.range h.objs.size).filterMap fun a => if a = L ∨ (g.get? a).isSome = true then none else (h.get? a).map fun o => (a, o)
def rest (g h : Heap) (L d : Addr) : List (Addr × Obj) := (allNews g h L).filter fun p => decide (p.1 ≠ d)
end L2

namespace L2
open PySem PySem.Spec PyProof.Rows

structure Mod (K : PySem.W.Frag) (mg : Str → Option Value) (base : Heap) : Prop where
  kin : K.In base
  glob : base.Ns mainGlobals mg
  blt : ∃ mb, base.Ns builtinsNs mb ∧ ∀ x : Str, x ≠ "__name__" → mb x = bootBuiltins x
  nolimit : base.NoLimit

structure Cx where
  prog : Program
  w : World
  K : PySem.W.Frag
  mg : Str → Option Value
  base : Heap
  A : Around
  N : List Str
  s₀ : Shared
  H₀ : Hp
  env : Env
  outer : List Env
  stack : List Env
  ex : List Addr
  fn : Str → Bool
  calm : Bool
  pn : List (Addr × Obj)
  xe : Value → Shared → Prop
def frs (l : List Env) : List Addr := l.filterMap (·.frame)
abbrev Cx.fs (X : Cx) : List Addr := frs X.outer

def Vis (sc : Scope) (x : Str) : Prop := sc.names.lookup x = some .local ∨ sc.names.lookup x = some .cell ∨ sc.names.lookup x = some .free
def Loc (sc : Scope) (x : Str) : Prop := sc.names.lookup x = some .local ∨ sc.names.lookup x = some .cell
def Look (env : Env) (h : Heap) (m : Str → Option Value) (x : Str) (u : Value) : Prop :=
  (env.kindOf x = some .local ∧ m x = some u) ∨ ((env.kindOf x = some .cell ∨ env.kindOf x = some .free) ∧ ∃ c, env.cells.lookup x = some c ∧ h.IsCell c (some u))

structure Cx.Ok (X : Cx) : Prop where
  mod : Mod X.K X.mg X.base
  kind : X.env.scope.kind = .function
  glob : X.env.globals = mainGlobals
  blt : X.env.builtins = builtinsNs
  above : X.s₀.heap.objs.size ≤ X.env.locals
  inj : ∀ x y c, X.env.cells.lookup x = some c → X.env.cells.lookup y = some c → x = y
  has : ∀ x, (X.env.kindOf x = some .cell ∨ X.env.kindOf x = some .free) → ∃ c, X.env.cells.lookup x = some c
  cab : ∀ x c, X.fn x = true → X.env.cells.lookup x = some c → X.s₀.heap.objs.size ≤ c
  hd : X.calm = true → X.A.handled = none
  frames : X.A.frames = some X.stack
  stk : X.stack = X.outer ∨ (X.stack = X.env :: X.outer ∧ X.env.frame = some X.env.locals)
  exf : ∀ b ∈ X.ex, b ≠ X.env.locals ∧ ∀ x c, X.env.cells.lookup x = some c → c ≠ b
  bs : ∀ b o, X.base.get? b = some o → X.s₀.heap.get? b = some o ∧ X.H₀ b = none
  bsz : X.base.objs.size ≤ X.s₀.heap.objs.size
  noex : ∀ b o, X.base.get? b = some o → b ∉ X.ex
  exfs : ∀ b ∈ X.ex, b ∉ X.fs
  funs : X.s₀.heap.FunFrames X.base X.outer
  frf : ∀ b ∈ X.fs, X.H₀ b = none

structure Inv (X : Cx) (pins : List (Addr × Obj)) (σ : List (Option V)) (H : Hp) (s : Shared) : Prop where
  ok : X.Ok
  os : s.os = X.s₀.os
  bare : AllBare s.gens
  base : Un X.fs X.ex X.H₀ H X.s₀.heap s.heap
  loc : ∃ m, s.heap.Ns X.env.locals m ∧ ∀ (i : Nat) (x : Str) (v : V), X.N[i]? = some x → σ[i]? = some (some v) → Vis X.env.scope x → ∃ u, RelV v u ∧ Look X.env s.heap m x u
  cell : ∀ x c, X.env.cells.lookup x = some c → ∃ v, s.heap.IsCell c v
  free : H X.env.locals = none
  freeC : ∀ x c, X.env.cells.lookup x = some c → H c = none
  pin : ∀ p ∈ X.pn ++ pins, s.heap.get? p.1 = some p.2 ∧ H p.1 = none ∧ p.1 ≠ X.env.locals ∧ p.1 ∉ X.fs ∧ ∀ v, p.2.data ≠ .cell v
  hok : HOk X.prog X.w H s.heap
  len : σ.length = X.N.length

section
variable {X : Cx} {pins : List (Addr × Obj)} {σ : List (Option V)} {H H' : Hp} {s : Shared} {h' : Heap}

theorem Cx.Ok.nofr (ok : X.Ok) {b : Addr} {o : Obj} (e : X.base.get? b = some o) : b ∉ X.fs := fun hb => by
  have := (ok.funs.mem hb).1
  rw [e] at this; cases this
theorem Inv.bs (I : Inv X pins σ H s) : ∀ b o, X.base.get? b = some o → s.heap.get? b = some o ∧ H b = none := fun b o e =>
  ⟨I.base.keep b o (I.ok.bs b o e).1 (I.ok.bs b o e).2 (I.ok.nofr e) (I.ok.noex b o e), I.base.free b o (I.ok.bs b o e).1 (I.ok.bs b o e).2 (I.ok.noex b o e)⟩
theorem Inv.bk (I : Inv X pins σ H s) : ∀ b o, X.base.get? b = some o → s.heap.get? b = some o := fun b o e => (I.bs b o e).1
theorem Inv.mod (I : Inv X pins σ H s) : Mod X.K X.mg X.base := I.ok.mod
theorem Inv.kIn (I : Inv X pins σ H s) : X.K.In s.heap := I.ok.mod.kin.keeps I.bk
theorem Inv.nolimit (I : Inv X pins σ H s) : s.heap.NoLimit := I.ok.mod.nolimit.keeps I.bk
theorem Inv.lt (I : Inv X pins σ H s) : X.env.locals < s.heap.objs.size := let ⟨_, hn, _⟩ := I.loc; hn.lt
theorem Inv.sz (I : Inv X pins σ H s) : X.s₀.heap.objs.size ≤ s.heap.objs.size := Nat.le_trans I.ok.above (Nat.le_of_lt I.lt)
theorem Inv.nofs (I : Inv X pins σ H s) {a : Addr} (h : s.heap.objs.size ≤ a) : a ∉ X.fs := fun hb => by
  obtain ⟨_, o, ho, _⟩ := I.ok.funs.mem hb
  exact absurd (Nat.lt_of_lt_of_le (Heap.lt_size ho) (Nat.le_trans I.sz h)) (Nat.lt_irrefl _)
theorem Inv.cne (I : Inv X pins σ H s) : ∀ x c, X.env.cells.lookup x = some c → c ≠ X.env.locals := fun x c e z => by
  obtain ⟨v, o, ho, hd⟩ := I.cell x c e
  obtain ⟨m, ⟨o', es, ep, ho', hd', _⟩, _⟩ := I.loc
  rw [z, ho'] at ho; cases ho; rw [hd'] at hd; cases hd
theorem Inv.funs (I : Inv X pins σ H s) : s.heap.FunFrames X.base X.outer := by
  have all : ∀ (l : List Env), (∀ b ∈ frs l, b ∈ X.fs) → X.s₀.heap.FunFrames X.base l → s.heap.FunFrames X.base l := by
    intro l
    induction l with
    | nil => intro _ _; trivial
    | cons env r ih =>
      intro hs hl
      obtain ⟨hk, ⟨L, o, hf, hn, ho, hd⟩, hr⟩ := hl
      have hL : L ∈ X.fs := hs L (by unfold frs; rw [List.filterMap_cons, hf]; exact List.mem_cons_self)
      obtain ⟨sl, e⟩ := I.base.slot L o ho (I.ok.frf L hL) hL fun z => I.ok.exfs L z hL
      exact ⟨hk, ⟨L, _, hf, hn, e, hd⟩, ih (fun b hb => hs b (by unfold frs; rw [List.filterMap_cons, hf]; exact List.mem_cons_of_mem _ hb)) hr⟩
  exact all X.outer (fun _ hb => hb) I.ok.funs

theorem Inv.stack (I : Inv X pins σ H s) : s.heap.FunFrames X.base X.stack := by
  rcases I.ok.stk with e | ⟨e, hf⟩
  · rw [e]; exact I.funs
  · rw [e]
    obtain ⟨m, hn, _⟩ := I.loc
    refine .cons (by rw [I.ok.kind]; decide) hf hn ?_ I.funs
    exact Heap.get?_none_of_le (Nat.le_trans I.ok.bsz I.ok.above)
theorem Inv.stkSub (I : Inv X pins σ H s) : ∀ b ∈ frs X.stack, b ∈ X.env.locals :: X.fs := fun b hb => by
  rcases I.ok.stk with e | ⟨e, hf⟩
  · rw [e] at hb; exact List.mem_cons_of_mem _ hb
  · rw [e] at hb
    unfold frs at hb
    rw [List.filterMap_cons, hf] at hb
    exact hb
theorem Inv.stkFree (I : Inv X pins σ H s) : ∀ b ∈ frs X.stack, H b = none := fun b hb => by
  rcases List.mem_cons.mp (I.stkSub b hb) with e | hb
  · rw [e]; exact I.free
  · obtain ⟨_, o, ho, _⟩ := I.ok.funs.mem hb
    exact I.base.free b o ho (I.ok.frf b hb) fun z => I.ok.exfs b z hb

theorem Inv.step {g' : Array GenState} {t' : Nat} {d' : Drawn} {ch : List Addr} (I : Inv X pins σ H s)
    (hch : ∀ b ∈ ch, (b ∈ X.ex ∨ X.s₀.heap.objs.size ≤ b) ∧ b ≠ X.env.locals ∧ (∀ x c, X.env.cells.lookup x = some c → c ≠ b) ∧ ∀ p ∈ X.pn ++ pins, p.1 ≠ b)
    (keep : ∀ b o, b ≠ X.env.locals → b ∉ X.fs → b ∉ ch → s.heap.get? b = some o → H b = none → h'.get? b = some o)
    (slot : ∀ b o, b ≠ X.env.locals → b ∈ X.fs → b ∉ ch → s.heap.get? b = some o → H b = none → ∃ sl, h'.get? b = some { o with slots := sl }) (free : ∀ b o, b ∉ ch → s.heap.get? b = some o → H b = none → H' b = none)
    (there : ∀ b o, b ∉ ch → s.heap.get? b = some o → ∃ o', h'.get? b = some o')
    (tups : ∀ b xs, H b = some (.tup xs) → H' b = some (.tup xs)) (frzs : ∀ b o u, H b = some (.frz o u) → H' b = some (.frz o u)) (tbls : ∀ b ps, H b = some (.tbl ps) → ∃ more, H' b = some (.tbl (ps ++ more)))
    (ns : ∀ m, s.heap.Ns X.env.locals m → h'.Ns X.env.locals m) (hok : HOk X.prog X.w H' h') (hg : AllBare g') :
    Inv X pins σ H' { s with heap := h', gens := g', drawn := d', toks := t' } := by
  have neL : ∀ b o, X.s₀.heap.get? b = some o → b ≠ X.env.locals := fun b o e => Nat.ne_of_lt (Nat.lt_of_lt_of_le (Heap.lt_size e) I.ok.above)
  have neC : ∀ b o, X.s₀.heap.get? b = some o → b ∉ X.ex → b ∉ ch := fun b o e hx hb => by
    rcases (hch b hb).1 with z | z
    · exact hx z
    · exact absurd (Nat.lt_of_lt_of_le (Heap.lt_size e) z) (Nat.lt_irrefl _)
  have cellK : ∀ x c, X.env.cells.lookup x = some c → ∀ v, s.heap.IsCell c v → h'.IsCell c v := fun x c e v ⟨o, ho, hd⟩ => by
    have nch : c ∉ ch := fun z => (hch c z).2.2.1 x c e rfl
    by_cases hc : c ∈ X.fs
    · obtain ⟨sl, q⟩ := slot c o (I.cne x c e) hc nch ho (I.freeC x c e)
      exact ⟨_, q, hd⟩
    · exact ⟨o, keep c o (I.cne x c e) hc nch ho (I.freeC x c e), hd⟩
  refine ⟨I.ok, I.os, hg, ⟨fun b o e n hb hx => ?_, fun b o e n hb hx => ?_, fun b o e n hx => ?_, fun b o e hx => ?_, fun b xs e => tups b xs (I.base.tups b xs e), fun b o xs e => frzs b o xs (I.base.frzs b o xs e), fun b ps e => ?_⟩, ?_, fun x c e => ?_, ?_, fun x c e => ?_, fun p hp => ?_, hok, I.len⟩
  · exact keep b o (neL b o e) hb (neC b o e hx) (I.base.keep b o e n hb hx) (I.base.free b o e n hx)
  · obtain ⟨sl, e1⟩ := I.base.slot b o e n hb hx
    obtain ⟨sl', e2⟩ := slot b _ (neL b o e) hb (neC b o e hx) e1 (I.base.free b o e n hx)
    exact ⟨sl', e2⟩
  · obtain ⟨o', e1⟩ := I.base.there b o e hx
    exact free b o' (neC b o e hx) e1 (I.base.free b o e n hx)
  · obtain ⟨o', e1⟩ := I.base.there b o e hx
    exact there b o' (neC b o e hx) e1
  · obtain ⟨m1, e1⟩ := I.base.tbls b ps e
    obtain ⟨m2, e2⟩ := tbls b _ e1
    exact ⟨m1 ++ m2, by rw [e2, Array.append_assoc]⟩
  · obtain ⟨m, hn, hl⟩ := I.loc
    refine ⟨m, ns m hn, fun i x v e1 e2 e3 => ?_⟩
    obtain ⟨u, r, l⟩ := hl i x v e1 e2 e3
    refine ⟨u, r, ?_⟩
    rcases l with l | ⟨k, c, e, z⟩
    · exact .inl l
    · exact .inr ⟨k, c, e, cellK x c e _ z⟩
  · obtain ⟨v, z⟩ := I.cell x c e
    exact ⟨v, cellK x c e v z⟩
  · obtain ⟨m, ⟨o, _, _, ho, _⟩, _⟩ := I.loc
    exact free _ o (fun z => (hch _ z).2.1 rfl) ho I.free
  · obtain ⟨v, o, ho, hd⟩ := I.cell x c e
    exact free c o (fun z => (hch c z).2.2.1 x c e rfl) ho (I.freeC x c e)
  · obtain ⟨e, n, ne, nf, d⟩ := I.pin p hp
    have nch : p.1 ∉ ch := fun z => (hch p.1 z).2.2.2 p hp rfl
    exact ⟨keep p.1 p.2 ne nf nch e n, free p.1 p.2 nch e n, ne, nf, d⟩
theorem Inv.un {t' : Nat} (I : Inv X pins σ H s) (u : Un X.fs [] H H' s.heap h') (hok : HOk X.prog X.w H' h') : Inv X pins σ H' { s with heap := h', toks := t' } := by
  obtain ⟨m, ⟨o, es, ep, ho, r⟩, _⟩ := id I.loc
  obtain ⟨sl, hL⟩ := u.any ho I.free (by simp)
  exact I.step (g' := s.gens) (d' := s.drawn) (ch := []) (fun _ z => nomatch z) (fun b o _ hb _ e n => u.keep b o e n hb (by simp)) (fun b o _ hb _ e n => u.slot b o e n hb (by simp)) (fun b o _ e n => u.free b o e n (by simp)) (fun b o _ e => u.there b o e (by simp)) u.tups u.frzs u.tbls (fun m' hm => by
    obtain ⟨o', es', ep', ho', r'⟩ := hm
    rw [ho] at ho'; cases ho'
    exact ⟨_, es', ep', hL, r'⟩) hok I.bare
theorem Inv.call {g' : Array GenState} {t' : Nat} {d' : Drawn} {ch : List Addr} (I : Inv X pins σ H s) (u : Un (frs X.stack) ch H H' s.heap h') (hok : HOk X.prog X.w H' h') (hg : AllBare g')
    (hch : ∀ b ∈ ch, (b ∈ X.ex ∨ X.s₀.heap.objs.size ≤ b) ∧ b ≠ X.env.locals ∧ (∀ x c, X.env.cells.lookup x = some c → c ≠ b) ∧ ∀ p ∈ X.pn ++ pins, p.1 ≠ b) :
    Inv X pins σ H' { s with heap := h', gens := g', drawn := d', toks := t' } := by
  obtain ⟨m, ⟨o, es, ep, ho, r⟩, _⟩ := id I.loc
  obtain ⟨sl, hL⟩ := u.any ho I.free fun z => (hch _ z).2.1 rfl
  exact I.step (ch := ch) hch (fun b o hL hb hc e n => u.keep b o e n (fun z => (List.mem_cons.mp (I.stkSub b z)).elim hL hb) hc) (fun b o _ _ hc e n => u.any e n hc) (fun b o hc e n => u.free b o e n hc) (fun b o hc e => u.there b o e hc) u.tups u.frzs u.tbls (fun m' hm => by
    obtain ⟨o', es', ep', ho', r'⟩ := hm
    rw [ho] at ho'; cases ho'
    exact ⟨_, es', ep', hL, r'⟩) hok hg
theorem Inv.turned {t' : Nat} {it : Addr} (I : Inv X pins σ H s) (k : ∀ b o, b ≠ it → s.heap.get? b = some o → h'.get? b = some o) (hn : H it = none) (hL : it ≠ X.env.locals)
    (h1 : it ∈ X.ex ∨ X.s₀.heap.objs.size ≤ it) (h2 : ∀ x c, X.env.cells.lookup x = some c → c ≠ it) (h3 : ∀ p ∈ X.pn ++ pins, p.1 ≠ it) : Inv X pins σ H { s with heap := h', toks := t' } := by
  have nit : ∀ b u, H b = some u → b ≠ it := fun b u e z => by rw [z, hn] at e; cases e
  refine I.step (g' := s.gens) (d' := s.drawn) (ch := [it]) (fun b hb => ?_) (fun b o _ _ hc e _ => k b o (fun z => hc (by simp [z])) e) (fun b o _ _ hc e _ => ⟨o.slots, k b o (fun z => hc (by simp [z])) e⟩) (fun _ _ _ _ n => n)
    (fun b o hc e => ⟨o, k b o (fun z => hc (by simp [z])) e⟩) (fun _ _ e => e) (fun _ _ _ e => e) (fun b ps e => ⟨#[], by rw [e]; simp⟩) (fun m hm => ?_) (fun b u e => ?_) I.bare
  · have e : b = it := by simpa using hb
    subst e
    exact ⟨h1, hL, h2, h3⟩
  · obtain ⟨o, es, ep, ho, r⟩ := hm
    exact ⟨o, es, ep, k _ o (Ne.symm hL) ho, r⟩
  · refine (I.hok b u e).stay (fun c v hc q => k c v ?_ q) (fun _ q => q) fun _ _ q => q
    rcases hc with z | z
    · rw [z]; exact nit b u e
    · exact nit c _ z
theorem Inv.tok (I : Inv X pins σ H s) (t : Nat) : Inv X pins σ H { s with toks := t } := I.un (h' := s.heap) (t' := t) Un.refl I.hok
theorem Inv.kept {t' : Nat} (I : Inv X pins σ H s) (k : ∀ b u, s.heap.get? b = some u → h'.get? b = some u) : Inv X pins σ H { s with heap := h', toks := t' } := I.un (Un.kept k) (I.hok.kept k)
theorem Inv.laid {a : Addr} {o : HO} {t' : Nat} (I : Inv X pins σ H s) (k : ∀ b u, s.heap.get? b = some u → h'.get? b = some u) (hp : s.heap.objs.size ≤ a) (new : ObjOk X.prog X.w (upd H a o) h' a o) :
    Inv X pins σ (upd H a o) { s with heap := h', toks := t' } := I.un (Un.laid k hp (I.hok.fresh hp)) (I.hok.laid k hp new)
theorem Inv.write {x e : Addr} {o : HO} {t' : Nat} (I : Inv X pins σ H s) (mu : Mut (H x)) (he : e = x ∨ H e = some (.own x)) (k : ∀ b u, b ≠ e → s.heap.get? b = some u → h'.get? b = some u) (heo : ∃ u, h'.get? e = some u)
    (new : ObjOk X.prog X.w (upd H x o) h' x o) : Inv X pins σ (upd H x o) { s with heap := h', toks := t' } := I.un (Un.write mu he k heo) (I.hok.write mu he k heo new)
theorem Inv.pins_of {pins' : List (Addr × Obj)} (I : Inv X pins σ H s) (h : ∀ p ∈ pins', s.heap.get? p.1 = some p.2 ∧ H p.1 = none ∧ p.1 ≠ X.env.locals ∧ p.1 ∉ X.fs ∧ ∀ v, p.2.data ≠ .cell v) : Inv X pins' σ H s :=
  ⟨I.ok, I.os, I.bare, I.base, I.loc, I.cell, I.free, I.freeC, fun p hp => (List.mem_append.mp hp).elim (fun z => I.pin p (List.mem_append_left _ z)) (h p), I.hok, I.len⟩

theorem nodup_ix {N : List Str} (hN : N.Nodup) {i j : Nat} {x : Str} (a : N[i]? = some x) (b : N[j]? = some x) : i = j := by
  obtain ⟨h1, e1⟩ := List.getElem?_eq_some_iff.mp a
  obtain ⟨h2, e2⟩ := List.getElem?_eq_some_iff.mp b
  exact (List.getElem_inj hN).mp (e1.trans e2.symm)

theorem store_ok2 {M : Model} {A : Around} {E : Value → Shared → Prop} {i : Nat} {x : Str} {v : V} {u : Value} {Q : Unit → Shared → Prop} (I : Inv X pins σ H s) (hN : X.N.Nodup) (hi : X.N[i]? = some x) (hx : Loc X.env.scope x) (r : RelV v u)
    (h : ∀ s', Inv X pins (σ.set i (some v)) H s' → (∃ a, Heap.SameBut a s.heap s'.heap ∧ (a = X.env.locals ∨ X.env.cells.lookup x = some a)) → Q () s') (hf : X.fn x = true ∨ X.env.scope.names.lookup x = some .local := by first | exact .inl rfl | exact .inr rfl | assumption) : wpAny M A (storeName X.env x u) Q E s := by
  obtain ⟨m, hn, hl⟩ := id I.loc
  have hcls : (X.env.scope.kind == .class || (X.env.scope.kind == .module && X.env.locals != X.env.globals)) = false := by rw [I.ok.kind]; rfl
  have hiσ : i < σ.length := by rw [I.len]; exact (List.getElem?_eq_some_iff.mp hi).1
  have cne := I.cne
  have tracked : ∀ {a : Addr} {h' : Heap}, (∃ o, s.heap.get? a = some o ∧ H a = none) → Heap.SameBut a s.heap h' → HOk X.prog X.w H h' := fun {a h'} ha hs b ob e => by
    obtain ⟨_, _, hfree⟩ := ha
    refine (I.hok b ob e).stay (fun c w' hc q => (hs.2 c ?_).trans q) (fun _ q => q) fun _ _ q => q
    rintro rfl
    rcases hc with rfl | hc
    · rw [hfree] at e; cases e
    · rw [hfree] at hc; cases hc
  rcases hx with hk | hk
  · refine wpAny_storeName_local hk hn (fun h' hn' hs => ?_) hcls
    obtain ⟨oL, _, _, hoL, _⟩ := id hn
    refine h _ ⟨I.ok, I.os, I.bare, ⟨fun b o e n hb hx => ?_, fun b o e n hb hx => ?_, I.base.free, fun b o e hx => ?_, I.base.tups, I.base.frzs, I.base.tbls⟩, ⟨_, hn', fun j y v' e1 e2 e3 => ?_⟩, fun y c e => ?_, I.free, I.freeC, fun p hp => ?_, tracked ⟨oL, hoL, I.free⟩ hs, by simpa using I.len⟩ ⟨_, hs, .inl rfl⟩
    · exact (hs.2 b (Nat.ne_of_lt (Nat.lt_of_lt_of_le (Heap.lt_size e) I.ok.above))).trans (I.base.keep b o e n hb hx)
    · obtain ⟨sl, e1⟩ := I.base.slot b o e n hb hx
      exact ⟨sl, (hs.2 b (Nat.ne_of_lt (Nat.lt_of_lt_of_le (Heap.lt_size e) I.ok.above))).trans e1⟩
    · obtain ⟨o', e1⟩ := I.base.there b o e hx
      exact ⟨o', (hs.2 b (Nat.ne_of_lt (Nat.lt_of_lt_of_le (Heap.lt_size e) I.ok.above))).trans e1⟩
    · by_cases hj : j = i
      · subst hj
        rw [hi] at e1; cases e1
        rw [List.getElem?_set_self hiσ] at e2
        cases e2
        exact ⟨u, r, .inl ⟨hk, by simp⟩⟩
      · rw [List.getElem?_set_ne (Ne.symm hj)] at e2
        obtain ⟨u', r', q⟩ := hl j y v' e1 e2 e3
        refine ⟨u', r', ?_⟩
        rcases q with ⟨k, e⟩ | ⟨k, c, e, z⟩
        · refine .inl ⟨k, ?_⟩
          have : y ≠ x := fun e => hj (nodup_ix hN e1 (e ▸ hi))
          simp [this, e]
        · exact .inr ⟨k, c, e, z.sameBut hs (cne y c e)⟩
    · obtain ⟨w', z⟩ := I.cell y c e
      exact ⟨w', z.sameBut hs (cne y c e)⟩
    · obtain ⟨e, n, ne, nf, d⟩ := I.pin p hp
      exact ⟨(hs.2 p.1 ne).trans e, n, ne, nf, d⟩
  · have hfn : X.fn x = true := by
      rcases hf with z | z
      · exact z
      · rw [z] at hk; cases hk
    obtain ⟨c, hc⟩ := I.ok.has x (.inl hk)
    obtain ⟨w', z⟩ := I.cell x c hc
    refine wpAny_storeName_cell I.ok.kind hk hc z (fun h' hc' hs => ?_)
    obtain ⟨oc, hoc, hocd⟩ := id z
    refine h { s with heap := h' } ⟨I.ok, I.os, I.bare, ⟨fun b o e n hb hx => ?_, fun b o e n hb hx => ?_, I.base.free, fun b o e hx => ?_, I.base.tups, I.base.frzs, I.base.tbls⟩, ⟨m, hn.sameBut hs (Ne.symm (cne x c hc)), fun j y v' e1 e2 e3 => ?_⟩, fun y c' e => ?_, I.free, I.freeC, fun p hp => ?_, tracked ⟨oc, hoc, I.freeC x c hc⟩ hs, by simpa using I.len⟩ ⟨c, hs, .inr hc⟩
    · exact (hs.2 b (Nat.ne_of_lt (Nat.lt_of_lt_of_le (Heap.lt_size e) (I.ok.cab x c hfn hc)))).trans (I.base.keep b o e n hb hx)
    · obtain ⟨sl, e1⟩ := I.base.slot b o e n hb hx
      exact ⟨sl, (hs.2 b (Nat.ne_of_lt (Nat.lt_of_lt_of_le (Heap.lt_size e) (I.ok.cab x c hfn hc)))).trans e1⟩
    · obtain ⟨o', e1⟩ := I.base.there b o e hx
      exact ⟨o', (hs.2 b (Nat.ne_of_lt (Nat.lt_of_lt_of_le (Heap.lt_size e) (I.ok.cab x c hfn hc)))).trans e1⟩
    · by_cases hj : j = i
      · subst hj
        rw [hi] at e1; cases e1
        rw [List.getElem?_set_self hiσ] at e2
        cases e2
        exact ⟨u, r, .inr ⟨.inl hk, c, hc, hc'⟩⟩
      · rw [List.getElem?_set_ne (Ne.symm hj)] at e2
        obtain ⟨u', r', q⟩ := hl j y v' e1 e2 e3
        refine ⟨u', r', ?_⟩
        rcases q with q | ⟨k, c', e, z'⟩
        · exact .inl q
        · refine .inr ⟨k, c', e, z'.sameBut hs ?_⟩
          rintro rfl
          exact hj (nodup_ix hN e1 (I.ok.inj _ _ _ e hc ▸ hi))
    · by_cases hcc : c' = c
      · subst hcc; exact ⟨_, hc'⟩
      · obtain ⟨w2, z2⟩ := I.cell y c' e
        exact ⟨w2, z2.sameBut hs hcc⟩
    · obtain ⟨e, n, ne, nf, d⟩ := I.pin p hp
      refine ⟨(hs.2 p.1 ?_).trans e, n, ne, nf, d⟩
      intro q
      rw [q, hoc] at e
      have q' : oc = p.2 := Option.some.inj e
      exact d w' (by rw [← q']; exact hocd)
theorem store_ok {M : Model} {A : Around} {E : Value → Shared → Prop} {i : Nat} {x : Str} {v : V} {u : Value} {Q : Unit → Shared → Prop} (I : Inv X pins σ H s) (hN : X.N.Nodup) (hi : X.N[i]? = some x) (hx : Loc X.env.scope x) (r : RelV v u)
    (h : ∀ s', Inv X pins (σ.set i (some v)) H s' → Q () s') (hf : X.fn x = true ∨ X.env.scope.names.lookup x = some .local := by first | exact .inl rfl | exact .inr rfl | assumption) : wpAny M A (storeName X.env x u) Q E s :=
  store_ok2 I hN hi hx r (fun s' I' _ => h s' I') hf
theorem Inv.call' {s' : Shared} {ch : List Addr} (I : Inv X pins σ H s) (ho : s'.os = s.os) (u : Un (frs X.stack) ch H H' s.heap s'.heap) (hok : HOk X.prog X.w H' s'.heap) (hg : AllBare s'.gens)
    (hch : ∀ b ∈ ch, (b ∈ X.ex ∨ X.s₀.heap.objs.size ≤ b) ∧ b ≠ X.env.locals ∧ (∀ x c, X.env.cells.lookup x = some c → c ≠ b) ∧ ∀ p ∈ X.pn ++ pins, p.1 ≠ b) : Inv X pins σ H' s' := by
  obtain ⟨h', g', d', t', o'⟩ := s'
  have e : o' = s.os := ho
  subst e
  exact I.call (g' := g') (t' := t') (d' := d') u hok hg hch
end

abbrev XK := Value → Option Addr → Hp → Prop
abbrev St := List (Option V)
abbrev VK := V → Hp → Prop
abbrev TE := St → Hp → VK → Prop
abbrev TT := St → Hp → (Bool → Hp → Prop) → Prop
abbrev TA := St → Hp → (List V → Hp → Prop) → Prop
structure Ends where
  nx : St → Hp → Prop
  rt : VK
  bk : St → Hp → Prop := fun _ _ => False
  ct : St → Hp → Prop := fun _ _ => False
abbrev TS := Ends → St → Hp → Prop

def EP (X : Cx) (pins : List (Addr × Obj)) (σ : St) (Q : VK) (u : Value) (s' : Shared) : Prop := ∃ v H', Inv X pins σ H' s' ∧ RelV v u ∧ Q v H'
def TP (X : Cx) (pins : List (Addr × Obj)) (σ : St) (Q : Bool → Hp → Prop) (b : Bool) (s' : Shared) : Prop := ∃ H', Inv X pins σ H' s' ∧ Q b H'
def AP (X : Cx) (pins : List (Addr × Obj)) (σ : St) (Q : List V → Hp → Prop) (us : List Value) (s' : Shared) : Prop := ∃ vs H', Inv X pins σ H' s' ∧ Vals vs us ∧ Q vs H'
def SP (X : Cx) (pins : List (Addr × Obj)) (D : Ends) (f : Flow) (s' : Shared) : Prop :=
  match f with
  | .next => ∃ σ' H', Inv X pins σ' H' s' ∧ D.nx σ' H'
  | .brk => ∃ σ' H', Inv X pins σ' H' s' ∧ D.bk σ' H'
  | .cont => ∃ σ' H', Inv X pins σ' H' s' ∧ D.ct σ' H'
  | .ret u => ∃ v σ' H', Inv X pins σ' H' s' ∧ RelV v u ∧ D.rt v H'

def PE (X : Cx) (e : Expr) (t : TE) : Prop :=
  ∀ (pins : List (Addr × Obj)) (s : Shared) (σ : St) (H : Hp) (Q : VK), Inv X pins σ H s → t σ H Q → wpAny (model X.prog X.w) X.A (eval e X.env) (EP X pins σ Q) X.xe s
def PT (X : Cx) (e : Expr) (t : TT) : Prop :=
  ∀ (pins : List (Addr × Obj)) (s : Shared) (σ : St) (H : Hp) (Q : Bool → Hp → Prop), Inv X pins σ H s → t σ H Q → wpAny (model X.prog X.w) X.A (isTrue e X.env (eval e X.env)) (TP X pins σ Q) X.xe s
def PW (X : Cx) (e : Expr) (t : TT) : Prop :=
  ∀ (whole : Sem Value) (pins : List (Addr × Obj)) (s : Shared) (σ : St) (H : Hp) (Q : Bool → Hp → Prop), Inv X pins σ H s → t σ H Q → wpAny (model X.prog X.w) X.A (isTrue e X.env whole) (TP X pins σ Q) X.xe s
theorem PW.pt {X : Cx} {e : Expr} {t : TT} (h : PW X e t) : PT X e t := h _
def PA (X : Cx) (es : List Expr) (t : TA) : Prop :=
  ∀ (pos : Pos) (pins : List (Addr × Obj)) (s : Shared) (σ : St) (H : Hp) (Q : List V → Hp → Prop), Inv X pins σ H s → t σ H Q → wpAny (model X.prog X.w) X.A (spliced (backTo pos (starEach es X.env))) (AP X pins σ Q) X.xe s
def PS (X : Cx) (st : Stmt) (t : TS) : Prop :=
  ∀ (pins : List (Addr × Obj)) (s : Shared) (σ : St) (H : Hp) (D : Ends), Inv X pins σ H s → t D σ H → wpAny (model X.prog X.w) X.A (exec st X.env) (SP X pins D) X.xe s
def PSs (X : Cx) (st : List Stmt) (t : TS) : Prop :=
  ∀ (pins : List (Addr × Obj)) (s : Shared) (σ : St) (H : Hp) (D : Ends), Inv X pins σ H s → t D σ H → wpAny (model X.prog X.w) X.A (execs st X.env) (SP X pins D) X.xe s
theorem thn {α : Type} {t : Sem α} {Q Q' : α → Shared → Prop} {M : Model} {A : Around} {E : Value → Shared → Prop} {s : Shared} (h : wpAny M A t Q E s) (hQ : ∀ a s, Q a s → Q' a s) : wpAny M A t Q' E s := wpAny_mono h hQ fun _ _ x => x
end L2

namespace L2
open PySem PySem.Spec PyProof.Rows
section
variable {X : Cx}

def tVar (i : Nat) : TE := fun σ H Q => ∃ v, σ[i]? = some (some v) ∧ Q v H
def tC (v : V) : TE := fun _ H Q => Q v H
theorem pe_var {i : Nat} {x : Str} {pos : Pos} (hN : X.N[i]? = some x) (hv : Vis X.env.scope x) (hd : (x == ("__debug__" : Str)) = false := by decide) (hcd : (x == ("__classdict__" : Str)) = false := by decide) : PE X (.Name x pos) (tVar i) := by
  intro pins s σ H Q I h
  obtain ⟨v, e, h⟩ := h
  obtain ⟨m, hn, hl⟩ := I.loc
  obtain ⟨u, r, l⟩ := hl i x v hN e hv
  have fin : EP X pins σ Q u s := ⟨v, H, I, r, h⟩
  rcases l with ⟨hk, hm⟩ | ⟨hk, c, hc, hcell⟩
  · exact wpAny_Name (wpAny_loadName_local I.ok.kind hk hn hm fin) hd
  · rcases hk with hk | hk
    · exact wpAny_Name (wpAny_loadName_cell I.ok.kind hk hc hcell fin) hd
    · exact wpAny_Name (wpAny_loadName_free I.ok.kind hk hc hcell fin hcd) hd
theorem pe_int {i j pos} : PE X (.Constant (.int i) j pos) (tC (.int i)) := fun _ _ _ H _ I h => wpAny_Constant_int ⟨.int i, H, I.tok _, ⟨_, rfl⟩, h⟩
theorem pe_bl {b j pos} : PE X (.Constant (.bool b) j pos) (tC (.bl b)) := fun _ _ _ H _ I h => Constant_bool ⟨.bl b, H, I, rfl, h⟩
theorem pe_non {j pos} : PE X (.Constant .none j pos) (tC .non) := fun _ _ _ H _ I h => Constant_none ⟨.non, H, I, rfl, h⟩
theorem pe_str {x j pos} : PE X (.Constant (.str x) j pos) (tC (.str x)) := fun _ _ _ H _ I h => Calls.Constant_str ⟨.str x, H, I.tok _, ⟨_, rfl⟩, h⟩

def Gl (X : Cx) (x : Str) : Prop := X.env.kindOf x = some .globalImplicit
theorem ld_glob {E : Value → Shared → Prop} {pins : List (Addr × Obj)} {s : Shared} {σ : St} {H : Hp} {x : Str} {u : Value} {pos : Pos} {Q : Value → Shared → Prop} (I : Inv X pins σ H s) (hg : Gl X x) (hm : X.mg x = some u) (h : Q u s)
    (hd : (x == ("__debug__" : Str)) = false := by decide) : wpAny (model X.prog X.w) X.A (eval (.Name x pos) X.env) Q E s :=
  Calls.Name_function_global I.ok.kind hg (Calls.loadGlobal_global (by rw [I.ok.glob]; exact I.mod.glob.keeps I.bk) hm h) hd
theorem ld_blt {E : Value → Shared → Prop} {pins : List (Addr × Obj)} {s : Shared} {σ : St} {H : Hp} {x : Str} {u : Value} {pos : Pos} {Q : Value → Shared → Prop} (I : Inv X pins σ H s) (hg : Gl X x) (hm : X.mg x = none) (hv : bootBuiltins x = some u) (h : Q u s)
    (hn : x ≠ "__name__" := by decide) (hd : (x == ("__debug__" : Str)) = false := by decide) : wpAny (model X.prog X.w) X.A (eval (.Name x pos) X.env) Q E s := by
  obtain ⟨mb, h1, h2⟩ := I.mod.blt
  exact Calls.Name_function_global I.ok.kind hg (Calls.loadGlobal_builtin (by rw [I.ok.glob]; exact I.mod.glob.keeps I.bk) hm (by rw [I.ok.blt]; exact h1.keeps I.bk) ((h2 x hn).trans hv) h) hd
theorem pe_glob {x : Str} {v : V} {u : Value} {pos : Pos} (hg : Gl X x) (hm : X.mg x = some u) (r : RelV v u) (hd : (x == ("__debug__" : Str)) = false := by decide) : PE X (.Name x pos) (tC v) :=
  fun _ _ _ H _ I h => ld_glob I hg hm ⟨v, H, I, r, h⟩ hd
theorem pe_bltn {x : Str} {v : V} {u : Value} {pos : Pos} (hg : Gl X x) (hm : X.mg x = none) (hv : bootBuiltins x = some u) (r : RelV v u) (hn : x ≠ "__name__" := by decide) (hd : (x == ("__debug__" : Str)) = false := by decide) : PE X (.Name x pos) (tC v) :=
  fun _ _ _ H _ I h => ld_blt I hg hm hv ⟨v, H, I, r, h⟩ hn hd

variable {a b : Expr} {ta tb : TE} {pos : Pos}
def PC (X : Cx) (op : CmpOp) (a b : Expr) (t : TE) : Prop :=
  ∀ (pins : List (Addr × Obj)) (s : Shared) (σ : St) (H : Hp) (Q : VK), Inv X pins σ H s → t σ H Q →
    wpAny (model X.prog X.w) X.A (eval a X.env) (fun v s₁ => wpAny (model X.prog X.w) X.A (eval b X.env) (fun u s₂ => wpAny (model X.prog X.w) X.A (compareOp op v u) (EP X pins σ Q) X.xe s₂) X.xe s₁) X.xe s
theorem nobehind (b : Expr) {op : CmpOp} (h : op ≠ .In) (h2 : op ≠ .NotIn) : behindInMarks op b = false := by
  have e1 : (op == CmpOp.In) = false := by cases op <;> first | rfl | exact absurd rfl h
  have e2 : (op == CmpOp.NotIn) = false := by cases op <;> first | rfl | exact absurd rfl h2
  cases b <;> simp [behindInMarks, e1, e2]
def tIsN (ta : TE) : TE := fun σ H Q => ta σ H fun x H1 => Q (.bl (decide (x = .non))) H1
def tNotN (ta : TE) : TE := fun σ H Q => ta σ H fun x H1 => Q (.bl (!decide (x = .non))) H1
theorem RelV.none_iff {x : V} {v : Value} (r : RelV x v) : (v == Value.none) = decide (x = .non) := by
  cases x with
  | non => cases r; rfl
  | bl _ => cases r; rfl
  | int _ => obtain ⟨t, rfl⟩ := r; rfl
  | str _ => obtain ⟨t, rfl⟩ := r; rfl
  | byt _ => obtain ⟨t, rfl⟩ := r; rfl
  | flt _ => obtain ⟨t, rfl⟩ := r; rfl
  | ref _ => cases r; rfl
  | ty _ => cases r; rfl
theorem pc_notN {j pos'} (ha : PE X a ta) : PC X .IsNot a (.Constant .none j pos') (tNotN ta) := by
  intro pins s σ H Q I h
  refine thn (ha pins s σ H _ I h) fun v s1 ⟨x, H1, I1, r1, q1⟩ => ?_
  exact Constant_none (isnot_none_gen ⟨.bl _, H1, I1, by rw [r1.none_iff]; rfl, q1⟩)
def tB (t : TE) : TT := fun σ H Q => t σ H fun x H1 => ∃ c, x = .bl c ∧ Q c H1
theorem pt_cmp {op : CmpOp} {t : TE} (h : PC X op a b t) (h1 : behindInMarks op b = false := by first | exact nobehind _ (by decide) (by decide) | rfl) : PT X (.Compare a [op] [b] pos) (tB t) := by
  intro pins s σ H Q I hw
  refine wpAny_isTrue_Compare1 (thn (h pins s σ H _ I hw) fun v s1 h1 => thn h1 fun u s2 h2 => thn h2 fun c s3 ⟨x, H1, I1, r1, q1⟩ => ?_) h1
  obtain ⟨d, rfl, q⟩ := q1
  cases r1
  exact wpAny_truthy_bool ⟨H1, I1, q⟩
theorem pt_val {e : Expr} {t : TE} (h : PE X e t) (he : ∀ whole, isTrue e X.env whole = (do let v ← whole; standAt e.pos; holding [v] (truthy v)) := by intro _; rfl) : PT X e (tB t) := by
  intro pins s σ H Q I hw
  refine isTrue_plain (thn (h pins s σ H _ I hw) fun v s1 ⟨x, H1, I1, r1, q1⟩ => ?_) (he _)
  obtain ⟨d, rfl, q⟩ := q1
  cases r1
  exact wpAny_truthy_bool ⟨H1, I1, q⟩

variable {tA tB' : TT} {rest : List Expr}
def tAnd (t u : TT) : TT := fun σ H Q => t σ H fun c H1 => if c = true then u σ H1 Q else Q false H1
def tOr (t u : TT) : TT := fun σ H Q => t σ H fun c H1 => if c = true then Q true H1 else u σ H1 Q
def tNot (t : TT) : TT := fun σ H Q => t σ H fun c H1 => Q (!c) H1
theorem pw_and1 (ha : PT X a tA) : PW X (.BoolOp .And [a] pos) tA := by
  intro wh pins s σ H Q I h
  refine isTrue_and (thn (ha pins s σ H Q I h) fun c s1 e => ?_)
  cases c with
  | true => exact isTrue_and_nil e
  | false => exact e
theorem pw_or1 (ha : PT X a tA) : PW X (.BoolOp .Or [a] pos) tA := by
  intro wh pins s σ H Q I h
  refine isTrue_or (thn (ha pins s σ H Q I h) fun c s1 e => ?_)
  cases c with
  | false => exact isTrue_or_nil e
  | true => exact e
theorem pw_and (ha : PT X a tA) (hb : PW X (.BoolOp .And (b :: rest) pos) tB') : PW X (.BoolOp .And (a :: b :: rest) pos) (tAnd tA tB') := by
  intro wh pins s σ H Q I h
  refine isTrue_and (thn (ha pins s σ H _ I h) fun c s1 ⟨H1, I1, q1⟩ => ?_)
  cases c with
  | true => exact hb wh pins s1 σ H1 Q I1 q1
  | false => exact ⟨H1, I1, q1⟩
theorem pw_or (ha : PT X a tA) (hb : PW X (.BoolOp .Or (b :: rest) pos) tB') : PW X (.BoolOp .Or (a :: b :: rest) pos) (tOr tA tB') := by
  intro wh pins s σ H Q I h
  refine isTrue_or (thn (ha pins s σ H _ I h) fun c s1 ⟨H1, I1, q1⟩ => ?_)
  cases c with
  | true => exact ⟨H1, I1, q1⟩
  | false => exact hb wh pins s1 σ H1 Q I1 q1
theorem pt_not (ha : PT X a tA) : PT X (.UnaryOp .Not a pos) (tNot tA) := by
  intro pins s σ H Q I h
  exact isTrue_not (ha pins s σ H (fun c H1 => Q (!c) H1) I h)
def tAndV (ta tb : TE) : TE := fun σ H Q => ta σ H fun x H1 => ∃ c, x = .bl c ∧ if c = true then tb σ H1 Q else Q (.bl false) H1
def tOrV (ta tb : TE) : TE := fun σ H Q => ta σ H fun x H1 => ∃ c, x = .bl c ∧ if c = true then Q (.bl true) H1 else tb σ H1 Q
def tNotV (ta : TE) : TE := fun σ H Q => ta σ H fun x H1 => ∃ c, x = .bl c ∧ Q (.bl (!c)) H1
theorem pe_one {op} {t : TE} (h : PE X a t) : PE X (.BoolOp op [a] pos) t := fun pins s σ H Q I hw => BoolOp_one (h pins s σ H Q I hw)
theorem pe_and (ha : PE X a ta) (hb : PE X (.BoolOp .And (b :: rest) pos) tb) : PE X (.BoolOp .And (a :: b :: rest) pos) (tAndV ta tb) := by
  intro pins s σ H Q I h
  refine BoolOp_and (thn (ha pins s σ H _ I h) fun v s1 ⟨x, H1, I1, r1, q1⟩ => ?_)
  obtain ⟨c, rfl, q1⟩ := q1
  cases r1
  refine wpAny_truthy_bool ?_
  cases c with
  | true => exact hb pins s1 σ H1 Q I1 q1
  | false => exact ⟨.bl false, H1, I1, rfl, q1⟩
def tIf (t : TT) (ta tb : TE) : TE := fun σ H Q => t σ H fun c H1 => if c = true then ta σ H1 Q else tb σ H1 Q
end
end L2

namespace L2
open PySem PySem.Spec PyProof.Rows

def SqL (K : PySem.W.Frag) (H : Hp) (a : Addr) (xs : List V) : Prop :=
  Rd H a (.lst xs) ∨
    ∃ (o : Obj) (its : Array Value) (n : Nat), K.lookup a = some o ∧ o.cls = .type "list" ∧ o.dict = none ∧ o.data = .seq its n ∧ its.size ≤ sizeLine ∧ Vals xs its.toList
def SqT (K : PySem.W.Frag) (H : Hp) (a : Addr) (xs : List V) : Prop :=
  Rd H a (.tup xs) ∨
    ∃ (o : Obj) (its : Array Value) (n : Nat), K.lookup a = some o ∧ o.cls = .type "tuple" ∧ o.data = .seq its n ∧ its.size ≤ sizeLine ∧ Vals xs its.toList
def absV : Value → Option V
  | .none => some .non
  | .bool b => some (.bl b)
  | .int i _ => some (.int i)
  | .str x _ => some (.str x)
  | .bytes b _ => some (.byt b)
  | .float b _ => some (.flt b)
  | .ref a => some (.ref a)
  | .type n => some (.ty n)
  | _ => none
theorem RelV.abs {x : V} {u : Value} (r : RelV x u) : absV u = some x := by
  cases x with
  | non => cases r; rfl
  | bl _ => cases r; rfl
  | int _ => obtain ⟨t, rfl⟩ := r; rfl
  | str _ => obtain ⟨t, rfl⟩ := r; rfl
  | byt _ => obtain ⟨t, rfl⟩ := r; rfl
  | flt _ => obtain ⟨t, rfl⟩ := r; rfl
  | ref _ => cases r; rfl
  | ty _ => cases r; rfl
theorem RelV.inj {x y : V} {u : Value} (r : RelV x u) (q : RelV y u) : x = y := Option.some.inj (r.abs.symm.trans q.abs)
theorem Vals.inj : ∀ {xs ys : List V} {us : List Value}, Vals xs us → Vals ys us → xs = ys
  | _, _, _, .nil, .nil => rfl
  | _, _, _, .cons r t, .cons r' t' => by rw [r.inj r', Vals.inj t t']
section
variable {X : Cx} {pins : List (Addr × Obj)} {σ : St} {H : Hp} {s : Shared} {a : Addr} {xs ys : List V}
theorem SqL.of {K : PySem.W.Frag} (h : H a = some (.lst xs)) : SqL K H a xs := .inl (.inl h)
theorem SqT.of {K : PySem.W.Frag} (h : H a = some (.tup xs)) : SqT K H a xs := .inl (.inl h)
theorem Inv.list (I : Inv X pins σ H s) (h : SqL X.K H a xs) : ∃ its : List Value, Vals xs its ∧ PlainL s.heap a its.toArray ∧ xs.length ≤ sizeLine := by
  rcases h with h | ⟨o, its, n, hk, hc, hd, hs, hz, r⟩
  · obtain ⟨z, its, n, r, e⟩ := h.ok I.hok
    exact ⟨its, r, ⟨_, n, e, rfl, rfl, rfl⟩, z⟩
  · refine ⟨its.toList, r, ⟨o, n, I.kIn a o hk, hc, hd, by simpa using hs⟩, ?_⟩
    have e := r.length
    simp only [Array.length_toList] at e
    omega
theorem Inv.tuple (I : Inv X pins σ H s) (h : SqT X.K H a xs) : ∃ its : List Value, Vals xs its ∧ IsTup s.heap a its.toArray ∧ xs.length ≤ sizeLine := by
  rcases h with h | ⟨o, its, n, hk, hc, hs, hz, r⟩
  · obtain ⟨z, its, r, p⟩ := h.ok I.hok
    exact ⟨its, r, p, z⟩
  · refine ⟨its.toList, r, ⟨o, I.kIn a o hk, hc, n, by simpa using hs⟩, ?_⟩
    have e := r.length
    simp only [Array.length_toList] at e
    omega
theorem Inv.list_inj (I : Inv X pins σ H s) (h : SqL X.K H a xs) (h' : SqL X.K H a ys) : xs = ys := by
  obtain ⟨its, r, ⟨o, n, e, _, _, d⟩, _⟩ := I.list h
  obtain ⟨its', r', ⟨o', n', e', _, _, d'⟩, _⟩ := I.list h'
  rw [e] at e'; cases e'
  rw [d] at d'
  injection d' with d1 _
  have : its = its' := by simpa using congrArg Array.toList d1
  subst this
  exact r.inj r'
theorem Inv.tuple_inj (I : Inv X pins σ H s) (h : SqT X.K H a xs) (h' : SqT X.K H a ys) : xs = ys := by
  obtain ⟨its, r, ⟨o, e, _, n, d⟩, _⟩ := I.tuple h
  obtain ⟨its', r', ⟨o', e', _, n', d'⟩, _⟩ := I.tuple h'
  rw [e] at e'; cases e'
  rw [d] at d'
  injection d' with d1 _
  have : its = its' := by simpa using congrArg Array.toList d1
  subst this
  exact r.inj r'
end

abbrev Cx.wish (X : Cx) (E : Value → Shared → Prop) : Cx := { X with xe := E }
abbrev Cx.nox (X : Cx) : Cx := X.wish fun _ _ => False
theorem Cx.Ok.wish {X : Cx} (ok : X.Ok) (E : Value → Shared → Prop) : (X.wish E).Ok :=
  ⟨ok.mod, ok.kind, ok.glob, ok.blt, ok.above, ok.inj, ok.has, ok.cab, ok.hd, ok.frames, ok.stk, ok.exf, ok.bs, ok.bsz, ok.noex, ok.exfs, ok.funs, ok.frf⟩
theorem Cx.Ok.unwish {X : Cx} {E : Value → Shared → Prop} (ok : (X.wish E).Ok) : X.Ok :=
  ⟨ok.mod, ok.kind, ok.glob, ok.blt, ok.above, ok.inj, ok.has, ok.cab, ok.hd, ok.frames, ok.stk, ok.exf, ok.bs, ok.bsz, ok.noex, ok.exfs, ok.funs, ok.frf⟩
section
variable {X : Cx} {pins : List (Addr × Obj)} {σ : St} {H : Hp} {s : Shared} {E : Value → Shared → Prop}
theorem Inv.wish (I : Inv X pins σ H s) (E : Value → Shared → Prop) : Inv (X.wish E) pins σ H s := ⟨I.ok.wish E, I.os, I.bare, I.base, I.loc, I.cell, I.free, I.freeC, I.pin, I.hok, I.len⟩
theorem Inv.unwish (I : Inv (X.wish E) pins σ H s) : Inv X pins σ H s := ⟨I.ok.unwish, I.os, I.bare, I.base, I.loc, I.cell, I.free, I.freeC, I.pin, I.hok, I.len⟩
theorem SP.unwish {D : Ends} {f : Flow} {s' : Shared} (h : SP (X.wish E) pins D f s') : SP X pins D f s' := by
  cases f with
  | next => obtain ⟨σ', H', I, q⟩ := h; exact ⟨σ', H', I.unwish, q⟩
  | brk => obtain ⟨σ', H', I, q⟩ := h; exact ⟨σ', H', I.unwish, q⟩
  | cont => obtain ⟨σ', H', I, q⟩ := h; exact ⟨σ', H', I.unwish, q⟩
  | ret u => obtain ⟨v, σ', H', I, r, q⟩ := h; exact ⟨v, σ', H', I.unwish, r, q⟩
theorem PE.nox {e : Expr} {t : TE} (h : PE X.nox e t) : PE X e t := fun pins s σ H Q I hw =>
  wpAny_mono (h pins s σ H Q (I.wish _) hw) (fun _ _ ⟨v, H', I', r, q⟩ => ⟨v, H', I'.unwish, r, q⟩) fun _ _ z => False.elim z
theorem PT.nox {e : Expr} {t : TT} (h : PT X.nox e t) : PT X e t := fun pins s σ H Q I hw =>
  wpAny_mono (h pins s σ H Q (I.wish _) hw) (fun _ _ ⟨H', I', q⟩ => ⟨H', I'.unwish, q⟩) fun _ _ z => False.elim z
theorem PSs.nox {st : List Stmt} {t : TS} (h : PSs X.nox st t) : PSs X st t := fun pins s σ H D I hw =>
  wpAny_mono (h pins s σ H D (I.wish _) hw) (fun _ _ q => q.unwish) fun _ _ z => False.elim z
end

section
variable {X : Cx} {st : Stmt} {rest : List Stmt} {t u : TS} {e : Expr} {te : TE} {pos : Pos}
def tNext : TS := fun D σ H => D.nx σ H
def tSeq (t u : TS) : TS := fun D σ H => t { D with nx := u D } σ H
theorem pss_nil : PSs X [] tNext := fun _ _ σ H _ I h => wpAny_execs_nil ⟨σ, H, I, h⟩
theorem pss_cons (h1 : PS X st t) (h2 : PSs X rest u) : PSs X (st :: rest) (tSeq t u) := by
  intro pins s σ H D I h
  refine wpAny_execs_cons (thn (h1 pins s σ H { D with nx := u D } I h) fun f s1 q => ?_)
  cases f with
  | next =>
    obtain ⟨σ', H', I', q⟩ := q
    exact h2 pins s1 σ' H' D I' q
  | ret v => exact q
  | brk => exact q
  | cont => exact q
theorem pss_one (h1 : PS X st t) : PSs X [st] t := by
  intro pins s σ H D I h
  refine wpAny_execs_cons (thn (h1 pins s σ H D I h) fun f s1 q => ?_)
  cases f with
  | next => exact wpAny_execs_nil q
  | ret v => exact q
  | brk => exact q
  | cont => exact q
theorem Inv.quiet {pins : List (Addr × Obj)} {σ : St} {H : Hp} {s : Shared} (I : Inv X pins σ H s) : interactive X.env = false := by simp [interactive, I.ok.kind]
def tDrop (te : TE) : TS := fun D σ H => te σ H fun _ H1 => D.nx σ H1
theorem ps_expr (he : PE X e te) (hs : swapsWith e none pos.line X.env = pure false := by rfl) : PS X (.Expr e pos) (tDrop te) := by
  intro pins s σ H D I h
  exact wpAny_Expr_any (thn (he pins s σ H _ I h) fun v s1 ⟨x, H1, I1, r1, q1⟩ => ⟨σ, H1, I1, q1⟩) I.quiet hs
def tRet (te : TE) : TS := fun D σ H => te σ H D.rt
theorem ps_ret (he : PE X e te) : PS X (.Return (some e) pos) (tRet te) := by
  intro pins s σ H D I h
  exact wpAny_Return_some (thn (he pins s σ H _ I h) fun v s1 ⟨x, H1, I1, r1, q1⟩ => ⟨x, σ, H1, I1, r1, q1⟩)
def tRetN : TS := fun D _ H => D.rt .non H
def tIfS (c : TT) (t u : TS) : TS := fun D σ H => c σ H fun b H1 => if b = true then t D σ H1 else u D σ H1
theorem ps_if {c : Expr} {a b : List Stmt} {tc : TT} (hc : PT X c tc) (ha : PSs X a t) (hb : PSs X b u) : PS X (.If c a b pos) (tIfS tc t u) := by
  intro pins s σ H D I h
  refine wpAny_If (thn (hc pins s σ H _ I h) fun d s1 ⟨H1, I1, q1⟩ => ?_)
  cases d with
  | true => exact ha pins s1 σ H1 D I1 q1
  | false => exact hb pins s1 σ H1 D I1 q1
end

abbrev TG := V → St → Hp → (St → Hp → Prop) → Prop
abbrev TGs := List V → St → Hp → (St → Hp → Prop) → Prop
def PG (X : Cx) (target : Expr) (t : TG) : Prop :=
  ∀ (pins : List (Addr × Obj)) (s : Shared) (σ : St) (H : Hp) (v : V) (u : Value) (Q : St → Hp → Prop), Inv X pins σ H s → RelV v u → t v σ H Q →
    wpAny (model X.prog X.w) X.A (assign target X.env u) (fun _ s' => ∃ σ' H', Inv X pins σ' H' s' ∧ Q σ' H') X.xe s
def PGs (X : Cx) (ts : List Expr) (t : TGs) : Prop :=
  ∀ (pins : List (Addr × Obj)) (s : Shared) (σ : St) (H : Hp) (vs : List V) (us : List Value) (Q : St → Hp → Prop), Inv X pins σ H s → Vals vs us → t vs σ H Q →
    wpAny (model X.prog X.w) X.A (assignInOrder ((assignEach ts X.env).map (·.2)) us) (fun _ s' => ∃ σ' H', Inv X pins σ' H' s' ∧ Q σ' H') X.xe s
abbrev TSet := V → V → V → Hp → (Hp → Prop) → Prop
abbrev TIp := V → V → Hp → VK → Prop
section
variable {X : Cx} {pos : Pos}
def gName (i : Nat) : TG := fun v σ H Q => Q (σ.set i (some v)) H
theorem pg_name {i : Nat} {x : Str} (hN : X.N.Nodup) (hi : X.N[i]? = some x) (hx : Loc X.env.scope x) (hf : X.fn x = true ∨ X.env.scope.names.lookup x = some .local := by first | exact .inl rfl | exact .inr rfl | assumption) : PG X (.Name x pos) (gName i) := by
  intro pins s σ H v u Q I r h
  exact wpAny_assign_Name (store_ok I hN hi hx r (fun s' I' => ⟨_, H, I', h⟩) hf)
def gNil : TGs := fun vs σ H Q => vs = [] ∧ Q σ H
def gCons (t : TG) (u : TGs) : TGs := fun vs σ H Q => ∃ v r, vs = v :: r ∧ t v σ H fun σ' H' => u r σ' H' Q
theorem pgs_nil : PGs X [] gNil := by
  intro pins s σ H vs us Q I r h
  obtain ⟨e, h⟩ := h
  subst e
  cases r
  exact assignInOrder_nil ⟨σ, H, I, h⟩
theorem pgs_cons {e : Expr} {es : List Expr} {t : TG} {u : TGs} (h1 : PG X e t) (h2 : PGs X es u)
    (hs : (assignEach (e :: es) X.env).map (·.2) = assign e X.env :: (assignEach es X.env).map (·.2) := by rfl) : PGs X (e :: es) (gCons t u) := by
  intro pins s σ H vs us Q I r h
  obtain ⟨v, vr, e1, h⟩ := h
  subst e1
  cases r with
  | cons r rr =>
    rw [hs]
    refine assignInOrder_cons (thn (h1 pins s σ H _ _ _ I r h) fun _ s1 ⟨σ1, H1, I1, q1⟩ => ?_)
    exact h2 pins s1 σ1 H1 _ _ Q I1 rr q1
def gTup (K : PySem.W.Frag) (n : Nat) (t : TGs) : TG := fun v σ H Q => ∃ a xs, v = .ref a ∧ SqT K H a xs ∧ xs.length = n ∧ t xs σ H Q
theorem pg_tup {es : List Expr} {k : Nat} {t : TGs} {n : Nat} (hc : X.calm = true) (h : PGs X es t)
    (hn : (assignEach es X.env).length = n := by rfl) (hst : (assignEach es X.env).findIdx? (·.1) = none := by rfl) : PG X (.Tuple es k pos) (gTup X.K n t) := by
  intro pins s σ H v u Q I r hw
  obtain ⟨a, xs, e1, hq, hl, hw⟩ := hw
  subst e1
  cases r
  obtain ⟨its, rv, ht, hz⟩ := I.tuple hq
  refine assign_Tuple_tuple (I.ok.hd hc) ht (by simp [hn, ← hl, rv.length]) hst fun h' hx => ?_
  have I1 : Inv X pins σ H { s with heap := h' } := I.kept (t' := s.toks) fun b o e => hx b o (Nat.ne_of_lt (Heap.lt_size e)) e
  exact h pins _ σ H xs _ Q I1 (by simpa using rv) hw
def gSub (to ti : TE) (t : TSet) : TG := fun v σ H Q => to σ H fun o H1 => ti σ H1 fun i H2 => t o i v H2 fun H3 => Q σ H3
def tAsg (te : TE) (g : TG) : TS := fun D σ H => te σ H fun x H1 => g x σ H1 D.nx
theorem ps_asg {tg e : Expr} {te : TE} {g : TG} (he : PE X e te) (hg : PG X tg g) (hs : swapsWithSole [tg] e pos.line X.env = pure false := by rfl) (hw : swappedStores [tg] e X.env = pure none := by rfl)
    (h1 : (assignEach [tg] X.env).map (·.2) = [assign tg X.env] := by rfl) : PS X (.Assign [tg] e pos) (tAsg te g) := by
  intro pins s σ H D I h
  refine wpAny_Assign_stores (thn (he pins s σ H _ I h) fun v s1 ⟨x, H1, I1, r1, q1⟩ => ?_) hs hw
  rw [h1]
  exact thn (hg pins s1 σ H1 x v _ I1 r1 q1) fun _ s2 q => q
theorem ps_set {i : Nat} {x : Str} {e : Expr} {te : TE} {pos' : Pos} (hN : X.N.Nodup) (hi : X.N[i]? = some x) (hx : Loc X.env.scope x) (he : PE X e te) (hs : swapsWith e (some (.Name x pos')) pos.line X.env = pure false := by rfl) (hf : X.fn x = true ∨ X.env.scope.names.lookup x = some .local := by first | exact .inl rfl | exact .inr rfl | assumption) :
    PS X (.Assign [.Name x pos'] e pos) (tAsg te (gName i)) := by
  intro pins s σ H D I h
  refine wpAny_Assign_Name (thn (he pins s σ H _ I h) fun v s1 ⟨y, H1, I1, r1, q1⟩ => ?_) hs
  exact store_ok I1 hN hi hx r1 (fun s2 I2 => ⟨_, H1, I2, q1⟩) hf
def tAugS (to ti te : TE) (tget : V → V → Hp → VK → Prop) (tip : TIp) (tset : TSet) : TS := fun D σ H => to σ H fun o H1 => ti σ H1 fun i H2 => tget o i H2 fun x H3 => te σ H3 fun y H4 => tip x y H4 fun z H5 => tset o i z H5 fun H6 => D.nx σ H6
def ipI (f : Int → Int → Int) : TIp := fun x y H Q => ∃ i j, x = .int i ∧ y = .int j ∧ Q (.int (f i j)) H
end

section
variable {X : Cx} {pos : Pos}
end

structure It where
  go : Nat → Hp → Prop
  yld : Nat → Hp → V → Hp → Prop
  stop : Nat → Hp → Prop
def FpOk (X : Cx) (pins : List (Addr × Obj)) (H : Hp) (b : Addr) : Prop :=
  H b = none ∧ b ≠ X.env.locals ∧ b ∉ X.fs ∧ (b ∈ X.ex ∨ X.s₀.heap.objs.size ≤ b) ∧ (∀ x c, X.env.cells.lookup x = some c → c ≠ b) ∧ ∀ p ∈ X.pn ++ pins, p.1 ≠ b
theorem Inv.fpOk {X : Cx} {pins : List (Addr × Obj)} {σ : St} {H H' : Hp} {s : Shared} {b : Addr} (I : Inv X pins σ H s) (hb : s.heap.objs.size ≤ b) (hn : H' b = none) : FpOk X pins H' b := by
  refine ⟨hn, Nat.ne_of_gt (Nat.lt_of_lt_of_le I.lt hb), I.nofs hb, .inr (Nat.le_trans I.sz hb), fun x c e z => ?_, fun p hp z => ?_⟩
  · obtain ⟨v, q⟩ := I.cell x c e
    exact absurd (Nat.lt_of_lt_of_le q.lt (by rw [z]; exact hb)) (Nat.lt_irrefl _)
  · exact absurd (Nat.lt_of_lt_of_le (Heap.lt_size (I.pin p hp).1) (by rw [z]; exact hb)) (Nat.lt_irrefl _)
structure Turn (P : Program) (w : World) (K : PySem.W.Frag) (tg : Expr) (J : It) (fp : List Addr) (it : Addr) (tn : Nat → Heap → Prop) : Prop where
  mem : it ∈ fp
  obj : ∀ i h, tn i h → ∀ b ∈ fp, ∃ o, h.get? b = some o ∧ ∀ v, o.data ≠ .cell v
  keep : ∀ i h h', tn i h → (∀ b ∈ fp, ∀ o, h.get? b = some o → h'.get? b = some o) → tn i h'
  item : ∀ (X : Cx), X.prog = P → X.w = w → X.K = K → X.calm = true → ∀ (i : Nat) (pins : List (Addr × Obj)) (s : Shared) (σ : St) (H : Hp) (E : Value → Shared → Prop), Inv X pins σ H s → (∀ b ∈ fp, FpOk X pins H b) → tn i s.heap → J.go i H →
    wpAny (model P w) X.A (pyNext (.ref it)) (fun r s1 => ∃ u, r = some u ∧
      wpAny (model P w) X.A (letOwnedTupleGo tg (.ref it) u) (fun _ s2 => ∃ x H', Inv X pins σ H' s2 ∧ RelV x u ∧ J.yld i H x H' ∧ tn (i + 1) s2.heap ∧ ∀ b ∈ fp, H' b = none) E s1) E s
  done : ∀ (X : Cx), X.prog = P → X.w = w → X.K = K → X.calm = true → ∀ (i : Nat) (pins : List (Addr × Obj)) (s : Shared) (σ : St) (H : Hp) (E : Value → Shared → Prop), Inv X pins σ H s → (∀ b ∈ fp, FpOk X pins H b) → tn i s.heap → J.stop i H →
    wpAny (model P w) X.A (pyNext (.ref it)) (fun r s1 => r = none ∧ Inv X pins σ H s1) E s
  self : ∀ (A : Around) (i : Nat) (s : Shared) (Q : Value → Shared → Prop) (E : Value → Shared → Prop), tn i s.heap → Q (.ref it) s → wpAny (model P w) A (pyIter (.ref it)) Q E s
abbrev TI := St → Hp → (It → Hp → Prop) → Prop
def PIE (X : Cx) (pins : List (Addr × Obj)) (σ : St) (tg : Expr) (R : It → Hp → Prop) (itv : Value) (s2 : Shared) : Prop :=
  ∃ (it : Addr) (fp : List Addr) (tn : Nat → Heap → Prop) (J : It) (H' : Hp), itv = .ref it ∧ Inv X pins σ H' s2 ∧ Turn X.prog X.w X.K tg J fp it tn ∧ tn 0 s2.heap ∧ (∀ b ∈ fp, FpOk X pins H' b) ∧ R J H'
def PI (X : Cx) (tg iter : Expr) (wi : TI) : Prop :=
  ∀ (pins : List (Addr × Obj)) (s : Shared) (σ : St) (H : Hp) (R : It → Hp → Prop), Inv X pins σ H s → wi σ H R →
    wpAny (model X.prog X.w) X.A (eval iter X.env) (fun v s1 => wpAny (model X.prog X.w) X.A (pyIter v) (PIE X pins σ tg R) X.xe s1) X.xe s

theorem go_of {M : Model} {A : Around} {E : Value → Shared → Prop} {s : Shared} {tg : Expr} {it : Addr} {u : Value} {o : Obj} {n : String} {vs : Array Value} {Q : Unit → Shared → Prop} (ho : s.heap.get? it = some o) (hc : o.cls = .type n) (hd : o.data = .fields vs)
    (hn : ["enumerate", "zip", "dict_itemiterator", "dict_reverseitemiterator", "odict_iterator", "itertools.zip_longest", "itertools.pairwise"].contains n = false) (hQ : Q () s) : wpAny M A (letOwnedTupleGo tg (.ref it) u) Q E s := by
  unfold letOwnedTupleGo
  cases tg <;> first
    | exact wpAny_pure hQ
    | (cases u <;> first
        | exact wpAny_pure hQ
        | (refine wpAny_bind (wpAny_load ho ?_)
           rw [hc, hd]
           show wpAny M A (if (["enumerate", "zip", "dict_itemiterator", "dict_reverseitemiterator", "odict_iterator", "itertools.zip_longest", "itertools.pairwise"].contains n && vs[0]? == some (rawInt _)) = true then _ else _) Q E s
           rw [if_neg (by intro h; rw [hn, Bool.false_and] at h; cases h)]
           exact wpAny_pure hQ))

def Itl (K : PySem.W.Frag) (a : Addr) : It :=
  ⟨fun i H => ∃ xs x, SqL K H a xs ∧ xs[i]? = some x, fun i H x H' => H' = H ∧ ∀ xs, SqL K H a xs → xs[i]? = some x, fun i H => ∃ xs, SqL K H a xs ∧ xs.length ≤ i⟩
def Itt (K : PySem.W.Frag) (a : Addr) : It :=
  ⟨fun i H => ∃ xs x, SqT K H a xs ∧ xs[i]? = some x, fun i H x H' => H' = H ∧ ∀ xs, SqT K H a xs → xs[i]? = some x, fun i H => ∃ xs, SqT K H a xs ∧ xs.length ≤ i⟩
def Itr (lo : Int) (n : Nat) : It := ⟨fun i _ => i < n, fun i H x H' => H' = H ∧ x = .int (lo + i), fun i _ => n ≤ i⟩
theorem turn_list {P : Program} {w : World} {K : PySem.W.Frag} {tg : Expr} (a it : Addr) : Turn P w K tg (Itl K a) [it] it (fun i h => h.IsListIter it a i) where
  mem := by simp
  obj := fun i h st b hb => by
    have e : b = it := by simpa using hb
    subst e
    obtain ⟨o, e, c, d⟩ := st
    exact ⟨o, e, fun v z => by rw [d] at z; cases z⟩
  keep := fun i h h' st k => st.at fun o e => k it (by simp) o e
  item := by
    intro X hP hw hK hc i pins s σ H E I hf st hg
    subst hP hw hK
    obtain ⟨xs, x, hq, hx⟩ := hg
    obtain ⟨its, rv, p, hz⟩ := I.list hq
    obtain ⟨u, hu, ru⟩ := rv.get hx
    obtain ⟨f0, f1, f2, f3, f4, f5⟩ := hf it (by simp)
    refine wpAny_pyNext_list_item st p.isList (x := u) (by simpa using hu) fun h' st' sb => ?_
    have I1 : Inv X pins σ H { s with heap := h' } := I.turned (t' := s.toks) (fun b o hb e => (sb.2 b hb).trans e) f0 f1 f3 f4 f5
    obtain ⟨o, e, c, d⟩ := id st'
    exact ⟨u, rfl, go_of (s := { s with heap := h' }) e c d (by decide) ⟨x, H, I1, ru, ⟨rfl, fun ys hy => by rw [I.list_inj hy hq]; exact hx⟩, st', fun b hb => (hf b hb).1⟩⟩
  done := by
    intro X hP hw hK hc i pins s σ H E I hf st hg
    subst hP hw hK
    obtain ⟨xs, hq, hx⟩ := hg
    obtain ⟨its, rv, p, hz⟩ := I.list hq
    obtain ⟨f0, f1, f2, f3, f4, f5⟩ := hf it (by simp)
    have hl := rv.length
    exact wpAny_pyNext_list_end (I.ok.hd hc) st p.isList (by simp; omega) fun h' eb => ⟨rfl, I.turned (t' := s.toks) (fun b o hb e => eb b o hb e) f0 f1 f3 f4 f5⟩
  self := fun _ _ _ _ _ st h => wpAny_pyIter_listiter st h
theorem turn_tuple {P : Program} {w : World} {K : PySem.W.Frag} {tg : Expr} (a it : Addr) : Turn P w K tg (Itt K a) [it] it (fun i h => h.IsTupleIter it a i) where
  mem := by simp
  obj := fun i h st b hb => by
    have e : b = it := by simpa using hb
    subst e
    obtain ⟨o, e, c, d⟩ := st
    exact ⟨o, e, fun v z => by rw [d] at z; cases z⟩
  keep := fun i h h' st k => st.at fun o e => k it (by simp) o e
  item := by
    intro X hP hw hK hc i pins s σ H E I hf st hg
    subst hP hw hK
    obtain ⟨xs, x, hq, hx⟩ := hg
    obtain ⟨its, rv, p, hz⟩ := I.tuple hq
    obtain ⟨u, hu, ru⟩ := rv.get hx
    obtain ⟨f0, f1, f2, f3, f4, f5⟩ := hf it (by simp)
    refine wpAny_pyNext_tuple_item st (show s.heap.IsTuple a its.toArray from p) (x := u) (by simpa using hu) fun h' st' sb => ?_
    have I1 : Inv X pins σ H { s with heap := h' } := I.turned (t' := s.toks) (fun b o hb e => (sb.2 b hb).trans e) f0 f1 f3 f4 f5
    obtain ⟨o, e, c, d⟩ := id st'
    exact ⟨u, rfl, go_of (s := { s with heap := h' }) e c d (by decide) ⟨x, H, I1, ru, ⟨rfl, fun ys hy => by rw [I.tuple_inj hy hq]; exact hx⟩, st', fun b hb => (hf b hb).1⟩⟩
  done := by
    intro X hP hw hK hc i pins s σ H E I hf st hg
    subst hP hw hK
    obtain ⟨xs, hq, hx⟩ := hg
    obtain ⟨its, rv, p, hz⟩ := I.tuple hq
    obtain ⟨f0, f1, f2, f3, f4, f5⟩ := hf it (by simp)
    have hl := rv.length
    exact wpAny_pyNext_tuple_end (I.ok.hd hc) st (show s.heap.IsTuple a its.toArray from p) (by simp; omega) fun h' eb => ⟨rfl, I.turned (t' := s.toks) (fun b o hb e => eb b o hb e) f0 f1 f3 f4 f5⟩
  self := fun _ _ _ _ _ st h => wpAny_pyIter_tupleiter st h
theorem turn_range {P : Program} {w : World} {K : PySem.W.Frag} {tg : Expr} (it : Addr) (lo : Int) (n : Nat) : Turn P w K tg (Itr lo n) [it] it (fun i h => IsRangeIter h it (lo + (i : Nat) * 1) ((n : Int) - (i : Nat)) 1) where
  mem := by simp
  obj := fun i h st b hb => by
    have e : b = it := by simpa using hb
    subst e
    exact ⟨_, st, fun v z => by
      have z' : Data.fields _ = Data.cell v := z
      cases z'⟩
  keep := fun i h h' st k => k it (by simp) _ st
  item := by
    intro X hP hw hK hc i pins s σ H E I hf st hg
    subst hP hw hK
    obtain ⟨f0, f1, f2, f3, f4, f5⟩ := hf it (by simp)
    have W := Walks.range (prog := X.prog) (w := X.w) (I.ok.hd hc) it lo 1 n
    refine W.item i s _ _ hg st fun v h' tk hv st' kk => ?_
    obtain ⟨t, rfl⟩ := hv
    have I1 : Inv X pins σ H { s with heap := h', toks := tk } := I.turned (fun b o hb e => kk b o (by simpa using hb) e) f0 f1 f3 f4 f5
    refine ⟨_, rfl, go_of (s := { s with heap := h', toks := tk }) (n := "range_iterator") st' rfl rfl (by decide) ⟨.int (lo + i), H, I1, ⟨t, ?_⟩, ⟨rfl, rfl⟩, st', fun b hb => (hf b hb).1⟩⟩
    rw [Int.mul_one]
  done := by
    intro X hP hw hK hc i pins s σ H E I hf st hg
    subst hP hw hK
    obtain ⟨f0, f1, f2, f3, f4, f5⟩ := hf it (by simp)
    exact wpAny_pyNext_range_end (I.ok.hd hc) st (by have : n ≤ i := hg; omega) fun h' eb => ⟨rfl, I.turned (t' := s.toks) (fun b o hb e => eb b o hb e) f0 f1 f3 f4 f5⟩
  self := fun _ _ _ _ _ st h => wpAny_pyIter_rangeiter st h
end L2

namespace L2
open PySem PySem.Spec PyProof.Rows
section
variable {X : Cx} {tg : Expr}
def iList (K : PySem.W.Frag) (tl : TE) : TI := fun σ H R => tl σ H fun x H1 => ∃ a, x = .ref a ∧ (∃ xs, SqL K H1 a xs) ∧ R (Itl K a) H1
def iTup (K : PySem.W.Frag) (tl : TE) : TI := fun σ H R => tl σ H fun x H1 => ∃ a, x = .ref a ∧ (∃ xs, SqT K H1 a xs) ∧ R (Itt K a) H1
theorem pi_list {l : Expr} {tl : TE} (hl : PE X l tl) : PI X tg l (iList X.K tl) := by
  intro pins s σ H R I h
  refine thn (hl pins s σ H _ I h) fun v s1 ⟨x, H1, I1, r1, q1⟩ => ?_
  obtain ⟨a, e, ⟨xs, hq⟩, q⟩ := q1
  subst e
  cases r1
  obtain ⟨its, rv, p, hz⟩ := I1.list hq
  refine wpAny_pyIter_list p.isList ?_
  refine ⟨s1.heap.objs.size, [s1.heap.objs.size], _, _, H1, rfl, I1.kept (t' := s1.toks) fun b o e => Heap.get?_push_of_some _ e, turn_list a _, ⟨_, Heap.get?_push_size _ rfl, rfl, rfl⟩, fun b hb => ?_, q⟩
  have e : b = s1.heap.objs.size := by simpa using hb
  subst e
  exact I1.fpOk (Nat.le_refl _) (I1.hok.fresh (Nat.le_refl _))
theorem pi_tup {l : Expr} {tl : TE} (hl : PE X l tl) : PI X tg l (iTup X.K tl) := by
  intro pins s σ H R I h
  refine thn (hl pins s σ H _ I h) fun v s1 ⟨x, H1, I1, r1, q1⟩ => ?_
  obtain ⟨a, e, ⟨xs, hq⟩, q⟩ := q1
  subst e
  cases r1
  obtain ⟨its, rv, p, hz⟩ := I1.tuple hq
  refine wpAny_pyIter_tuple (show s1.heap.IsTuple a its.toArray from p) ?_
  refine ⟨s1.heap.objs.size, [s1.heap.objs.size], _, _, H1, rfl, I1.kept (t' := s1.toks) fun b o e => Heap.get?_push_of_some _ e, turn_tuple a _, ⟨_, Heap.get?_push_size _ rfl, rfl, rfl⟩, fun b hb => ?_, q⟩
  have e : b = s1.heap.objs.size := by simpa using hb
  subst e
  exact I1.fpOk (Nat.le_refl _) (I1.hok.fresh (Nat.le_refl _))
theorem range_it {pins : List (Addr × Obj)} {σ : St} {H : Hp} {s : Shared} {R : It → Hp → Prop} {E : Value → Shared → Prop} {lo hi : Int} {t u v : Tok} {tk : Nat} (I : Inv X pins σ H s) (h1 : -(2 ^ 62) ≤ lo) (h2 : lo < 2 ^ 62) (h3 : -(2 ^ 62) ≤ hi) (h4 : hi < 2 ^ 62)
    (q : R (Itr lo (hi - lo).toNat) H) : wpAny (model X.prog X.w) X.A (pyIter (.ref s.heap.objs.size)) (PIE X pins σ tg R) E { s with heap := s.heap.push { cls := .type "range", data := .fields #[.int lo t, .int hi u, .int 1 v] }, toks := tk } := by
  refine wpAny_pyIter_range (IsRange.new ..) (small_one h1 h2 h3 h4) ?_
  have I1 : Inv X pins σ H { s with heap := s.heap.push { cls := .type "range", data := .fields #[.int lo t, .int hi u, .int 1 v] }, toks := tk } := I.kept fun b o e => Heap.get?_push_of_some _ e
  refine ⟨(s.heap.push { cls := .type "range", data := .fields #[.int lo t, .int hi u, .int 1 v] }).objs.size, [(s.heap.push { cls := .type "range", data := .fields #[.int lo t, .int hi u, .int 1 v] }).objs.size], _, _, H, rfl,
    I1.kept (t' := tk) fun b o e => Heap.get?_push_of_some _ e, turn_range _ lo (hi - lo).toNat, ?_, fun b hb => ?_, q⟩
  · have e1 : lo + ((0 : Nat) : Int) * 1 = lo := by simp
    have e2 : (((hi - lo).toNat : Nat) : Int) - ((0 : Nat) : Int) = Builtin.Range.rangeSize lo hi 1 := by rw [rangeSize_one]; split <;> omega
    show IsRangeIter _ _ (lo + ((0 : Nat) : Int) * 1) ((((hi - lo).toNat : Nat) : Int) - ((0 : Nat) : Int)) 1
    rw [e1, e2]
    exact Heap.get?_push_size _ rfl
  · have e : b = (s.heap.push { cls := .type "range", data := .fields #[.int lo t, .int hi u, .int 1 v] }).objs.size := by simpa using hb
    subst e
    exact I1.fpOk (Nat.le_refl _) (I1.hok.fresh (Nat.le_refl _))
def iRng1 (ta : TA) : TI := fun σ H R => ta σ H fun vs H1 => ∃ j : Int, vs = [.int j] ∧ -(2 ^ 62) ≤ j ∧ j < 2 ^ 62 ∧ R (Itr 0 j.toNat) H1
def iRng2 (ta : TA) : TI := fun σ H R => ta σ H fun vs H1 => ∃ i j : Int, vs = [.int i, .int j] ∧ (-(2 ^ 62) ≤ i ∧ i < 2 ^ 62 ∧ -(2 ^ 62) ≤ j ∧ j < 2 ^ 62) ∧ R (Itr i (j - i).toNat) H1
theorem pi_range1 {a : Expr} {ta : TA} {p pos : Pos} (hg : Gl X "range") (hm : X.mg "range" = none) (ha : PA X [a] ta) (hs : starEach [a] X.env = [(false, eval a X.env)] := by rfl) : PI X tg (.Call (.Name "range" p) [a] [] pos) (iRng1 ta) := by
  intro pins s σ H R I h
  refine Call_ (ld_blt I hg hm boot_range (PyProof.Rows.callWith_type1 (thn (ha pos pins s σ H _ I h) fun us s1 ⟨vs, H1, I1, r1, q1⟩ => ?_) hs rfl))
  obtain ⟨j, e, q1, q2, q⟩ := q1
  subst e
  cases r1 with
  | cons r rr =>
    cases rr
    obtain ⟨t, rfl⟩ := r
    exact call_range_1 (range_it I1 (by omega) (by omega) q1 q2 (by simpa using q))
theorem pi_range2 {a b : Expr} {ta : TA} {p pos : Pos} (hg : Gl X "range") (hm : X.mg "range" = none) (ha : PA X [a, b] ta) (hs : starEach [a, b] X.env = [(false, eval a X.env), (false, eval b X.env)] := by rfl) (hs2 : starEach [b] X.env = [(false, eval b X.env)] := by rfl) :
    PI X tg (.Call (.Name "range" p) [a, b] [] pos) (iRng2 ta) := by
  intro pins s σ H R I h
  refine Call_ (ld_blt I hg hm boot_range (PyProof.Rows.callWith_type1 (thn (ha pos pins s σ H _ I h) fun us s1 ⟨vs, H1, I1, r1, q1⟩ => ?_) (by rw [hs, hs2]) (by rw [hs2]; rfl)))
  obtain ⟨i, j, e, ⟨q1, q2, q3, q4⟩, q⟩ := q1
  subst e
  cases r1 with
  | cons r rr =>
    cases rr with
    | cons r' rr =>
      cases rr
      obtain ⟨t, rfl⟩ := r
      obtain ⟨t', rfl⟩ := r'
      exact call_range_2 (range_it I1 q1 q2 q3 q4 q)

def tFor (wi : TI) (g : TG) (tb : TS) : TS := fun D σ H => wi σ H fun J H1 => ∃ W : Nat → Nat → St → Hp → Prop, (∃ m, W 0 m σ H1) ∧ ∀ i m σ H, W i m σ H →
  (J.stop i H ∧ D.nx σ H) ∨ (J.go i H ∧ ∃ N : St → Hp → Prop, (∀ σ' H', N σ' H' → ∃ m', m' < m ∧ W (i + 1) m' σ' H') ∧ ∀ x H', J.yld i H x H' → g x σ H' fun σ2 H2 => tb { D with nx := N, ct := N, bk := D.nx } σ2 H2)
def pinsAt (fp : List Addr) (h : Heap) : List (Addr × Obj) := fp.filterMap fun b => (h.get? b).map fun o => (b, o)
theorem mem_pinsAt {fp : List Addr} {h : Heap} {b : Addr} {o : Obj} (hb : b ∈ fp) (e : h.get? b = some o) : (b, o) ∈ pinsAt fp h := List.mem_filterMap.mpr ⟨b, hb, by rw [e]; rfl⟩
theorem of_pinsAt {fp : List Addr} {h : Heap} {p : Addr × Obj} (hp : p ∈ pinsAt fp h) : p.1 ∈ fp ∧ h.get? p.1 = some p.2 := by
  obtain ⟨b, hb, e⟩ := List.mem_filterMap.mp hp
  cases q : h.get? b with
  | none => rw [q] at e; cases e
  | some o =>
    rw [q] at e
    have e' : (b, o) = p := Option.some.inj e
    subst e'
    exact ⟨hb, q⟩
theorem Inv.pinned {pins : List (Addr × Obj)} {σ : St} {H : Hp} {s : Shared} {fp : List Addr} (I : Inv X pins σ H s) (hf : ∀ b ∈ fp, FpOk X pins H b) (ho : ∀ b ∈ fp, ∃ o, s.heap.get? b = some o ∧ ∀ v, o.data ≠ .cell v) : Inv X (pins ++ pinsAt fp s.heap) σ H s :=
  I.pins_of fun p hp => (List.mem_append.mp hp).elim (fun z => I.pin p (List.mem_append_right _ z)) fun z => by
    obtain ⟨hb, e⟩ := of_pinsAt z
    obtain ⟨f0, f1, f2, _⟩ := hf p.1 hb
    obtain ⟨o, e', d⟩ := ho p.1 hb
    rw [e] at e'; cases e'
    exact ⟨e, f0, f1, f2, d⟩
theorem Inv.unpinned {pins pl : List (Addr × Obj)} {σ : St} {H : Hp} {s : Shared} (I : Inv X (pins ++ pl) σ H s) : Inv X pins σ H s := I.pins_of fun p hp => I.pin p (List.mem_append_right _ (List.mem_append_left _ hp))
theorem ps_for {iter : Expr} {body : List Stmt} {wi : TI} {g : TG} {tb : TS} {pos : Pos} (hp : PassesOwn (model X.prog X.w) X.A X.env X.xe) (hc : X.calm = true) (hi : PI X tg iter wi) (hg : PG X tg g) (hb : PSs X body tb)
    (hs : ∀ x, foldedSetIterable iter X.env x = pure x := by intro _; rfl) : PS X (.For tg iter body [] pos) (tFor wi g tb) := by
  intro pins s σ H D I h
  refine wpAny_For (thn (hi pins s σ H _ I h) fun v s1 h1 => thn h1 fun itv s2 h2 => ?_) hs
  obtain ⟨it, fp, tn, J, H2, e, I2, T, st2, f2, W, ⟨m0, w0⟩, turn⟩ := h2
  subst e
  -- what stays true of the iterator's objects through the loop
  have stat : ∀ {H' : Hp}, (∀ b ∈ fp, H' b = none) → ∀ b ∈ fp, FpOk X pins H' b := fun hn b hb => ⟨hn b hb, (f2 b hb).2⟩
  refine codeAny_forLoop_any (fun n s' => ∃ i σ' H', Inv X pins σ' H' s' ∧ tn i s'.heap ∧ (∀ b ∈ fp, H' b = none) ∧ W i n σ' H') ?_ m0 ⟨0, σ, H2, I2, st2, fun b hb => (f2 b hb).1, w0⟩
  rintro n s3 ⟨i, σ3, H3, I3, st3, fr3, w3⟩
  rcases turn i n σ3 H3 w3 with ⟨stop, qn⟩ | ⟨go, N, hN, step⟩
  · refine wpAny_passesOwn hp (thn (T.done X rfl rfl rfl hc i pins s3 σ3 H3 X.xe I3 (stat fr3) st3 stop) fun r s4 ⟨hr, I4⟩ => ?_)
    subst hr
    exact wpAny_execs_nil ⟨σ3, H3, I4, qn⟩
  · refine wpAny_passesOwn hp (thn (T.item X rfl rfl rfl hc i pins s3 σ3 H3 X.xe I3 (stat fr3) st3 go) fun r s4 ⟨u, hr, h4⟩ => ?_)
    subst hr
    refine wpAny_passesOwn hp (thn h4 fun _ s5 ⟨x, H5, I5, r5, y5, st5, fr5⟩ => ?_)
    have I5' := I5.pinned (stat fr5) (T.obj _ _ st5)
    refine wpAny_passesOwn hp (thn (hg _ s5 σ3 H5 x u _ I5' r5 (step x H5 y5)) fun _ s6 ⟨σ6, H6, I6, q6⟩ => ?_)
    refine wpAny_passesOwn hp (thn (hb _ s6 σ6 H6 _ I6 q6) fun f s7 q7 => ?_)
    have again : ∀ {σ7 : St} {H7 : Hp}, Inv X (pins ++ pinsAt fp s5.heap) σ7 H7 s7 → N σ7 H7 → ∃ m, m < n ∧ ∃ i σ' H', Inv X pins σ' H' s7 ∧ tn i s7.heap ∧ (∀ b ∈ fp, H' b = none) ∧ W i m σ' H' := fun {σ7 H7} I7 n7 => by
      obtain ⟨m', hm, w7⟩ := hN σ7 H7 n7
      refine ⟨m', hm, i + 1, σ7, H7, I7.unpinned, T.keep _ _ _ st5 fun b hb o e => (I7.pin (b, o) (List.mem_append_right _ (List.mem_append_right _ (mem_pinsAt hb e)))).1, fun b hb => ?_, w7⟩
      obtain ⟨o, e, d⟩ := T.obj _ _ st5 b hb
      exact (I7.pin (b, o) (List.mem_append_right _ (List.mem_append_right _ (mem_pinsAt hb e)))).2.1
    cases f with
    | next => obtain ⟨σ7, H7, I7, n7⟩ := q7; exact again I7 n7
    | cont => obtain ⟨σ7, H7, I7, n7⟩ := q7; exact again I7 n7
    | brk => obtain ⟨σ7, H7, I7, q7⟩ := q7; exact ⟨σ7, H7, I7.unpinned, q7⟩
    | ret v => obtain ⟨x7, σ7, H7, I7, r7, q7⟩ := q7; exact ⟨x7, σ7, H7, I7.unpinned, r7, q7⟩
end

end L2

namespace L2
open PySem PySem.Spec PyProof.Rows

abbrev R2 := V → V → Hp → VK → Prop
def OpR (X : Cx) (f : Value → Value → Sem Value) (r : R2) : Prop :=
  ∀ (pins : List (Addr × Obj)) (s : Shared) (σ : St) (H : Hp) (x y : V) (v u : Value) (Q : VK), Inv X pins σ H s → RelV x v → RelV y u → r x y H Q →
    wpAny (model X.prog X.w) X.A (f v u) (EP X pins σ Q) X.xe s
def CallR (X : Cx) (f : Value) (r : List V → Hp → VK → Prop) : Prop :=
  ∀ (pins : List (Addr × Obj)) (s : Shared) (σ : St) (H : Hp) (xs : List V) (us : List Value) (Q : VK), Inv X pins σ H s → Vals xs us → r xs H Q →
    wpAny (model X.prog X.w) X.A (call f us) (EP X pins σ Q) X.xe s
def tOp (r : R2) (ta tb : TE) : TE := fun σ H Q => ta σ H fun x H1 => tb σ H1 fun y H2 => r x y H2 Q
def tUn (r : V → Hp → VK → Prop) (ta : TE) : TE := fun σ H Q => ta σ H fun x H1 => r x H1 Q
def rI (C : Int → Int → Prop) (g : Int → Int → V) : R2 := fun x y H Q => ∃ i j, x = .int i ∧ y = .int j ∧ C i j ∧ Q (g i j) H
def rI0 (g : Int → Int → V) : R2 := fun x y H Q => ∃ i j, x = .int i ∧ y = .int j ∧ Q (g i j) H
def rU (g : Int → V) : V → Hp → VK → Prop := fun x H Q => ∃ i, x = .int i ∧ Q (g i) H

section
variable {X : Cx} {a b c : Expr} {ta tb tc : TE} {pos : Pos}

theorem binT (ha : PE X a ta) (hb : PE X b tb) {pins : List (Addr × Obj)} {s : Shared} {σ : St} {H : Hp} {R : V → V → Hp → Prop} (I : Inv X pins σ H s)
    (h : ta σ H fun x H1 => tb σ H1 fun y H2 => R x y H2) {Q : Value → Shared → Prop} {f : Value → Value → Sem Value}
    (hf : ∀ v u s2 x y H2, Inv X pins σ H2 s2 → RelV x v → RelV y u → R x y H2 → wpAny (model X.prog X.w) X.A (f v u) Q X.xe s2) :
    wpAny (model X.prog X.w) X.A (eval a X.env) (fun v s₁ => wpAny (model X.prog X.w) X.A (eval b X.env) (fun u s₂ => wpAny (model X.prog X.w) X.A (f v u) Q X.xe s₂) X.xe s₁) X.xe s := by
  refine thn (ha pins s σ H _ I h) fun v s1 ⟨x, H1, I1, r1, q1⟩ => ?_
  refine thn (hb pins s1 σ H1 _ I1 q1) fun u s2 ⟨y, H2, I2, r2, q2⟩ => ?_
  exact hf v u s2 x y H2 I2 r1 r2 q2

theorem pe_op {op : Operator} {r : R2} (ho : OpR X (binaryOp op) r) (ha : PE X a ta) (hb : PE X b tb) : PE X (.BinOp a op b pos) (tOp r ta tb) := by
  intro pins s σ H Q I h
  exact wpAny_BinOp (binT ha hb I h fun v u s2 x y H2 I2 rx ry q => ho pins s2 σ H2 x y v u Q I2 rx ry q)
theorem opI {f : Value → Value → Sem Value} {C : Int → Int → Prop} {g : Int → Int → Int}
    (rule : ∀ (i j : Int) (t u : Tok) (s : Shared) (Q : Value → Shared → Prop) (E : Value → Shared → Prop), C i j → Q (.int (g i j) s.toks) { s with toks := s.toks + 1 } → wpAny (model X.prog X.w) X.A (f (.int i t) (.int j u)) Q E s) :
    OpR X f (rI C fun i j => .int (g i j)) := by
  intro pins s σ H x y v u Q I rx ry h
  obtain ⟨i, j, rfl, rfl, hc, q⟩ := h
  obtain ⟨t, rfl⟩ := rx
  obtain ⟨t', rfl⟩ := ry
  exact rule i j t t' s _ _ hc ⟨.int (g i j), H, I.tok _, ⟨_, rfl⟩, q⟩
theorem opI0 {f : Value → Value → Sem Value} {g : Int → Int → Int}
    (rule : ∀ (i j : Int) (t u : Tok) (s : Shared) (Q : Value → Shared → Prop) (E : Value → Shared → Prop), Q (.int (g i j) s.toks) { s with toks := s.toks + 1 } → wpAny (model X.prog X.w) X.A (f (.int i t) (.int j u)) Q E s) :
    OpR X f (rI0 fun i j => .int (g i j)) := by
  intro pins s σ H x y v u Q I rx ry h
  obtain ⟨i, j, rfl, rfl, q⟩ := h
  obtain ⟨t, rfl⟩ := rx
  obtain ⟨t', rfl⟩ := ry
  exact rule i j t t' s _ _ ⟨.int (g i j), H, I.tok _, ⟨_, rfl⟩, q⟩
theorem opB0 {f : Value → Value → Sem Value} {g : Int → Int → Bool}
    (rule : ∀ (i j : Int) (t u : Tok) (s : Shared) (Q : Value → Shared → Prop) (E : Value → Shared → Prop), Q (.bool (g i j)) s → wpAny (model X.prog X.w) X.A (f (.int i t) (.int j u)) Q E s) :
    OpR X f (rI0 fun i j => .bl (g i j)) := by
  intro pins s σ H x y v u Q I rx ry h
  obtain ⟨i, j, rfl, rfl, q⟩ := h
  obtain ⟨t, rfl⟩ := rx
  obtain ⟨t', rfl⟩ := ry
  exact rule i j t t' s _ _ ⟨.bl (g i j), H, I, rfl, q⟩

def CDiv (i j : Int) : Prop := 0 < j ∧ j < 1073741824
def CMul (i j : Int) : Prop := (-(2 ^ 64) < i ∧ i < 2 ^ 64) ∨ (-(2 ^ 64) < j ∧ j < 2 ^ 64)
theorem CMul.ok {i j : Int} (h : CMul i j) : IntMulOk i j := by
  rcases h with ⟨h1, h2⟩ | ⟨h1, h2⟩
  · exact .of_left (intBits_le_64 h1 h2)
  · exact .of_right (intBits_le_64 h1 h2)
theorem op_add : OpR X (binaryOp .Add) (rI0 fun i j => .int (i + j)) := opI0 fun _ _ _ _ _ _ _ q => add_int q
theorem op_sub : OpR X (binaryOp .Sub) (rI0 fun i j => .int (i - j)) := opI0 fun _ _ _ _ _ _ _ q => sub_int q
theorem op_mul : OpR X (binaryOp .Mult) (rI CMul fun i j => .int (i * j)) := opI fun _ _ _ _ _ _ _ hc q => mul_int q hc.ok
theorem op_fdiv : OpR X (binaryOp .FloorDiv) (rI CDiv fun i j => .int (i / j)) := opI fun i j _ _ _ _ _ hc q => by
  have h1 : (0 : Int) < j := hc.1
  have h2 : j < 1073741824 := hc.2
  exact floordiv_int (by omega) (by rw [Int.fdiv_eq_ediv_of_nonneg i (by omega)]; exact q) (.inl (PyProof.noPylong_small (by omega)))
theorem op_mod : OpR X (binaryOp .Mod) (rI (fun _ j => 0 < j) fun i j => .int (i % j)) := opI fun i j _ _ _ _ _ hc q => by
  have h1 : (0 : Int) < j := hc
  exact mod_int' (by omega) (by rw [Int.fmod_eq_emod_of_nonneg i (by omega)]; exact q)
end

def scal : V → V → Bool
  | .non, .non => true | .non, .int _ => true | .int _, .non => true | .non, .bl _ => true | .bl _, .non => true | .non, .str _ => true | .str _, .non => true
  | .int _, .int _ => true | .bl _, .bl _ => true | .str _, .str _ => true | .byt _, .byt _ => true
  | .int _, .str _ => true | .str _, .int _ => true | .bl _, .str _ => true | .str _, .bl _ => true
  | _, _ => false
def rEq : R2 := fun x y H Q => scal x y = true ∧ Q (.bl (decide (x = y))) H
def rNe : R2 := fun x y H Q => scal x y = true ∧ Q (.bl (!decide (x = y))) H

theorem dec_int {i j : Int} : decide (V.int i = V.int j) = (i == j) := by
  rw [Bool.eq_iff_iff]
  simp
theorem dec_bl {i j : Bool} : decide (V.bl i = V.bl j) = (i == j) := by
  rw [Bool.eq_iff_iff]
  simp
theorem dec_str {i j : Str} : decide (V.str i = V.str j) = (i == j) := by
  rw [Bool.eq_iff_iff]
  simp
theorem dec_byt {i j : Array UInt8} : decide (V.byt i = V.byt j) = (i.toList == j.toList) := by
  rw [Bool.eq_iff_iff]
  cases i
  cases j
  simp

section
variable {X : Cx} {a b c : Expr} {ta tb tc : TE} {pos : Pos}
theorem fin_bl {pins : List (Addr × Obj)} {σ : St} {H : Hp} {s : Shared} {Q : VK} {k k' : Bool} (I : Inv X pins σ H s) (q : Q (.bl k) H) (e : k = k') : EP X pins σ Q (.bool k') s := by
  subst e
  exact ⟨.bl k, H, I, rfl, q⟩
theorem op_eq : OpR X (compareOp .Eq) rEq := by
  intro pins s σ H x y v u Q I rx ry h
  obtain ⟨hs, q⟩ := h
  cases x with
  | non =>
    cases rx
    cases y with
    | non => cases ry; exact PySem.EqNone.eq_none_none (fin_bl I q (by simp))
    | bl j => cases ry; exact PySem.EqNone.eq_none_bool (fin_bl I q (by simp))
    | int j => obtain ⟨t', rfl⟩ := ry; exact PySem.EqNone.eq_none_int (fin_bl I q (by simp))
    | str j => obtain ⟨t', rfl⟩ := ry; exact PySem.EqNone.eq_none_str (fin_bl I q (by simp))
    | _ => exact absurd (show false = true from hs) Bool.false_ne_true
  | bl i =>
    cases rx
    cases y with
    | non => cases ry; exact PySem.EqNone.eq_bool_none (fin_bl I q (by simp))
    | bl j => cases ry; exact eq_bool (fin_bl I q dec_bl)
    | str j => obtain ⟨t', rfl⟩ := ry; exact PySem.EqMixed.eq_bool_str (fin_bl I q (by simp))
    | _ => exact absurd (show false = true from hs) Bool.false_ne_true
  | int i =>
    obtain ⟨t, rfl⟩ := rx
    cases y with
    | non => cases ry; exact PySem.EqNone.eq_int_none (fin_bl I q (by simp))
    | int j => obtain ⟨t', rfl⟩ := ry; exact eq_int (fin_bl I q dec_int)
    | str j => obtain ⟨t', rfl⟩ := ry; exact PySem.EqMixed.eq_int_str (fin_bl I q (by simp))
    | _ => exact absurd (show false = true from hs) Bool.false_ne_true
  | str i =>
    obtain ⟨t, rfl⟩ := rx
    cases y with
    | non => cases ry; exact PySem.EqNone.eq_str_none (fin_bl I q (by simp))
    | bl j => cases ry; exact PySem.EqMixed.eq_str_bool (fin_bl I q (by simp))
    | int j => obtain ⟨t', rfl⟩ := ry; exact PySem.EqMixed.eq_str_int (fin_bl I q (by simp))
    | str j => obtain ⟨t', rfl⟩ := ry; exact eq_str (fin_bl I q dec_str)
    | _ => exact absurd (show false = true from hs) Bool.false_ne_true
  | byt i =>
    obtain ⟨t, rfl⟩ := rx
    cases y with
    | byt j => obtain ⟨t', rfl⟩ := ry; exact PySem.W.eq_bytes (fin_bl I q dec_byt)
    | _ => exact absurd (show false = true from hs) Bool.false_ne_true
  | _ => cases y <;> exact absurd (show false = true from hs) Bool.false_ne_true
theorem op_ne : OpR X (compareOp .NotEq) rNe := by
  intro pins s σ H x y v u Q I rx ry h
  obtain ⟨hs, q⟩ := h
  cases x with
  | non =>
    cases rx
    cases y with
    | non => cases ry; exact PySem.EqNone.ne_none_none (fin_bl I q (by simp))
    | bl j => cases ry; exact PySem.EqNone.ne_none_bool (fin_bl I q (by simp))
    | int j => obtain ⟨t', rfl⟩ := ry; exact PySem.EqNone.ne_none_int (fin_bl I q (by simp))
    | str j => obtain ⟨t', rfl⟩ := ry; exact PySem.EqNone.ne_none_str (fin_bl I q (by simp))
    | _ => exact absurd (show false = true from hs) Bool.false_ne_true
  | bl i =>
    cases rx
    cases y with
    | non => cases ry; exact PySem.EqNone.ne_bool_none (fin_bl I q (by simp))
    | bl j => cases ry; exact ne_bool (fin_bl I q (congrArg not dec_bl))
    | str j => obtain ⟨t', rfl⟩ := ry; exact PySem.EqMixed.ne_bool_str (fin_bl I q (by simp))
    | _ => exact absurd (show false = true from hs) Bool.false_ne_true
  | int i =>
    obtain ⟨t, rfl⟩ := rx
    cases y with
    | non => cases ry; exact PySem.EqNone.ne_int_none (fin_bl I q (by simp))
    | int j => obtain ⟨t', rfl⟩ := ry; exact ne_int (fin_bl I q (congrArg not dec_int))
    | str j => obtain ⟨t', rfl⟩ := ry; exact PySem.EqMixed.ne_int_str (fin_bl I q (by simp))
    | _ => exact absurd (show false = true from hs) Bool.false_ne_true
  | str i =>
    obtain ⟨t, rfl⟩ := rx
    cases y with
    | non => cases ry; exact PySem.EqNone.ne_str_none (fin_bl I q (by simp))
    | bl j => cases ry; exact PySem.EqMixed.ne_str_bool (fin_bl I q (by simp))
    | int j => obtain ⟨t', rfl⟩ := ry; exact PySem.EqMixed.ne_str_int (fin_bl I q (by simp))
    | str j => obtain ⟨t', rfl⟩ := ry; exact ne_str (fin_bl I q (congrArg not dec_str))
    | _ => exact absurd (show false = true from hs) Bool.false_ne_true
  | byt i =>
    obtain ⟨t, rfl⟩ := rx
    cases y with
    | byt j => obtain ⟨t', rfl⟩ := ry; exact PySem.W.ne_bytes (fin_bl I q (congrArg not dec_byt))
    | _ => exact absurd (show false = true from hs) Bool.false_ne_true
  | _ => cases y <;> exact absurd (show false = true from hs) Bool.false_ne_true

theorem op_lt : OpR X (compareOp .Lt) (rI0 fun i j => .bl (decide (i < j))) := opB0 fun _ _ _ _ _ _ _ q => lt_int q
theorem op_le : OpR X (compareOp .LtE) (rI0 fun i j => .bl (decide (i ≤ j))) := opB0 fun _ _ _ _ _ _ _ q => le_int q
theorem op_gt : OpR X (compareOp .Gt) (rI0 fun i j => .bl (decide (j < i))) := opB0 fun _ _ _ _ _ _ _ q => gt_int q
theorem OpR.or {f : Value → Value → Sem Value} {r r' : R2} (h : OpR X f r) (h' : OpR X f r') : OpR X f (fun x y H Q => r x y H Q ∨ r' x y H Q) := by
  intro pins s σ H x y v u Q I rx ry q
  rcases q with q | q
  · exact h pins s σ H x y v u Q I rx ry q
  · exact h' pins s σ H x y v u Q I rx ry q

theorem nomark (b : Expr) {op : CmpOp} (h : op ≠ .In := by decide) (h2 : op ≠ .NotIn := by decide) : behindInMarks op b = false := by
  have e1 : (op == CmpOp.In) = false := by cases op <;> first | rfl | exact absurd rfl h
  have e2 : (op == CmpOp.NotIn) = false := by cases op <;> first | rfl | exact absurd rfl h2
  cases b <;> simp [behindInMarks, e1, e2]
theorem pe_cmpR {op : CmpOp} {r : R2} (ho : OpR X (compareOp op) r) (ha : PE X a ta) (hb : PE X b tb) (hm : behindInMarks op b = false) : PE X (.Compare a [op] [b] pos) (tOp r ta tb) := by
  intro pins s σ H Q I h
  exact wpAny_Compare1 (binT ha hb I h fun v u s2 x y H2 I2 rx ry q => ho pins s2 σ H2 x y v u Q I2 rx ry q) hm
def tTest (t : TE) : TT := fun σ H Q => t σ H fun x H' => ∃ k, x = .bl k ∧ Q k H'
theorem pt_cmpR {op : CmpOp} {r : R2} (ho : OpR X (compareOp op) r) (ha : PE X a ta) (hb : PE X b tb) (hm : behindInMarks op b = false) : PT X (.Compare a [op] [b] pos) (tTest (tOp r ta tb)) := by
  intro pins s σ H Q I h
  refine wpAny_isTrue_Compare1 (thn (ha pins s σ H _ I h) fun v s1 ⟨x, H1, I1, r1, q1⟩ => thn (hb pins s1 σ H1 _ I1 q1) fun u s2 ⟨y, H2, I2, r2, q2⟩ =>
    thn (ho pins s2 σ H2 x y v u _ I2 r1 r2 q2) fun c s3 ⟨z, H3, I3, r3, k, e, q3⟩ => ?_) hm
  subst e
  cases r3
  exact wpAny_truthy_bool ⟨H3, I3, q3⟩
def tChain (r r' : R2) (ta tb tc : TE) : TE := fun σ H Q => ta σ H fun x H1 => tb σ H1 fun y H2 => r x y H2 fun z H3 => ∃ k, z = .bl k ∧
  (if k = true then tc σ H3 fun w' H4 => r' y w' H4 Q else Q (.bl false) H3)
theorem pe_chain {op op' : CmpOp} {r r' : R2} (ho : OpR X (compareOp op) r) (ho' : OpR X (compareOp op') r') (ha : PE X a ta) (hb : PE X b tb) (hc : PE X c tc)
    (hm : lastMarks [op, op'] [b, c] = false := by with_unfolding_all rfl) : PE X (.Compare a [op, op'] [b, c] pos) (tChain r r' ta tb tc) := by
  intro pins s σ H Q I h
  refine Compare_chain (thn (ha pins s σ H _ I h) fun v s1 ⟨x, H1, I1, r1, q1⟩ => chain_link (thn (hb pins s1 σ H1 _ I1 q1) fun u s2 ⟨y, H2, I2, r2, q2⟩ =>
    thn (ho pins s2 σ H2 x y v u _ I2 r1 r2 q2) fun d s3 ⟨z, H3, I3, r3, k, e, q3⟩ => ?_)) hm
  subst e
  cases r3
  refine wpAny_truthy_bool ?_
  cases k with
  | false => exact ite_ff ⟨.bl false, H3, I3, rfl, q3⟩
  | true => exact ite_tt (chain_last (thn (hc pins s3 σ H3 _ I3 q3) fun w' s4 ⟨z', H4, I4, r4, q4⟩ => ho' pins s4 σ H4 y z' u w' Q I4 r2 r4 q4))
theorem line63 : (sizeLine : Nat) < 2 ^ 63 := by rw [sizeLine_eq]; decide
theorem vals1 {x : V} {us : List Value} (r : Vals [x] us) : ∃ u, us = [u] ∧ RelV x u := by
  cases r with
  | cons r1 r2 => cases r2; exact ⟨_, rfl, r1⟩
theorem vals2 {x y : V} {us : List Value} (r : Vals [x, y] us) : ∃ u w', us = [u, w'] ∧ RelV x u ∧ RelV y w' := by
  cases r with
  | cons r1 r2 =>
    cases r2 with
    | cons r3 r4 => cases r4; exact ⟨_, _, rfl, r1, r3⟩
theorem call_max2 (hc : X.calm = true) : CallR X (.builtin "max") (fun xs H Q => ∃ i j, xs = [.int i, .int j] ∧ Q (.int (if j > i then j else i)) H) := by
  intro pins s σ H xs us Q I r h
  obtain ⟨i, j, rfl, q⟩ := h
  obtain ⟨u, w', rfl, ⟨t, rfl⟩, ⟨t', rfl⟩⟩ := vals2 r
  refine max_two_ints (I.ok.hd hc) fun h' tk k => ⟨_, H, I.kept k, ?_, q⟩
  by_cases hj : j > i
  · rw [if_pos hj, if_pos hj]; exact ⟨_, rfl⟩
  · rw [if_neg hj, if_neg hj]; exact ⟨_, rfl⟩
theorem call_min2 (hc : X.calm = true) : CallR X (.builtin "min") (fun xs H Q => ∃ i j, xs = [.int i, .int j] ∧ Q (.int (if j < i then j else i)) H) := by
  intro pins s σ H xs us Q I r h
  obtain ⟨i, j, rfl, q⟩ := h
  obtain ⟨u, w', rfl, ⟨t, rfl⟩, ⟨t', rfl⟩⟩ := vals2 r
  refine min_two_ints (I.ok.hd hc) fun h' tk k => ⟨_, H, I.kept k, ?_, q⟩
  by_cases hj : j < i
  · rw [if_pos hj, if_pos hj]; exact ⟨_, rfl⟩
  · rw [if_neg hj, if_neg hj]; exact ⟨_, rfl⟩
end
end L2

namespace L2
open PySem PySem.Spec PyProof.Rows

structure ObjM (h : Heap) (x dx C : Addr) (mA : Str → Option Value) : Prop where
  obj : h.get? x = some (PySem.W.instObj C dx)
  ns : h.Ns1 dx mA
  ne : dx ≠ x

theorem lookIn_ns {h : Heap} {dx : Addr} {mA : Str → Option Value} (n : h.Ns1 dx mA) : ∃ od, h.get? dx = some od ∧ ∀ name, PySem.W.lookIn name od = some (mA name) := by
  obtain ⟨o, es, ep, ho, hd, hk, _, hm⟩ := n
  refine ⟨o, ho, fun name => ?_⟩
  have e := hm name
  unfold nsFind findBy at e
  rw [← Array.find?_toList] at e
  unfold PySem.W.lookIn
  rw [hd]
  dsimp only
  split
  · rename_i y q
    rw [q] at e
    exact congrArg some e
  · rename_i q
    rw [q] at e
    have a : es.toList.any (·.refKey) = false := by
      rw [List.any_eq_false]
      intro y hy
      obtain ⟨z, t, hkey⟩ := hk y (Array.mem_toList_iff.mp hy)
      simp [DictEntry.refKey, hkey]
    have a' : ¬ es.toList.any (·.refKey) = true := by rw [a]; exact Bool.false_ne_true
    rw [if_neg a']
    exact congrArg some e

theorem ObjM.look {h : Heap} {x dx C : Addr} {mA : Str → Option Value} (I : ObjM h x dx C mA) : ∃ od, PySem.W.InstAt h x (PySem.W.instObj C dx) C (some od) ∧ ∀ name, PySem.W.lookIn name od = some (mA name) :=
  let ⟨od, ho, hl⟩ := lookIn_ns I.ns
  ⟨od, ⟨I.obj, rfl, rfl, ho⟩, hl⟩

section
variable {prog : Program} {w : World} {A : Around} {E : Value → Shared → Prop} {s : Shared} {K : PySem.W.Frag} {x dx C f : Addr} {mA : Str → Option Value} {name : Str} {v : Value}

end

def putF (f : Str) (v : V) : List (Str × V) → List (Str × V)
  | [] => [(f, v)]
  | (g, x) :: r => if g = f then (g, v) :: r else (g, x) :: putF f v r
theorem RelO.none_of {o : Option Value} (r : RelO none o) : o = none := by
  cases o with
  | none => rfl
  | some u => exact (show False from r).elim
section
variable {P : Program} {w : World} {H H' : Hp} {h h' : Heap} {a C dx : Addr} {fs fs' : List (Str × V)}
theorem ins_get (hok : HOk P w H h) (e : H a = some (.ins C dx fs)) : ∃ mA, ObjM h a dx C mA ∧ (∀ f, RelO (fs.lookup f) (mA f)) ∧ PySem.Within mA (fs.map (·.1)) ∧ fs.length ≤ 1000 ∧ H dx = some (.own a) := by
  obtain ⟨d, z, ne, ob, mA, n, r, q⟩ := (show ObjOk P w H h a (.ins C dx fs) from hok a _ e)
  exact ⟨mA, ⟨ob, n, ne⟩, r, q, z, d⟩
end

structure Cls (K : PySem.W.Frag) (C : Addr) : Prop where
  pg : PySem.W.plainGet K C Str.empty = true
  hd : PySem.W.hasDictIn K C = true
  po : PySem.W.plainOver K C = true
  sa : PySem.W.findIn K (.ref C) "__setattr__" = some (some (.builtin "object.__setattr__"))
theorem Cls.get {K : PySem.W.Frag} {C : Addr} (c : Cls K C) (f : Str) : PySem.W.plainGet K C f = true := c.pg
def NoAttr (K : PySem.W.Frag) (C : Addr) (f : Str) : Prop := PySem.W.findIn K (.ref C) f = some none
structure Con (K : PySem.W.Frag) (C : Addr) (f : Str) (v : V) (u : Value) : Prop where
  at_ : PySem.W.findIn K (.ref C) f = some (some u)
  rel : RelV v u
  get : PySem.W.specialIn K u "__get__" = some none
  cp : PySem.W.copiedNames.contains f = false
structure Meth (K : PySem.W.Frag) (C : Addr) (m : Str) (f : Addr) : Prop where
  at_ : PySem.W.findIn K (.ref C) m = some (some (.ref f))
  fn : PySem.W.isFn K (.ref f) = true
  kp : PySem.W.keepIn K (.ref f) = true

section
variable {X : Cx} {pins : List (Addr × Obj)} {σ : St} {H : Hp} {s : Shared} {a C dx : Addr} {fs : List (Str × V)} {f : Str} {v : V} {A : Around} {E : Value → Shared → Prop}

theorem Inv.made (I : Inv X pins σ H s) : Inv X pins σ (upd (upd H s.heap.objs.size (.own (s.heap.objs.size + 1))) (s.heap.objs.size + 1) (.ins C s.heap.objs.size []))
    { s with heap := (s.heap.push PySem.W.emptyDict).push (PySem.W.instObj C s.heap.objs.size) } := by
  have e1 : (s.heap.push PySem.W.emptyDict).get? s.heap.objs.size = some PySem.W.emptyDict := Heap.get?_push_size s.heap rfl
  have e2 : ((s.heap.push PySem.W.emptyDict).push (PySem.W.instObj C s.heap.objs.size)).get? (s.heap.objs.size + 1) = some (PySem.W.instObj C s.heap.objs.size) := by
    have := Heap.get?_push_size (s.heap.push PySem.W.emptyDict) (o := PySem.W.instObj C s.heap.objs.size) rfl
    rwa [Heap.size_push] at this
  have e3 : (s.heap.push PySem.W.emptyDict).Ns s.heap.objs.size (fun _ => none) := ⟨PySem.W.emptyDict, #[], _, e1, rfl, (fun e he => absurd he (by simp)), fun _ => rfl⟩
  have I1 := I.laid (a := s.heap.objs.size) (o := .own (s.heap.objs.size + 1)) (h' := s.heap.push PySem.W.emptyDict) (t' := s.toks) (fun b u q => Heap.get?_push_of_some _ q) (Nat.le_refl _) ⟨_, e1⟩
  refine I1.laid (a := s.heap.objs.size + 1) (o := .ins C s.heap.objs.size []) (t' := s.toks) (fun b u q => Heap.get?_push_of_some _ q) (Nat.le_of_eq (Heap.size_push _ _)) ?_
  have ne : s.heap.objs.size ≠ s.heap.objs.size + 1 := Nat.ne_of_lt (Nat.lt_succ_self _)
  refine ⟨by rw [upd_ne ne, upd_same], Nat.zero_le _, ne, e2, fun _ => none, (Heap.Ns1.of_empty e3).at fun o q => Heap.get?_push_of_some _ q, fun _ => True.intro, fun y hy => absurd rfl hy⟩

end

def tFld (K : PySem.W.Frag) (ta : TE) (f : Str) : TE := fun σ H Q => ta σ H fun x H1 => ∃ a C dx fs v, x = .ref a ∧ H1 a = some (.ins C dx fs) ∧ Cls K C ∧ NoAttr K C f ∧ fs.lookup f = some v ∧ Q v H1
def sFld (K : PySem.W.Frag) (ta tv : TE) (f : Str) : TS := fun D σ H => tv σ H fun y H1 => ta σ H1 fun x H2 => ∃ a C dx fs, x = .ref a ∧ H2 a = some (.ins C dx fs) ∧ Cls K C ∧ NoAttr K C f ∧ fs.length < 1000 ∧
  D.nx σ (upd H2 a (.ins C dx (putF f y fs)))
section
variable {X : Cx} {o e value : Expr} {f : Str} {pos pos' tpos : Pos} {ta tv : TE}
end

section
variable {X : Cx} {pins : List (Addr × Obj)} {σ : St} {H : Hp} {s : Shared} {A : Around} {E : Value → Shared → Prop} {Q : Value → Shared → Prop} {c : Value} {b : Bool}
inductive TyOf (K : PySem.W.Frag) (H : Hp) : V → Value → Prop where
  | non : TyOf K H .non (.type "NoneType")
  | bl (x : Bool) : TyOf K H (.bl x) (.type "bool")
  | int (i : Int) : TyOf K H (.int i) (.type "int")
  | str (x : Str) : TyOf K H (.str x) (.type "str")
  | flt (x : UInt64) : TyOf K H (.flt x) (.type "float")
  | lst {a : Addr} {xs : List V} (e : H a = some (.lst xs)) : TyOf K H (.ref a) (.type "list")
  | frz {a : Addr} {o : Obj} {xs : List V} (e : H a = some (.frz o (.lst xs))) : TyOf K H (.ref a) (.type "list")
  | tup {a : Addr} {xs : List V} (e : H a = some (.tup xs)) : TyOf K H (.ref a) (.type "tuple")
  | dK {a : Addr} {kvs : List (Key × V)} (e : H a = some (.dK kvs)) : TyOf K H (.ref a) (.type "dict")
  | dT {a : Addr} {kvs : List (List Key × V)} (e : H a = some (.dT kvs)) : TyOf K H (.ref a) (.type "dict")
  | ins {a C dx : Addr} {fs : List (Str × V)} (e : H a = some (.ins C dx fs)) (cl : Cls K C) (ha : PySem.W.findIn K (.ref C) "__class__" = some (some (.builtin "object.__class__")))
      (hn : PySem.W.specialIn K (.builtin "object.__class__") "__get__" = some (some (.builtin "getset_descriptor.__get__"))) (htk : PySem.W.takesIn K (.builtin "object.__class__") = some true)
      (hm : PySem.W.mroIn K C (.type "object") = some true) : TyOf K H (.ref a) (.ref C)
theorem isinst_ok {x : V} {u t : Value} (I : Inv X pins σ H s) (rx : RelV x u) (ty : TyOf X.K H x t) (e : PySem.W.kitOne X.K t c = some b) (h : ∀ tk, Q (.bool b) { s with toks := tk }) :
    wpAny (model X.prog X.w) A (call (.builtin "isinstance") [u, c]) Q E s := by
  cases ty with
  | non => cases (show u = Value.none from rx); exact PySem.W.kia_one PySem.W.kitx_none I.kIn True.intro e (fun z => nomatch z) h
  | bl y => cases (show u = Value.bool y from rx); exact PySem.W.kia_one PySem.W.kitx_bool I.kIn True.intro e (fun z => nomatch z) h
  | int i => obtain ⟨t, q⟩ := (show ∃ t, u = Value.int i t from rx); cases q; exact PySem.W.kia_one PySem.W.kitx_int I.kIn True.intro e (fun z => nomatch z) h
  | str y => obtain ⟨t, q⟩ := (show ∃ t, u = Value.str y t from rx); cases q; exact PySem.W.kia_one PySem.W.kitx_str I.kIn True.intro e (fun z => nomatch z) h
  | flt y => obtain ⟨t, q⟩ := (show ∃ t, u = Value.float y t from rx); cases q; exact PySem.W.kia_one PySem.W.kitx_float I.kIn True.intro e (fun z => nomatch z) h
  | @lst a xs ea =>
    cases (show u = Value.ref a from rx)
    obtain ⟨_, _, n, _, h1⟩ := (show ObjOk X.prog X.w H s.heap a (.lst xs) from I.hok a _ ea)
    exact PySem.W.kia_one PySem.W.kitx_list I.kIn ⟨_, h1, rfl⟩ e (fun z => nomatch z) h
  | @frz a ob xs ea =>
    cases (show u = Value.ref a from rx)
    obtain ⟨_, _, _, n, _, h1⟩ := (show ObjOk X.prog X.w H s.heap a (.frz ob (.lst xs)) from I.hok a _ ea)
    exact PySem.W.kia_one PySem.W.kitx_list I.kIn ⟨_, h1, rfl⟩ e (fun z => nomatch z) h
  | @tup a xs ea =>
    cases (show u = Value.ref a from rx)
    obtain ⟨_, _, _, p⟩ := (show ObjOk X.prog X.w H s.heap a (.tup xs) from I.hok a _ ea)
    obtain ⟨o, h1, h2, _⟩ := p
    exact PySem.W.kia_one PySem.W.kitx_tuple I.kIn ⟨o, h1, h2⟩ e (fun z => nomatch z) h
  | @dK a kvs ea =>
    cases (show u = Value.ref a from rx)
    obtain ⟨_, _, vs, _, p⟩ := (show ObjOk X.prog X.w H s.heap a (.dK kvs) from I.hok a _ ea)
    obtain ⟨o, es, ep, h1, h2, _⟩ := p
    exact PySem.W.kia_one PySem.W.kitx_dict I.kIn ⟨o, h1, h2.1⟩ e (fun z => nomatch z) h
  | @dT a kvs ea =>
    cases (show u = Value.ref a from rx)
    obtain ⟨_, _, xs, _, o, es, ep, h1, h2, _⟩ := (show ObjOk X.prog X.w H s.heap a (.dT kvs) from I.hok a _ ea)
    exact PySem.W.kia_one PySem.W.kitx_dict I.kIn ⟨o, h1, h2.1⟩ e (fun z => nomatch z) h
  | @ins a C dx fs ea cl ha hn htk hm =>
    cases (show u = Value.ref a from rx)
    obtain ⟨mA, O, _⟩ := ins_get I.hok ea
    obtain ⟨od, J, _⟩ := O.look
    exact PySem.W.kia_one (PySem.W.kitx_own (cl.get _) cl.hd ha hn htk hm) I.kIn J e (fun z => nomatch z) h
end
end L2

namespace L2
open PySem PySem.Spec PyProof.Rows

structure Room (k : Nat) (A : Around) : Prop where
  hd : A.handled = none
  dp : A.depth + 3 * k + 5 < recursionLimit
  un : A.units + 16 * k + 200 < cLine
  gd : A.guards = some []
theorem Room.mono {j k : Nat} {A : Around} (r : Room k A) (h : j ≤ k) : Room j A := ⟨r.hd, by have := r.dp; omega, by have := r.un; omega, r.gd⟩
theorem Room.deeper {k : Nat} {A : Around} (r : Room (k + 1) A) (env : Env) : Room k (A.deeper env) :=
  ⟨r.hd, by have := r.dp; show A.depth + 1 + 3 * k + 5 < _; omega, by have := r.un; show A.units + 3 + 16 * k + 200 < _; omega, r.gd⟩
theorem Room.in1 {k : Nat} {A : Around} (r : Room (k + 1) A) : Room k A.in1 :=
  ⟨r.hd, by have := r.dp; show A.depth + 3 * k + 5 < _; omega, by have := r.un; show A.units + 1 + 16 * k + 200 < _; omega, r.gd⟩
theorem Room.depth {k : Nat} {A : Around} (r : Room k A) : A.depth < recursionLimit := by have := r.dp; omega
theorem Room.units {k : Nat} {A : Around} (r : Room k A) : A.units + 64 < cLine := by have := r.un; omega
def tNil : TA := fun _ H Q => Q [] H
def tCons (ta : TE) (tr : TA) : TA := fun σ H Q => ta σ H fun x H1 => tr σ H1 fun xs H2 => Q (x :: xs) H2
section
variable {X : Cx} {e : Expr} {es : List Expr} {te : TE} {t : TA} {pos : Pos}
theorem pa_nil : PA X [] tNil := fun _ _ _ _ H Q I h => Calls.spliced_nil ⟨[], H, I, .nil, h⟩
theorem pa_cons (ha : PE X e te) (hr : PA X es t) (hs : starEach (e :: es) X.env = (false, eval e X.env) :: starEach es X.env := by rfl) : PA X (e :: es) (tCons te t) := by
  intro pos pins s σ H Q I h
  rw [hs]
  show wpAny _ _ (spliced ((false, eval e X.env) :: backTo pos (starEach es X.env))) _ _ s
  refine Calls.spliced_cons (thn (ha pins s σ H _ I h) fun u s1 ⟨x, H1, I1, r1, q1⟩ => ?_)
  exact thn (hr pos pins s1 σ H1 _ I1 q1) fun us s2 ⟨xs, H2, I2, r2, q2⟩ => ⟨x :: xs, H2, I2, .cons r1 r2, q2⟩

def tTup (t : TA) : TE := fun σ H Q => t σ H fun xs H1 => xs.length ≤ sizeLine ∧ ∀ p, H1 p = none → Q (.ref p) (upd H1 p (.tup xs))
def tLst (t : TA) : TE := fun σ H Q => t σ H fun xs H1 => xs.length ≤ sizeLine ∧ ∀ p, H1 p = none → Q (.ref p) (upd H1 p (.lst xs))
theorem pe_tup {x1} (h : PA X es t) : PE X (.Tuple es x1 pos) (tTup t) := by
  intro pins s σ H Q I hq
  refine wpAny_Tuple_spliced (thn (h pos pins s σ H _ I hq) fun us s1 ⟨xs, H1, I1, r, z, q⟩ => ⟨by rw [← r.length]; exact z, ?_⟩)
  have hf : H1 s1.heap.objs.size = none := I1.hok.fresh (Nat.le_refl _)
  refine ⟨.ref s1.heap.objs.size, upd H1 s1.heap.objs.size (.tup xs), I1.laid (t' := s1.toks) (fun b u e => Heap.get?_push_of_some _ e) (Nat.le_refl _) ?_, rfl, q _ hf⟩
  exact ⟨z, us, r, ⟨_, Heap.get?_push_size _ rfl, rfl, _, rfl⟩⟩
theorem pe_lst (h : PA X es t) : PE X (.List es pos) (tLst t) := by
  intro pins s σ H Q I hq
  refine wpAny_List_spliced (thn (h pos pins s σ H _ I hq) fun us s1 ⟨xs, H1, I1, r, z, q⟩ => ⟨by rw [← r.length]; exact z, ?_⟩)
  have hf : H1 s1.heap.objs.size = none := I1.hok.fresh (Nat.le_refl _)
  refine ⟨.ref s1.heap.objs.size, upd H1 s1.heap.objs.size (.lst xs), I1.laid (t' := s1.toks) (fun b u e => Heap.get?_push_of_some _ e) (Nat.le_refl _) ?_, rfl, q _ hf⟩
  exact ⟨z, us, 0, r, Heap.get?_push_size _ rfl⟩
end

abbrev Sp := List V → Hp → VK → XK → Prop
abbrev CXT := List Env → Hp → Shared → XK → Value → Shared → Prop

structure Env0 (P : Program) (w : World) (K : PySem.W.Frag) (mg : Str → Option Value) (base : Heap) (A : Around) (outer : List Env) (s : Shared) (H : Hp) : Prop where
  frames : A.frames = some outer
  mod : Mod K mg base
  bs : ∀ b o, base.get? b = some o → s.heap.get? b = some o ∧ H b = none
  bsz : base.objs.size ≤ s.heap.objs.size
  funs : s.heap.FunFrames base outer
  frf : ∀ b ∈ frs outer, H b = none
  hok : HOk P w H s.heap
  bare : AllBare s.gens
def CE (outer : List Env) (P : Program) (w : World) (H : Hp) (s : Shared) (Q : VK) (u : Value) (s' : Shared) : Prop :=
  ∃ v H', s'.os = s.os ∧ AllBare s'.gens ∧ Un (frs outer) [] H H' s.heap s'.heap ∧ HOk P w H' s'.heap ∧ RelV v u ∧ Q v H'
def CR (CX : CXT) (outer : List Env) (P : Program) (w : World) (H : Hp) (s : Shared) (Q : VK) (E : XK) (r : Result) (s' : Shared) : Prop :=
  match r with
  | .ok (.ret u) => CE outer P w H s Q u s'
  | .ok _ => False
  | .error e => CX outer H s E e s'
structure FnOk (P : Program) (w : World) (K : PySem.W.Frag) (mg : Str → Option Value) (base : Heap) (CX : CXT) (k : Nat) (f : Addr) (fd : FuncData) (ps : List Str) (sp : Sp) : Prop where
  len : ∀ vs H Q E, sp vs H Q E → vs.length = ps.length
  run : ∀ (A : Around) (outer : List Env) (s : Shared) (H : Hp) (args : Args) (us : List Value) (vs : List V) (Q : VK) (E : XK), Room k A → Env0 P w K mg base A outer s H → BindsTo s fd args (ps.zip us) → Vals vs us → sp vs H Q E →
    codeAny (model P w) A (.call (.ref f) args) (CR CX outer P w H s Q E) s
theorem FnOk.mono {P : Program} {w : World} {K : PySem.W.Frag} {mg : Str → Option Value} {base : Heap} {CX : CXT} {j k : Nat} {f : Addr} {fd : FuncData} {ps : List Str} {sp : Sp} (F : FnOk P w K mg base CX j f fd ps sp) (h : j ≤ k) :
    FnOk P w K mg base CX k f fd ps sp := ⟨F.len, fun A outer s H args us vs Q E hr => F.run A outer s H args us vs Q E (hr.mono h)⟩
theorem FnOk.imp {P : Program} {w : World} {K : PySem.W.Frag} {mg : Str → Option Value} {base : Heap} {CX : CXT} {k : Nat} {f : Addr} {fd : FuncData} {ps : List Str} {sp sp' : Sp} (F : FnOk P w K mg base CX k f fd ps sp)
    (h : ∀ vs H Q E, sp' vs H Q E → sp vs H Q E) : FnOk P w K mg base CX k f fd ps sp' :=
  ⟨fun vs H Q E q => F.len vs H Q E (h _ _ _ _ q), fun A outer s H args us vs Q E hr he hb hv hs => F.run A outer s H args us vs Q E hr he hb hv (h _ _ _ _ hs)⟩

theorem Env0.in1 {P : Program} {w : World} {K : PySem.W.Frag} {mg : Str → Option Value} {base : Heap} {A : Around} {outer : List Env} {s : Shared} {H : Hp} (e : Env0 P w K mg base A outer s H) :
    Env0 P w K mg base A.in1 outer s H := ⟨e.frames, e.mod, e.bs, e.bsz, e.funs, e.frf, e.hok, e.bare⟩

section
variable {X : Cx} {pins : List (Addr × Obj)} {σ : St} {H : Hp} {s s' : Shared}
theorem Inv.env0 (I : Inv X pins σ H s) : Env0 X.prog X.w X.K X.mg X.base X.A X.stack s H :=
  ⟨I.ok.frames, I.ok.mod, I.bs, Nat.le_trans I.ok.bsz I.sz, I.stack, I.stkFree, I.hok, I.bare⟩
theorem Inv.after {Q : VK} {u : Value} (I : Inv X pins σ H s) (h : CE X.stack X.prog X.w H s Q u s') : EP X pins σ Q u s' := by
  obtain ⟨v, H', os, bare, un, hok, r, q⟩ := h
  obtain ⟨hh, g, d, t, os'⟩ := s'
  obtain rfl : os' = s.os := os
  exact ⟨v, H', I.call (h' := hh) (g' := g) (d' := d) (t' := t) (ch := []) un hok bare (fun b z => absurd z (by simp)), r, q⟩
end

def tCall (sp : Sp) (dvs : List V) (E : XK) (t : TA) : TE := fun σ H Q => t σ H fun vs H1 => sp (vs ++ dvs) H1 Q E
def tMake (C : Addr) (sp : Sp) (dvs : List V) (E : XK) (t : TA) : TE := fun σ H Q => t σ H fun vs H1 => ∀ x dx, H1 x = none → H1 dx = none → dx ≠ x →
  sp (.ref x :: (vs ++ dvs)) (upd (upd H1 dx (.own x)) x (.ins C dx [])) (fun v H2 => v = .non ∧ Q (.ref x) H2) E

def Binds (K : PySem.W.Frag) (fd : FuncData) (ps : List Str) (ds : List Value) : Prop :=
  ∀ (s : Shared) (us : List Value), K.In s.heap → (us ++ ds).length = ps.length → BindsTo s fd ⟨us, []⟩ (ps.zip (us ++ ds))
theorem Binds.all {K : PySem.W.Frag} {fd : FuncData} {ps : List Str} (h : ∀ us : List Value, us.length = ps.length → bindArgs fd ⟨us, []⟩ = pure (ps.zip us)) : Binds K fd ps [] := fun s us _ hl => by
  rw [List.append_nil] at hl ⊢
  exact .of_eq (h us hl)

def Passes (CX : CXT) (X : Cx) (E : XK) : Prop := ∀ (pins : List (Addr × Obj)) (σ : St) (H : Hp) (s : Shared) (e : Value) (s' : Shared), Inv X pins σ H s → CX X.stack H s E e s' → X.xe e s'

section
variable {X : Cx} {CX : CXT} {k : Nat} {f C : Addr} {fd : FuncData} {ps : List Str} {sp : Sp} {dvs : List V} {ds : List Value} {E : XK} {x m : Str} {p pos apos : Pos} {e o : Expr} {es : List Expr} {ta : TE} {t : TA}

theorem run_fn {pins : List (Addr × Obj)} {σ : St} {H : Hp} {s : Shared} {Q : VK} {us : List Value} {vs : List V} (F : FnOk X.prog X.w X.K X.mg X.base CX k f fd ps sp) (hr : Room k X.A) (hb : Binds X.K fd ps ds) (hd : Vals dvs ds) (hx : Passes CX X E)
    (I : Inv X pins σ H s) (r : Vals vs us) (h : sp (vs ++ dvs) H Q E) : wpAny (model X.prog X.w) X.A (call (.ref f) us) (EP X pins σ Q) X.xe s := by
  have r2 : Vals (vs ++ dvs) (us ++ ds) := r.append hd
  have hl : (us ++ ds).length = ps.length := by rw [← r2.length]; exact F.len _ _ _ _ h
  refine wpAny_call (codeAny_mono (F.run X.A X.stack s H ⟨us, []⟩ (us ++ ds) (vs ++ dvs) Q E hr I.env0 (hb s us I.kIn hl) r2 h) fun r s' hq => ?_)
  cases r with
  | error e => exact hx pins σ H s e s' I hq
  | ok fl =>
    cases fl with
    | ret u => exact I.after hq
    | next => exact False.elim hq
    | brk => exact False.elim hq
    | cont => exact False.elim hq

theorem pe_call (F : FnOk X.prog X.w X.K X.mg X.base CX k f fd ps sp) (hr : Room k X.A) (hg : Gl X x) (hm : X.mg x = some (.ref f)) (hk : PySem.W.keepIn X.K (.ref f) = true) (hb : Binds X.K fd ps ds) (hd : Vals dvs ds) (hx : Passes CX X E)
    (ha : PA X (e :: es) t) (hdb : (x == ("__debug__" : Str)) = false := by decide) (he : starEach (e :: es) X.env = (false, eval e X.env) :: starEach es X.env := by rfl) (hpl : (backTo pos (starEach es X.env)).any (·.1) = false := by rfl) :
    PE X (.Call (.Name x p) (e :: es) [] pos) (tCall sp dvs E t) := by
  intro pins s σ H Q I h
  refine wpAny_Call_Name_kw (ld_glob I hg hm ?_ hdb)
  refine PySem.W.callWith_K (h₀ := X.base) I.ok.mod.kin hk (thn (ha pos pins s σ H _ I h) fun us s1 ⟨vs, H1, I1, r, q⟩ => ⟨I1.kIn, ?_⟩) he hpl
  exact run_fn F hr hb hd hx I1 r q
structure Mk (K : PySem.W.Frag) (C f : Addr) : Prop where
  makes : PySem.W.makesIn K C = true
  init : PySem.W.findIn K (.ref C) "__init__" = some (some (.ref f))
  fn : PySem.W.isFn K (.ref f) = true
  kp : PySem.W.keepIn K (.ref C) = true

end

section
variable {X : Cx} {CX : CXT} {k : Nat} {f C : Addr} {fd : FuncData} {ps ks : List Str} {sp : Sp} {E : XK} {x m : Str} {p pos apos kpos : Pos} {e o : Expr} {es : List Expr} {kws : List Keyword} {te ta : TE} {t tk : TA} {nm : Option Str}
structure KBinds (K : PySem.W.Frag) (fd : FuncData) (ps ks : List Str) (g : List Value → List Value → List Value) (gV : List V → List V → List V) : Prop where
  to : ∀ (s : Shared) (us ws : List Value), K.In s.heap → (g us ws).length = ps.length → BindsTo s fd ⟨us, ks.zip ws⟩ (ps.zip (g us ws))
  rel : ∀ {vs : List V} {us : List Value} {zs : List V} {ws : List Value}, Vals vs us → Vals zs ws → Vals (gV vs zs) (g us ws)
def tCallK (sp : Sp) (gV : List V → List V → List V) (E : XK) (t tk : TA) : TE := fun σ H Q => t σ H fun vs H1 => tk σ H1 fun zs H2 => sp (gV vs zs) H2 Q E
variable {g : List Value → List Value → List Value} {gV : List V → List V → List V}
end

structure FnScope (N P : List Str) (sc : Scope) : Prop where
  kind : sc.kind = .function
  co : sc.isCoroutine = false
  gen : sc.isGenerator = false
  nd : N.Nodup
  pre : N.take P.length = P
  par : ∀ x ∈ P, sc.names.lookup x = some .local ∨ sc.names.lookup x = some .cell
  nofree : ∀ y ∈ sc.names, y.2 ≠ .free

theorem bindL_out {kindOf : Str → Option NameKind} {x : Str} : ∀ {binds : List (Str × Value)} {m : Str → Option Value}, (∀ v, (x, v) ∉ binds) → bindL kindOf binds m x = m x
  | [], _, _ => rfl
  | (n, v) :: r, m, h => by
    unfold bindL
    rw [bindL_out fun w hw => h w (List.mem_cons_of_mem _ hw)]
    split
    · have : x ≠ n := by rintro rfl; exact h v List.mem_cons_self
      simp [this]
    · rfl
theorem bindC_out {kindOf : Str → Option NameKind} {x : Str} : ∀ {binds : List (Str × Value)} {m : Str → Option Value}, (∀ v, (x, v) ∉ binds) → bindC kindOf binds m x = m x
  | [], _, _ => rfl
  | (n, v) :: r, m, h => by
    unfold bindC
    rw [bindC_out fun w hw => h w (List.mem_cons_of_mem _ hw)]
    split
    · rfl
    · have : x ≠ n := by rintro rfl; exact h v List.mem_cons_self
      simp [this]
theorem bindL_get {kindOf : Str → Option NameKind} {x : Str} {v : Value} : ∀ {P : List Str} {vs : List Value} {i : Nat} {m : Str → Option Value}, P.Nodup → P[i]? = some x → vs[i]? = some v → kindOf x = some .local →
    bindL kindOf (P.zip vs) m x = some v
  | [], _, _, _, _, h, _, _ => by simp at h
  | _ :: _, [], _, _, _, _, h, _ => by simp at h
  | p :: P, w :: vs, 0, m, nd, h1, h2, hk => by
    simp at h1 h2; subst h1; subst h2
    show bindL kindOf ((p, w) :: P.zip vs) m p = _
    unfold bindL
    rw [bindL_out fun v hv => (List.nodup_cons.mp nd).1 (List.of_mem_zip hv).1, if_pos hk]
    simp
  | p :: P, w :: vs, i + 1, m, nd, h1, h2, hk => by
    show bindL kindOf ((p, w) :: P.zip vs) m x = _
    unfold bindL
    exact bindL_get (i := i) (List.nodup_cons.mp nd).2 (by simpa using h1) (by simpa using h2) hk
theorem bindC_get {kindOf : Str → Option NameKind} {x : Str} {v : Value} : ∀ {P : List Str} {vs : List Value} {i : Nat} {m : Str → Option Value}, P.Nodup → P[i]? = some x → vs[i]? = some v → kindOf x ≠ some .local →
    bindC kindOf (P.zip vs) m x = some v
  | [], _, _, _, _, h, _, _ => by simp at h
  | _ :: _, [], _, _, _, _, h, _ => by simp at h
  | p :: P, w :: vs, 0, m, nd, h1, h2, hk => by
    simp at h1 h2; subst h1; subst h2
    show bindC kindOf ((p, w) :: P.zip vs) m p = _
    unfold bindC
    rw [bindC_out fun v hv => (List.nodup_cons.mp nd).1 (List.of_mem_zip hv).1, if_neg hk]
    simp
  | p :: P, w :: vs, i + 1, m, nd, h1, h2, hk => by
    show bindC kindOf ((p, w) :: P.zip vs) m x = _
    unfold bindC
    exact bindC_get (i := i) (List.nodup_cons.mp nd).2 (by simpa using h1) (by simpa using h2) hk

def start (N : List Str) (vs : List V) : St := vs.map some ++ List.replicate (N.length - vs.length) none

def cxOf (CX : CXT) (P : Program) (w : World) (K : PySem.W.Frag) (mg : Str → Option Value) (base : Heap) (N : List Str) (qual : Str) (scope : Scope) (f : Addr) (cd : Value) (A : Around) (outer : List Env) (s : Shared) (H : Hp) (E : XK) : Cx where
  prog := P
  w := w
  K := K
  mg := mg
  base := base
  A := A.deeper (envOfC qual scope s.heap.objs.size f cd)
  N := N
  s₀ := s
  H₀ := H
  env := envOfC qual scope s.heap.objs.size f cd
  outer := outer
  stack := envOfC qual scope s.heap.objs.size f cd :: outer
  ex := []
  calm := true
  fn := fun _ => true
  pn := []
  xe := fun e s' => wpAny (model P w) (A.deeper (envOfC qual scope s.heap.objs.size f cd)) (leaving (envOfC qual scope s.heap.objs.size f cd) e) (fun _ s'' => CX outer H s E e s'') (fun e' s'' => CX outer H s E e' s'') s'

theorem cell_has {sc : Scope} {n : Nat} {x : Str} (h : sc.names.lookup x = some .cell) : ∃ c, (cellsFrom n sc.names []).lookup x = some c := by
  have q := PySem.W.cellsFrom_some sc.names n [] (.inl h)
  exact Option.isSome_iff_exists.mp q

theorem inv_start {CX : CXT} {P : Program} {w : World} {K : PySem.W.Frag} {mg : Str → Option Value} {base : Heap} {N ps : List Str} {qual : Str} {scope : Scope} {f : Addr} {cd : Value} {A : Around} {outer : List Env} {s s1 : Shared} {H : Hp} {E : XK} {us : List Value} {vs : List V}
    (S : FnScope N ps scope) (hd : A.handled = none) (e0 : Env0 P w K mg base A outer s H) (hl : vs.length = ps.length) (r : Vals vs us)
    (x : InCallC s s.heap.objs.size (bindL (envOfC qual scope s.heap.objs.size f cd).kindOf (ps.zip us) fun _ => none) (cellsFrom (s.heap.objs.size + 1) scope.names []) (bindC (envOfC qual scope s.heap.objs.size f cd).kindOf (ps.zip us) fun _ => none) s1) :
    Inv (cxOf CX P w K mg base N qual scope f cd A outer s H E) [] (start N vs) H s1 := by
  have hpl : ps.length ≤ N.length := by have := congrArg List.length S.pre; rw [List.length_take] at this; omega
  obtain ⟨h1, tk, rfl, hk⟩ := x.done
  have noA : ∀ b : Addr, b ∉ (cxOf CX P w K mg base N qual scope f cd A outer s H E).ex := fun b z => absurd (show b ∈ ([] : List Addr) from z) (by simp)
  refine ⟨⟨e0.mod, S.kind, rfl, rfl, Nat.le_refl _, fun y z c h1 h2 => ?_, fun y hy => ?_, fun y c _ h => ?_, fun _ => hd, Around.frames_deeper e0.frames, .inr ⟨rfl, rfl⟩, fun b z => absurd z (noA b), e0.bs, e0.bsz, fun b _ _ => noA b, fun b z => absurd z (noA b), e0.funs, e0.frf⟩,
    rfl, e0.bare, Un.kept hk, ⟨_, x.toInCall.ns, fun i y v h1 h2 h3 => ?_⟩, fun y c h => ⟨_, x.cell y c h⟩, e0.hok.fresh (Nat.le_refl _), fun y c h => ?_, fun p hp => absurd (show p ∈ ([] : List (Addr × Obj)) from hp) (by simp), e0.hok.kept hk, ?_⟩
  · exact name_of_addr x.apart (PySem.mem_of_lookup h1) (PySem.mem_of_lookup h2)
  · have hy : scope.names.lookup y = some .cell ∨ scope.names.lookup y = some .free := hy
    rcases hy with hy | hy
    · exact cell_has hy
    · exact absurd rfl (S.nofree _ (PySem.mem_of_lookup hy))
  · exact Nat.le_of_lt (x.above y c (PySem.mem_of_lookup h))
  · have hi : i < vs.length := by
      unfold start at h2
      by_cases hi : i < vs.length
      · exact hi
      · rw [List.getElem?_append_right (by simpa using hi)] at h2
        rw [List.getElem?_replicate] at h2
        split at h2 <;> cases h2
    have ha : vs[i]? = some v := by
      unfold start at h2
      rw [List.getElem?_append_left (by simpa using hi), List.getElem?_map] at h2
      cases e : vs[i]? with
      | none => rw [e] at h2; cases h2
      | some a => rw [e] at h2; cases h2; rfl
    obtain ⟨u, hu, rv⟩ := r.get ha
    have hp : ps[i]? = some y := by
      rw [← S.pre, List.getElem?_take_of_lt (by omega)]; exact h1
    have ndP : ps.Nodup := by rw [← S.pre]; exact S.nd.sublist (List.take_sublist _ _)
    refine ⟨u, rv, ?_⟩
    rcases S.par y (List.mem_of_getElem? hp) with k | k
    · exact .inl ⟨k, bindL_get ndP hp hu k⟩
    · obtain ⟨c, e⟩ := cell_has (n := s.heap.objs.size + 1) k
      refine .inr ⟨.inl k, c, e, ?_⟩
      have q := x.cell y c e
      rw [bindC_get ndP hp hu (by show scope.names.lookup y ≠ _; rw [k]; decide)] at q
      exact q
  · exact e0.hok.fresh (Nat.le_of_lt (x.above y c (PySem.mem_of_lookup h)))
  · unfold start
    show _ = N.length
    rw [List.length_append, List.length_map, List.length_replicate]
    omega

theorem fn_of {CX : CXT} {P : Program} {w : World} {K : PySem.W.Frag} {mg : Str → Option Value} {base : Heap} {k : Nat} {f : Addr} {name qual : Str} {params : Arguments} {body : List Stmt} {scope : Scope} {dV kV doc pm cdv ct oc : Value} {an od : Option Addr}
    {osl : Array (Option Value)} {N ps : List Str} {sp : Sp} (lk : K.lookup f = some ⟨oc, od, .func (PySem.W.fnOf name qual params body scope dV kV doc pm an cdv ct), osl⟩) (hcd : PySem.W.codeIn K cdv qual = true) (S : FnScope N ps scope)
    (len : ∀ vs H Q E, sp vs H Q E → vs.length = ps.length)
    (hbody : ∀ (A : Around) (outer : List Env) (s : Shared) (H : Hp) (vs : List V) (Q : VK) (E : XK), Room k (A.deeper (envOfC qual scope s.heap.objs.size f cdv)) → sp vs H Q E →
      ∃ t, PSs (cxOf CX P w K mg base N qual scope f cdv A outer s H E) body t ∧ t { nx := fun _ H' => Q .non H', rt := Q } (start N vs) H) :
    FnOk P w K mg base CX (k + 1) f (PySem.W.fnOf name qual params body scope dV kV doc pm an cdv ct) ps sp := by
  refine ⟨len, fun A outer s H args us vs Q E hr e0 hb r hsp => ?_⟩
  have hl := len _ _ _ _ hsp
  have KX : K.In s.heap := e0.mod.kin.keeps fun b o e => (e0.bs b o e).1
  have lim : s.heap.NoLimit := e0.mod.nolimit.keeps fun b o e => (e0.bs b o e).1
  have hkind : ∀ y ∈ ps.zip us, scope.names.lookup y.1 = some .local ∨ (scope.names.lookup y.1 = some .cell ∧ ((cellsFrom (s.heap.objs.size + 1) scope.names []).lookup y.1).isSome = true) := fun ⟨n, v⟩ hy => by
    rcases S.par n (List.of_mem_zip hy).1 with q | q
    · exact .inl q
    · exact .inr ⟨q, PySem.W.cellsFrom_some _ _ _ (.inl q)⟩
  refine codeAny_call_function hr.depth (KX _ _ lk) rfl S.co S.gen rfl (PySem.W.codeRec_of KX hcd) (hb _ _ _ _ ?_)
  refine wpAny_newFunctionEnv_cells S.kind hkind fun env he s1 x => ?_
  subst he
  refine ⟨lim.keeps x.toInCall.keep, codeAny_func ?_⟩
  obtain ⟨t, ht, hq⟩ := hbody A outer s H vs Q E (hr.deeper _) hsp
  have I : Inv (cxOf CX P w K mg base N qual scope f cdv A outer s H E) [] (start N vs) H s1 := inv_start S hr.hd e0 hl r x
  refine wpAny_mono (ht [] s1 (start N vs) H _ I hq) (fun fl s' hs => ?_) fun e s' hs => hs
  have fin : ∀ {σ' : St} {H' : Hp} {v : V} {u : Value}, Inv (cxOf CX P w K mg base N qual scope f cdv A outer s H E) [] σ' H' s' → RelV v u → Q v H' → CE outer P w H s Q u s' :=
    fun {σ' H' v u} J rv q => ⟨v, H', J.os, J.bare, J.base, J.hok, rv, q⟩
  cases fl with
  | ret u =>
    obtain ⟨v, σ', H', J, rv, q⟩ := hs
    exact fin J rv q
  | next =>
    obtain ⟨σ', H', J, q⟩ := hs
    exact fin (v := V.non) (u := Value.none) J rfl q
  | brk =>
    obtain ⟨_, _, _, q⟩ := hs
    exact False.elim q
  | cont =>
    obtain ⟨_, _, _, q⟩ := hs
    exact False.elim q
end L2

namespace L2
open PySem PySem.Spec PyProof.Rows
section
variable {X : Cx} {x : Str} {p pos : Pos} {e : Expr} {es : List Expr} {t : TA} {id T : String} {r : List V → Hp → VK → Prop}

def tCB (r : List V → Hp → VK → Prop) (t : TA) : TE := fun σ H Q => t σ H fun vs H1 => r vs H1 Q
theorem pe_callB (hc : CallR X (.builtin id) r) (hg : Gl X x) (hm : X.mg x = none) (hv : bootBuiltins x = some (.builtin id)) (ha : PA X (e :: es) t) (hn : x ≠ "__name__" := by decide) (hdb : (x == ("__debug__" : Str)) = false := by decide)
    (he : starEach (e :: es) X.env = (false, eval e X.env) :: starEach es X.env := by rfl) (hpl : (backTo pos (starEach es X.env)).any (·.1) = false := by rfl) : PE X (.Call (.Name x p) (e :: es) [] pos) (tCB r t) := by
  intro pins s σ H Q I h
  refine wpAny_Call_Name_kw (ld_blt I hg hm hv ?_ hn hdb)
  exact PyProof.Rows.callWith_builtin1 (thn (ha pos pins s σ H _ I h) fun us s1 ⟨vs, H1, I1, r1, q1⟩ => hc pins s1 σ H1 vs us Q I1 r1 q1) he hpl
theorem pe_callTy (hc : CallR X (.type T) r) (hg : Gl X x) (hm : X.mg x = none) (hv : bootBuiltins x = some (.type T)) (ha : PA X (e :: es) t) (hn : x ≠ "__name__" := by decide) (hdb : (x == ("__debug__" : Str)) = false := by decide)
    (he : starEach (e :: es) X.env = (false, eval e X.env) :: starEach es X.env := by rfl) (hpl : (backTo pos (starEach es X.env)).any (·.1) = false := by rfl) : PE X (.Call (.Name x p) (e :: es) [] pos) (tCB r t) := by
  intro pins s σ H Q I h
  refine wpAny_Call_Name_kw (ld_blt I hg hm hv ?_ hn hdb)
  exact PyProof.Rows.callWith_type1 (thn (ha pos pins s σ H _ I h) fun us s1 ⟨vs, H1, I1, r1, q1⟩ => hc pins s1 σ H1 vs us Q I1 r1 q1) he hpl
end
end L2

namespace HT
open PySem PyProof.Rows

section
open PySem.SeqAt
open PySem.AutoSeq1 (wpAny_loadPart')
open PySem.MeetsSeq PySem.MeetsSeq2 PySem.MeetsSeq3

end

section
variable {prog : Program} {w : World} {A : Around} {E : Value → Shared → Prop} {s : Shared}

theorem cat_tup {t b : Addr} {vs ws : List Value} {Q : Value → Shared → Prop} (ht : IsTup s.heap t vs.toArray) (hb : IsTup s.heap b ws.toArray) (hv : vs ≠ [])
    (h1 : ws = [] → Q (.ref t) s) (h2 : ws ≠ [] → Q (.ref s.heap.objs.size) { s with heap := s.heap.push { cls := .type "tuple", data := .seq (vs ++ ws).toArray } })
    (hsz : vs.length + ws.length ≤ sizeLine) : wpAny (model prog w) A (binaryOp .Add (.ref t) (.ref b)) Q E s := by
  obtain ⟨⟨cls, dd, data, sl⟩, ho, hc, n, hd⟩ := id ht
  obtain ⟨⟨cls2, dd2, data2, sl2⟩, ho2, hc2, n2, hd2⟩ := id hb
  simp only at hc hd hc2 hd2
  subst hc hd hc2 hd2
  have e : vs.toArray ++ ws.toArray = (vs ++ ws).toArray := by simp
  by_cases hw : ws = []
  · exact concat_meets ⟨_, ho, rfl⟩ ⟨_, ho2, rfl⟩ noFill_tuple_add seq_tuple_add PySem.F.slot_tuple_add PySem.F.entry_tuple_add (PySem.F.args_tuple_add_2 _ _)
      (tuple_addW1 t b vs.toArray ws.toArray n n2 dd dd2 sl sl2 (by simpa using hv) (by simp [hw])) ⟨ho, ho2, h1 hw⟩
  · refine concat_meets ⟨_, ho, rfl⟩ ⟨_, ho2, rfl⟩ noFill_tuple_add seq_tuple_add PySem.F.slot_tuple_add PySem.F.entry_tuple_add (PySem.F.args_tuple_add_2 _ _)
      (tuple_addW2 t b vs.toArray ws.toArray n n2 dd dd2 sl sl2 (by simpa using hv) (by simpa using hw) (by rw [List.size_toArray, List.size_toArray]; exact hsz)) ⟨ho, ho2, ?_⟩
    rw [e]
    exact h2 hw

def sIx (n d : Nat) : Option Int → Nat
  | none => d
  | some v => if v < 0 then (v + (n : Int)).toNat else min v.toNat n
theorem sIx_none (n d : Nat) : sIx n d none = d := rfl
theorem sIx_nat (n d k : Nat) : sIx n d (some (k : Int)) = min k n := by
  show (if (k : Int) < 0 then ((k : Int) + (n : Int)).toNat else min (k : Int).toNat n) = min k n
  rw [if_neg (by omega), Int.toNat_natCast]
theorem sIx_le (n d : Nat) (hd : d ≤ n) (o : Option Int) : sIx n d o ≤ n := by
  cases o with
  | none => exact hd
  | some v =>
    show (if v < 0 then (v + (n : Int)).toNat else min v.toNat n) ≤ n
    by_cases hv : v < 0
    · rw [if_pos hv]; omega
    · rw [if_neg hv]; exact Nat.min_le_right _ _
theorem clip_eq (v : Int) (n d : Nat) : (if v < 0 then max (v + (n : Int)) 0 else min v (n : Int)) = ((sIx n d (some v) : Nat) : Int) := by
  show (if v < 0 then max (v + (n : Int)) 0 else min v (n : Int)) = (((if v < 0 then (v + (n : Int)).toNat else min v.toNat n) : Nat) : Int)
  by_cases hv : v < 0
  · simp only [if_pos hv]; omega
  · simp only [if_neg hv]; omega
theorem adjust_gen (lo hi : Option Int) (n : Nat) : Builtin.Slice.sliceAdjust lo hi 1 (n : Int) = (((sIx n 0 lo : Nat) : Int), ((sIx n n hi : Nat) : Int)) := by
  have h1 : ¬ ((1 : Int) < 0) := by omega
  unfold Builtin.Slice.sliceAdjust
  simp only [h1, if_false]
  refine Prod.ext ?_ ?_
  · cases lo with
    | none => rfl
    | some v => exact clip_eq v n 0
  · cases hi with
    | none => rfl
    | some v => exact clip_eq v n n
theorem places_gen (i j : Nat) : Builtin.Slice.slicePlaces (i : Int) (j : Int) 1 = j - i := by
  unfold Builtin.Slice.slicePlaces
  have h1 : (1 : Int) > 0 := by omega
  simp only [h1, if_true, Int.ediv_one]
  split <;> omega
theorem slicePart_ {v : Value} {o : Option Int} {Q : Option Int → Shared → Prop} (p : IsPart v o) (h : Q o s) : wpAny (model prog w) A (Builtin.Slice.slicePartIndex v) Q E s := by
  cases p with
  | none => exact slicePart_none h
  | int i t => exact slicePart_int h
theorem sliceApplied_gen {sl : Addr} {vl vu : Value} {lo hi : Option Int} {n : Nat} {Q : Int × Int × Nat → Shared → Prop} (hs : s.heap.IsSliceOf sl vl vu .none) (pl : IsPart vl lo) (pu : IsPart vu hi)
    (h : Q (((sIx n 0 lo : Nat) : Int), 1, sIx n n hi - sIx n 0 lo) s) : wpAny (model prog w) A (Builtin.Slice.sliceApplied (.ref sl) (pure (n : Int))) Q E s := by
  obtain ⟨os, hos, hcs, hds⟩ := id hs
  unfold Builtin.Slice.sliceApplied Builtin.Slice.sliceFields
  refine wpAny_bind (wpAny_bind (wpAny_field hos hds (x := vl) rfl (wpAny_bind (wpAny_field hos hds (x := vu) rfl (wpAny_bind (wpAny_field hos hds (x := .none) rfl (wpAny_pure ?_)))))))
  refine wpAny_bind (slicePart_none ?_)
  show wpAny _ _ (if ((1 : Int) == 0) = true then _ else _) _ _ s
  rw [if_neg (by decide)]
  refine wpAny_bind (slicePart_ pl (wpAny_bind (slicePart_ pu (wpAny_bind (wpAny_pure ?_)))))
  show wpAny _ _ (match Builtin.Slice.sliceAdjust lo hi 1 (n : Int) with | (lo, hi) => pure (lo, (1 : Int), Builtin.Slice.slicePlaces lo hi 1)) _ _ s
  rw [adjust_gen lo hi n]
  show wpAny _ _ (pure (((sIx n 0 lo : Nat) : Int), (1 : Int), Builtin.Slice.slicePlaces ((sIx n 0 lo : Nat) : Int) ((sIx n n hi : Nat) : Int) 1)) _ _ s
  rw [places_gen]
  exact wpAny_pure h
theorem pick_gen (xs : Array Value) (i k : Nat) : ((List.range k).filterMap fun (m : Nat) => xs[((i : Int) + (m : Int) * 1).toNat]?).toArray = ((xs.toList.drop i).take k).toArray := by
  have e : (fun (m : Nat) => xs[((i : Int) + (m : Int) * 1).toNat]?) = fun m => xs[i + m]? := by
    funext m
    have : ((i : Int) + (m : Int) * 1).toNat = i + m := by omega
    rw [this]
  rw [e]
  have := pick_run xs i k
  rw [List.filterMap_map] at this
  have e2 : ((fun x => xs[x]?) ∘ fun x => i + x) = fun m => xs[i + m]? := rfl
  rw [e2] at this
  rw [this]

theorem getItem_tuple_cut {t sl : Addr} {items : Array Value} {vl vu : Value} {lo hi : Option Int} {Q : Value → Shared → Prop} (ht : IsTup s.heap t items) (hs : s.heap.IsSliceOf sl vl vu .none) (pl : IsPart vl lo) (pu : IsPart vu hi)
    (hw : ¬ (sIx items.size 0 lo = 0 ∧ sIx items.size items.size hi = items.size))
    (h : Q (.ref s.heap.objs.size) { s with heap := s.heap.push { cls := .type "tuple", data := .seq ((items.toList.drop (sIx items.size 0 lo)).take (sIx items.size items.size hi - sIx items.size 0 lo)).toArray } })
    (hsz : items.size ≤ sizeLine) : wpAny (model prog w) A (getItem (.ref t) (.ref sl)) Q E s := by
  have htake : sizeOk (.seq ((items.toList.drop (sIx items.size 0 lo)).take (sIx items.size items.size hi - sIx items.size 0 lo)).toArray) := by
    show ((items.toList.drop (sIx items.size 0 lo)).take (sIx items.size items.size hi - sIx items.size 0 lo)).toArray.size ≤ sizeLine
    rw [List.size_toArray, List.length_take, List.length_drop, Array.length_toList]
    omega
  have hj : sIx items.size items.size hi ≤ items.size := sIx_le _ _ (Nat.le_refl _) hi
  obtain ⟨os, hos, hcs, hds⟩ := id hs
  have hTs : s.TypeIs (.ref sl) "slice" := ⟨os, hos, hcs⟩
  unfold getItem
  try with_reducible refine wpAny_holding ?_
  first | refine wpAny_bind (wpAny_pure ?_) | skip
  refine wpAny_bind (wpAny_sequenceKey ht.typeIs (by decide) ?_)
  refine wpAny_bind (wpAny_callSpecial?_slot (name := Str.ofString "__getitem__") ht.typeIs PyProof.Rows.slot_tuple_getitem
    (wpAny_call_entry PyProof.Rows.slot_tuple_getitem ht.typeIs entry_tuple_getitem ?_ (args_tuple_getitem _ _)))
  show wpAny _ _ (Builtin.Tuple.tupleItemsOf (.ref t) >>= _) _ _ s
  refine wpAny_bind (tupleItemsOf_ ht ?_)
  refine wpAny_bind (wpAny_typeOf hTs ?_)
  rw [if_pos (by decide)]
  refine wpAny_bind (sliceApplied_gen hs pl pu ?_)
  have hno : ¬ ((((sIx items.size 0 lo : Nat) : Int) == 0 && (1 : Int) == 1 && (sIx items.size items.size hi - sIx items.size 0 lo) == items.size) = true) := by
    intro q
    rw [Bool.and_eq_true, Bool.and_eq_true] at q
    have q1 : ((sIx items.size 0 lo : Nat) : Int) = 0 := eq_of_beq q.1.1
    have q2 : sIx items.size items.size hi - sIx items.size 0 lo = items.size := eq_of_beq q.2
    exact hw ⟨by omega, by omega⟩
  show wpAny _ _ (if (((sIx items.size 0 lo : Nat) : Int) == 0 && (1 : Int) == 1 && (sIx items.size items.size hi - sIx items.size 0 lo) == items.size) = true then _ else _) _ _ s
  rw [if_neg hno, pick_gen]
  first
    | exact wpAny_bind (m := Builtin.Tuple.tupleExact _) (wpAny_newObj_type (wpAny_pure ⟨_, rfl, wpAny_pure h⟩) htake)
    | exact wpAny_bind (m := Builtin.Tuple.tupleExact _) (wpAny_newObj_type (wpAny_bind (wpAny_pure (wpAny_pure ⟨_, rfl, wpAny_pure h⟩))) htake)
    | exact wpAny_bind (wpAny_bind (m := Builtin.Tuple.tupleExact _) (wpAny_newObj_type (wpAny_pure (wpAny_pure ⟨_, rfl, wpAny_pure h⟩)) htake))
    | exact wpAny_bind (wpAny_bind (m := Builtin.Tuple.tupleExact _) (wpAny_newObj_type (wpAny_pure ⟨_, rfl, wpAny_pure h⟩) htake))
end
end HT

namespace L2
open PySem PySem.Spec PyProof.Rows

abbrev TO := St → Hp → (Option Int → Hp → Prop) → Prop
def PO (X : Cx) (e : Option Expr) (t : TO) : Prop :=
  ∀ (pins : List (Addr × Obj)) (s : Shared) (σ : St) (H : Hp) (Q : Option Int → Hp → Prop), Inv X pins σ H s → t σ H Q →
    wpAny (model X.prog X.w) X.A (evalPart e X.env) (fun u s' => ∃ o H', Inv X pins σ H' s' ∧ IsPart u o ∧ Q o H') X.xe s
def tNoPart : TO := fun _ H Q => Q none H
def tPart (t : TE) : TO := fun σ H Q => t σ H fun x H1 => ∃ i, x = .int i ∧ Q (some i) H1

theorem intsAre_of {ns : List Int} : ∀ {us : List Value}, Vals (ns.map V.int) us → IntsAre us ns := by
  induction ns with
  | nil => intro us r; rw [List.map_nil] at r; cases r; exact .nil
  | cons n ns ih =>
    intro us r
    rw [List.map_cons] at r
    cases r with
    | cons r1 r2 =>
      obtain ⟨t, e⟩ := r1
      subst e
      exact .cons n t (ih r2)

section
variable {X : Cx} {e : Expr} {te : TE} {lo hi : Option Expr} {tl th : TO} {pos p2 : Pos}

theorem po_none : PO X none tNoPart := by
  intro pins s σ H Q I h
  rw [evalPart_none]
  exact wpAny_pure ⟨none, H, I, .none, h⟩
theorem po_some (h : PE X e te) : PO X (some e) (tPart te) := by
  intro pins s σ H Q I hw
  rw [evalPart_some]
  refine thn (h pins s σ H _ I hw) fun u s1 ⟨x, H1, I1, r1, q1⟩ => ?_
  obtain ⟨i, rfl, q⟩ := q1
  obtain ⟨t, rfl⟩ := r1
  exact ⟨some i, H1, I1, .int i t, q⟩

def SlR (X : Cx) (r : V → Option Int → Option Int → Hp → VK → Prop) : Prop :=
  ∀ (pins : List (Addr × Obj)) (s : Shared) (σ : St) (H : Hp) (x : V) (v vl vu : Value) (lo hi : Option Int) (sl : Addr) (Q : VK), Inv X pins σ H s → RelV x v → s.heap.IsSliceOf sl vl vu .none → IsPart vl lo → IsPart vu hi → r x lo hi H Q →
    ∃ T id, typeLookup (.type T) "__getitem__" = pure (some (.builtin id)) ∧ s.TypeIs v T ∧ wpAny (model X.prog X.w) X.A (getItem v (.ref sl)) (EP X pins σ Q) X.xe s
theorem SlR.or {r r' : V → Option Int → Option Int → Hp → VK → Prop} (h : SlR X r) (h' : SlR X r') : SlR X (fun x lo hi H Q => r x lo hi H Q ∨ r' x lo hi H Q) := by
  intro pins s σ H x v vl vu lo hi sl Q I rx hs pl pu q
  rcases q with q | q
  · exact h pins s σ H x v vl vu lo hi sl Q I rx hs pl pu q
  · exact h' pins s σ H x v vl vu lo hi sl Q I rx hs pl pu q
def tSl (r : V → Option Int → Option Int → Hp → VK → Prop) (te : TE) (tl th : TO) : TE := fun σ H Q => te σ H fun x H1 => tl σ H1 fun l H2 => th σ H2 fun u H3 => r x l u H3 Q
theorem pe_slice {r : V → Option Int → Option Int → Hp → VK → Prop} (hr : SlR X r) (he : PE X e te) (hl : PO X lo tl) (hu : PO X hi th) : PE X (.Subscript e (.Slice lo hi none p2) pos) (tSl r te tl th) := by
  intro pins s σ H Q I h
  refine Subscript_ (thn (he pins s σ H _ I h) fun v s1 ⟨x, H1, I1, r1, q1⟩ => ?_)
  refine wpAny_Slice (thn (hl pins s1 σ H1 _ I1 q1) fun vl s2 ⟨l, H2, I2, pl, q2⟩ => thn (hu pins s2 σ H2 _ I2 q2) fun vu s3 ⟨u, H3, I3, pu, q3⟩ => ?_)
  rw [evalPart_none]
  refine wpAny_pure ?_
  have I4 : Inv X pins σ H3 { s3 with heap := s3.heap.push { cls := .type "slice", data := .fields #[vl, vu, .none] } } := I3.kept (t' := s3.toks) fun b ob q => Heap.get?_push_of_some _ q
  obtain ⟨T, id, hT, ht, hg⟩ := hr pins { s3 with heap := s3.heap.push { cls := .type "slice", data := .fields #[vl, vu, .none] } } σ H3 x v vl vu l u s3.heap.objs.size Q I4 r1 (Heap.IsSliceOf.new ..) pl pu q3
  show wpAny (model X.prog X.w) X.A (subscriptTail e (.Slice lo hi none p2) v (.ref s3.heap.objs.size)) (EP X pins σ Q) X.xe { s3 with heap := s3.heap.push { cls := .type "slice", data := .fields #[vl, vu, .none] } }
  exact tail_any (ops := [.ref s3.heap.objs.size, v]) ht hT hg (by with_unfolding_all rfl)

def cutV (xs : List V) (lo hi : Option Int) : List V := (xs.drop (HT.sIx xs.length 0 lo)).take (HT.sIx xs.length xs.length hi - HT.sIx xs.length 0 lo)
theorem cutV_length (xs : List V) (lo hi : Option Int) : (cutV xs lo hi).length ≤ xs.length := by
  unfold cutV
  rw [List.length_take, List.length_drop]
  omega
def rSlT (K : PySem.W.Frag) : V → Option Int → Option Int → Hp → VK → Prop := fun x lo hi H Q => ∃ a xs, x = .ref a ∧ SqT K H a xs ∧
  ¬ (HT.sIx xs.length 0 lo = 0 ∧ HT.sIx xs.length xs.length hi = xs.length) ∧ ∀ p, H p = none → Q (.ref p) (upd H p (.tup (cutV xs lo hi)))
theorem sl_tup : SlR X (rSlT X.K) := by
  intro pins s σ H x v vl vu lo hi sl Q I rx hs pl pu h
  obtain ⟨a, xs, rfl, hx, hw, q⟩ := h
  cases rx
  obtain ⟨its, r, ht, hz⟩ := I.tuple hx
  have hlen : its.toArray.size = xs.length := by rw [List.size_toArray]; exact r.length.symm
  refine ⟨"tuple", _, PyProof.Rows.slot_tuple_getitem.lookup, ht.typeIs, ?_⟩
  refine HT.getItem_tuple_cut ht hs pl pu (by rw [hlen]; exact hw) ?_ (by rw [hlen]; exact hz)
  rw [hlen]
  refine ⟨.ref s.heap.objs.size, _, I.laid (t' := s.toks) (o := .tup (cutV xs lo hi)) (fun b ob q => Heap.get?_push_of_some _ q) (Nat.le_refl _) ?_, rfl, q _ (I.hok.fresh (Nat.le_refl _))⟩
  exact ⟨Nat.le_trans (cutV_length xs lo hi) hz, _, (r.drop (HT.sIx xs.length 0 lo)).take (HT.sIx xs.length xs.length hi - HT.sIx xs.length 0 lo), IsTup.new _ _⟩

def rCatT (K : PySem.W.Frag) : R2 := fun x y H Q => ∃ a b xs ys, x = .ref a ∧ y = .ref b ∧ SqT K H a xs ∧ SqT K H b ys ∧ xs ≠ [] ∧ xs.length + ys.length ≤ sizeLine ∧
  (ys = [] → Q (.ref a) H) ∧ (ys ≠ [] → ∀ p, H p = none → Q (.ref p) (upd H p (.tup (xs ++ ys))))
theorem Vals.nil_iff {xs : List V} {us : List Value} (r : Vals xs us) : us = [] ↔ xs = [] := by
  cases r with
  | nil => simp
  | cons _ _ => simp
theorem op_catT : OpR X (binaryOp .Add) (rCatT X.K) := by
  intro pins s σ H x y v u Q I rx ry h
  obtain ⟨a, b, xs, ys, rfl, rfl, ha, hb, hx, hz, q1, q2⟩ := h
  cases rx
  cases ry
  obtain ⟨its, r1, p1, _⟩ := I.tuple ha
  obtain ⟨its2, r2, p2, _⟩ := I.tuple hb
  refine HT.cat_tup p1 p2 (fun z => hx (r1.nil_iff.mp z)) (fun z => ⟨.ref a, H, I, rfl, q1 (r2.nil_iff.mp z)⟩) (fun z => ?_) (by rw [← r1.length, ← r2.length]; exact hz)
  refine ⟨.ref s.heap.objs.size, _, I.laid (t' := s.toks) (o := .tup (xs ++ ys)) (fun b ob q => Heap.get?_push_of_some _ q) (Nat.le_refl _) ?_, rfl, q2 (fun w => z (r2.nil_iff.mpr w)) _ (I.hok.fresh (Nat.le_refl _))⟩
  exact ⟨by rw [List.length_append]; exact hz, _, r1.append r2, IsTup.new _ _⟩
end
end L2

namespace L2
open PySem PySem.Spec PyProof.Rows

def ixN (n : Nat) (i : Int) : Option Nat := if 0 ≤ i then (if i < n then some i.toNat else none) else if -(n : Int) ≤ i then some (i + n).toNat else none
def atI {α : Type} (xs : List α) (i : Int) : Option α := (ixN xs.length i).bind fun j => xs[j]?
theorem ixN_seq {n : Nat} {i : Int} {j : Nat} (h : ixN n i = some j) : seqIndex? i n = some j ∧ j < n ∧ -(n : Int) ≤ i ∧ i < n := by
  unfold ixN at h
  by_cases h0 : 0 ≤ i
  · rw [if_pos h0] at h
    by_cases h1 : i < n
    · rw [if_pos h1] at h
      have e : i.toNat = j := Option.some.inj h
      exact ⟨by rw [seqIndex_of h0 h1, e], by omega, by omega, h1⟩
    · rw [if_neg h1] at h; cases h
  · rw [if_neg h0] at h
    by_cases h1 : -(n : Int) ≤ i
    · rw [if_pos h1] at h
      have e : (i + n).toNat = j := Option.some.inj h
      exact ⟨by rw [seqIndex_neg (by omega) h1, e], by omega, h1, by omega⟩
    · rw [if_neg h1] at h; cases h
theorem atI_get {α : Type} {xs : List α} {i : Int} {v : α} (h : atI xs i = some v) : ∃ j, seqIndex? i xs.length = some j ∧ xs[j]? = some v ∧ j < xs.length ∧ -(xs.length : Int) ≤ i ∧ i < xs.length := by
  unfold atI at h
  cases e : ixN xs.length i with
  | none => rw [e] at h; cases h
  | some j =>
    rw [e] at h
    obtain ⟨h1, h2, h3, h4⟩ := ixN_seq e
    exact ⟨j, h1, h, h2, h3, h4⟩
theorem atI_nat {α : Type} {xs : List α} {j : Nat} {v : α} (h : xs[j]? = some v) : atI xs (j : Int) = some v := by
  have hj : j < xs.length := (List.getElem?_eq_some_iff.mp h).1
  have e : ixN xs.length (j : Int) = some j := by
    unfold ixN
    rw [if_pos (by omega), if_pos (by omega)]; simp
  unfold atI; rw [e]; exact h
def PlainIx (b : Expr) : Prop := ∀ o i, subscripted b false o i = operate [o, i] (getItem o i)
def IxR (X : Cx) (r : R2) : Prop :=
  ∀ (value slice : Expr) (pins : List (Addr × Obj)) (s : Shared) (σ : St) (H : Hp) (x y : V) (v u : Value) (Q : VK), Inv X pins σ H s → RelV x v → RelV y u → r x y H Q →
    subscripted slice false v u = operate [v, u] (getItem v u) → wpAny (model X.prog X.w) X.A (subscriptTail value slice v u) (EP X pins σ Q) X.xe s
def MtR (X : Cx) (id : String) (r : V → List V → Hp → VK → Prop) : Prop :=
  ∀ (pins : List (Addr × Obj)) (s : Shared) (σ : St) (H : Hp) (x : V) (xs : List V) (v : Value) (us : List Value) (Q : VK), Inv X pins σ H s → RelV x v → Vals xs us → r x xs H Q →
    wpAny (model X.prog X.w) X.A (call (.builtin id) (v :: us)) (EP X pins σ Q) X.xe s
section
variable {X : Cx} {a b : Expr} {ta tb : TE} {pos : Pos}
theorem IxR.or {r r' : R2} (h : IxR X r) (h' : IxR X r') : IxR X (fun x y H Q => r x y H Q ∨ r' x y H Q) := by
  intro value slice pins s σ H x y v u Q I rx ry q hs
  rcases q with q | q
  · exact h value slice pins s σ H x y v u Q I rx ry q hs
  · exact h' value slice pins s σ H x y v u Q I rx ry q hs
theorem MtR.or {id : String} {r r' : V → List V → Hp → VK → Prop} (h : MtR X id r) (h' : MtR X id r') : MtR X id (fun x xs H Q => r x xs H Q ∨ r' x xs H Q) := by
  intro pins s σ H x xs v us Q I rx rs q
  rcases q with q | q
  · exact h pins s σ H x xs v us Q I rx rs q
  · exact h' pins s σ H x xs v us Q I rx rs q
theorem pe_ix {r : R2} (hr : IxR X r) (ha : PE X a ta) (hb : PE X b tb) (hs : PlainIx b) : PE X (.Subscript a b pos) (tOp r ta tb) := by
  intro pins s σ H Q I h
  exact Subscript_ (binT ha hb I h fun v u s2 x y H2 I2 rx ry q => hr a b pins s2 σ H2 x y v u Q I2 rx ry q (hs _ _))

def rIxL (K : PySem.W.Frag) : R2 := fun x y H Q => ∃ p xs i v, x = .ref p ∧ y = .int i ∧ SqL K H p xs ∧ atI xs i = some v ∧ Q v H
def rIxT (K : PySem.W.Frag) : R2 := fun x y H Q => ∃ p xs i v, x = .ref p ∧ y = .int i ∧ SqT K H p xs ∧ atI xs i = some v ∧ Q v H
def rIxS : R2 := fun x y H Q => ∃ z i c, x = .str z ∧ y = .int i ∧ z.length ≤ sizeLine ∧ atI z.cps.toList i = some c ∧ Q (.str ⟨#[c]⟩) H
theorem ix_list : IxR X (rIxL X.K) := by
  intro value slice pins s σ H x y v u Q I rx ry h hs
  obtain ⟨p, xs, i, z, rfl, rfl, hq, he, q⟩ := h
  cases rx
  obtain ⟨t, rfl⟩ := ry
  obtain ⟨its, r, pl, hz⟩ := I.list hq
  obtain ⟨j, h1, h2, h3, h4, h5⟩ := atI_get he
  obtain ⟨w, ew, rw'⟩ := r.get h2
  have hl := r.length
  have hn := line63
  have fin : EP X pins σ Q w s := ⟨z, H, I, rw', q⟩
  by_cases h0 : 0 ≤ i
  · have hj : i.toNat = j := by
      rw [seqIndex_of h0 h5] at h1
      exact Option.some.inj h1
    exact item_listR pl.isList h0 (by omega) (by rw [hj]; simpa using ew) fin hs
  · have hj : (i + (its.toArray.size : Int)).toNat = j := by
      rw [seqIndex_neg (by omega) h4] at h1
      rw [List.size_toArray, ← hl]
      exact Option.some.inj h1
    exact subscriptTail_builtinR (x := w) pl.isList.typeIs slot_list_getitem.lookup
      (wpAny_getItem_list_neg (Q := fun r s' => r = w ∧ EP X pins σ Q r s') pl.isList (by omega) (by rw [List.size_toArray] <;> omega) (by omega) (by rw [hj]; simpa using ew) ⟨rfl, fin⟩) hs
theorem ix_tup : IxR X (rIxT X.K) := by
  intro value slice pins s σ H x y v u Q I rx ry h hs
  obtain ⟨p, xs, i, z, rfl, rfl, hq, he, q⟩ := h
  cases rx
  obtain ⟨t, rfl⟩ := ry
  obtain ⟨its, r, pl, hz⟩ := I.tuple hq
  obtain ⟨j, h1, h2, h3, h4, h5⟩ := atI_get he
  obtain ⟨w, ew, rw'⟩ := r.get h2
  have hl := r.length
  have hn := line63
  have fin : EP X pins σ Q w s := ⟨z, H, I, rw', q⟩
  exact subscriptTail_builtinR (x := w) pl.typeIs slot_tuple_getitem.lookup
    (getItem_tuple (j := j) (Q := fun r s' => r = w ∧ EP X pins σ Q r s') pl (by omega) (by omega) (by rw [List.size_toArray, ← hl]; exact h1) (by simpa using ew) ⟨rfl, fin⟩) hs
def rIx (K : PySem.W.Frag) : R2 := fun x y H Q => rIxL K x y H Q ∨ rIxT K x y H Q ∨ rIxS x y H Q
theorem Inv.lst {pins : List (Addr × Obj)} {σ : St} {H : Hp} {s : Shared} {p : Addr} {xs : List V} (I : Inv X pins σ H s) (h : H p = some (.lst xs)) :
    ∃ (its : List Value) (n : Nat), Vals xs its ∧ s.heap.get? p = some { cls := .type "list", data := .seq its.toArray n } ∧ xs.length ≤ sizeLine := by
  obtain ⟨z, its, n, r, e⟩ := I.hok p _ h
  exact ⟨its, n, r, e, z⟩
theorem slice_bounds (lo hi : Option Int) (n : Nat) : (sliceBounds lo hi none n).1 = ((HT.sIx n 0 lo : Nat) : Int) ∧ (sliceBounds lo hi none n).2.1 = ((HT.sIx n n hi : Nat) : Int) ∧ (sliceBounds lo hi none n).2.2 = 1 := by
  refine ⟨?_, ?_, rfl⟩
  · cases lo with
    | none => simp [sliceBounds, HT.sIx]
    | some i =>
      simp only [sliceBounds, HT.sIx, Option.getD_none, show (1 : Int) > 0 by decide, if_true]
      by_cases h : i < 0
      · simp only [h, if_true] <;> omega
      · simp only [h, if_false] <;> omega
  · cases hi with
    | none => simp [sliceBounds, HT.sIx]
    | some i =>
      simp only [sliceBounds, HT.sIx, Option.getD_none, show (1 : Int) > 0 by decide, if_true]
      by_cases h : i < 0
      · simp only [h, if_true] <;> omega
      · simp only [h, if_false] <;> omega
theorem slicePick_cut (its : List Value) (lo hi : Option Int) : slicePick its.toArray lo hi none = ((its.drop (HT.sIx its.length 0 lo)).take (HT.sIx its.length its.length hi - HT.sIx its.length 0 lo)).toArray := by
  obtain ⟨h1, h2, h3⟩ := slice_bounds lo hi its.toArray.size
  unfold slicePick
  rw [h1, h2, h3]
  simp only [sliceRange_one, pick_run, List.size_toArray] <;> rfl
def rSlL (K : PySem.W.Frag) : V → Option Int → Option Int → Hp → VK → Prop := fun x lo hi H Q => ∃ a xs, x = .ref a ∧ SqL K H a xs ∧ ∀ p, H p = none → Q (.ref p) (upd H p (.lst (cutV xs lo hi)))
theorem sl_list : SlR X (rSlL X.K) := by
  intro pins s σ H x v vl vu lo hi sl Q I rx hs pl pu h
  obtain ⟨a, xs, rfl, hx, q⟩ := h
  cases rx
  obtain ⟨its, r, ht, hz⟩ := I.list hx
  have hlen := r.length
  refine ⟨"list", _, slot_list_getitem.lookup, ht.isList.typeIs, ?_⟩
  refine wpAny_getItem_list_slice ht.isList hs pl pu .none (by simp) ?_ (by rw [List.size_toArray] <;> omega)
  rw [slicePick_cut, ← hlen]
  refine ⟨.ref s.heap.objs.size, _, I.laid (t' := s.toks) (o := .lst (cutV xs lo hi)) (fun b ob q => Heap.get?_push_of_some _ q) (Nat.le_refl _) ?_, rfl, q _ (I.hok.fresh (Nat.le_refl _))⟩
  exact ⟨Nat.le_trans (cutV_length xs lo hi) hz, _, 0, (r.drop (HT.sIx xs.length 0 lo)).take (HT.sIx xs.length xs.length hi - HT.sIx xs.length 0 lo), Heap.get?_push_size _ rfl⟩

def flatV : V → Bool
  | .non => true
  | .bl _ => true
  | .int _ => true
  | .str _ => true
  | _ => false
def eqV : V → V → Bool
  | .non, .non => true
  | .bl a, .bl b => a == b
  | .bl a, .int b => (if a then 1 else 0) == b
  | .int a, .bl b => a == (if b then 1 else 0)
  | .int a, .int b => a == b
  | .str a, .str b => a == b
  | _, _ => false
theorem eqAt_V {A : Around} {s : Shared} {y x : V} {u v : Value} (ry : RelV y u) (rx : RelV x v) (fy : flatV y = true) (fx : flatV x = true) : SeqAt.EqAt A s u v (eqV y x) := by
  cases y with
  | non =>
    cases ry
    cases x with
    | non => cases rx; exact SeqAt.EqAt.same _
    | bl b => cases rx; exact SeqAt.EqAt.none_bool b
    | int b => obtain ⟨t, rfl⟩ := rx; exact SeqAt.EqAt.none_int b t
    | str b => obtain ⟨t, rfl⟩ := rx; exact SeqAt.EqAt.none_str b t
    | _ => exact absurd (show false = true from fx) Bool.false_ne_true
  | bl a =>
    cases ry
    cases x with
    | non => cases rx; exact SeqAt.EqAt.bool_none a
    | bl b => cases rx; exact SeqAt.EqAt.bool_bool a b
    | int b => obtain ⟨t, rfl⟩ := rx; exact SeqAt.EqAt.bool_int a b t
    | str b => obtain ⟨t, rfl⟩ := rx; exact SeqAt.EqAt.bool_str a b t
    | _ => exact absurd (show false = true from fx) Bool.false_ne_true
  | int a =>
    obtain ⟨t', rfl⟩ := ry
    cases x with
    | non => cases rx; exact SeqAt.EqAt.int_none a t'
    | bl b => cases rx; exact SeqAt.EqAt.int_bool a t' b
    | int b => obtain ⟨t, rfl⟩ := rx; exact SeqAt.EqAt.int_int a t' b t
    | str b => obtain ⟨t, rfl⟩ := rx; exact SeqAt.EqAt.int_str a t' b t
    | _ => exact absurd (show false = true from fx) Bool.false_ne_true
  | str a =>
    obtain ⟨t', rfl⟩ := ry
    cases x with
    | non => cases rx; exact SeqAt.EqAt.str_none a t'
    | bl b => cases rx; exact SeqAt.EqAt.str_bool a t' b
    | int b => obtain ⟨t, rfl⟩ := rx; exact SeqAt.EqAt.str_int a t' b t
    | str b => obtain ⟨t, rfl⟩ := rx; exact SeqAt.EqAt.str_str a t' b t
    | _ => exact absurd (show false = true from fx) Bool.false_ne_true
  | _ => exact absurd (show false = true from fy) Bool.false_ne_true
def eqU (x : V) (u : Value) : Bool := match u with
  | .none => eqV .non x
  | .bool b => eqV (.bl b) x
  | .int i _ => eqV (.int i) x
  | .str z _ => eqV (.str z) x
  | _ => false
theorem eqU_of {x y : V} {u : Value} (r : RelV y u) (f : flatV y = true) : eqU x u = eqV y x := by
  cases y with
  | non => cases r; rfl
  | bl b => cases r; rfl
  | int i => obtain ⟨t, rfl⟩ := r; rfl
  | str z => obtain ⟨t, rfl⟩ := r; rfl
  | _ => exact absurd (show false = true from f) Bool.false_ne_true
theorem any_eqU {x : V} : ∀ {xs : List V} {us : List Value}, Vals xs us → xs.all flatV = true → us.any (eqU x) = xs.any fun y => eqV y x
  | _, _, .nil, _ => rfl
  | y :: xs, u :: us, .cons r t, f => by
    rw [List.all_cons, Bool.and_eq_true] at f
    rw [List.any_cons, List.any_cons, eqU_of r f.1, any_eqU t f.2]
theorem mem_eqAt {A : Around} {s : Shared} {x : V} {v : Value} (rx : RelV x v) (fx : flatV x = true) : ∀ {xs : List V} {us : List Value}, Vals xs us → xs.all flatV = true → ∀ u ∈ us, SeqAt.EqAt A s u v (eqU x u)
  | _, _, .nil, _ => fun u hu => by cases hu
  | y :: xs, u :: us, .cons r t, f => fun u' hu => by
    rw [List.all_cons, Bool.and_eq_true] at f
    rcases List.mem_cons.mp hu with rfl | hu
    · rw [eqU_of r f.1]; exact eqAt_V r rx f.1 fx
    · exact mem_eqAt rx fx t f.2 u' hu
def inV (x : V) (xs : List V) : Bool := xs.any fun y => eqV y x
def rIn (K : PySem.W.Frag) (neg : Bool) : R2 := fun x y H Q => ∃ p xs, y = .ref p ∧ (SqL K H p xs ∨ SqT K H p xs) ∧ flatV x = true ∧ xs.all flatV = true ∧ Q (.bl (if neg then !inV x xs else inV x xs)) H
theorem op_in_seq : OpR X (compareOp .In) (rIn X.K false) := by
  intro pins s σ H x y v u Q I rx ry h
  obtain ⟨p, xs, rfl, hq, fx, fs, q⟩ := h
  cases ry
  rcases hq with hq | hq
  · obtain ⟨its, r, pl, hz⟩ := I.list hq
    refine SeqAt.in_listAt (eqU x) pl.isList (fun w hw => mem_eqAt rx fx r fs w (by simpa using hw)) ⟨.bl _, H, I, rfl, ?_⟩
    rw [show its.toArray.any (eqU x) = its.any (eqU x) by simp, any_eqU r fs]
    exact q
  · obtain ⟨its, r, pl, hz⟩ := I.tuple hq
    refine SeqAt.in_tupleAt (eqU x) pl (fun w hw => mem_eqAt rx fx r fs w (by simpa using hw)) ⟨.bl _, H, I, rfl, ?_⟩
    rw [show its.toArray.any (eqU x) = its.any (eqU x) by simp, any_eqU r fs]
    exact q
theorem op_notIn_seq : OpR X (compareOp .NotIn) (rIn X.K true) := by
  intro pins s σ H x y v u Q I rx ry h
  obtain ⟨p, xs, rfl, hq, fx, fs, q⟩ := h
  cases ry
  rcases hq with hq | hq
  · obtain ⟨its, r, pl, hz⟩ := I.list hq
    refine SeqAt.notIn_listAt (eqU x) pl.isList (fun w hw => mem_eqAt rx fx r fs w (by simpa using hw)) ⟨.bl _, H, I, rfl, ?_⟩
    rw [show its.toArray.any (eqU x) = its.any (eqU x) by simp, any_eqU r fs]
    exact q
  · obtain ⟨its, r, pl, hz⟩ := I.tuple hq
    refine SeqAt.notIn_tupleAt (eqU x) pl (fun w hw => mem_eqAt rx fx r fs w (by simpa using hw)) ⟨.bl _, H, I, rfl, ?_⟩
    rw [show its.toArray.any (eqU x) = its.any (eqU x) by simp, any_eqU r fs]
    exact q
theorem call_len_seq : CallR X (.builtin "len") (fun xs H Q => ∃ p ys, xs = [.ref p] ∧ (SqL X.K H p ys ∨ SqT X.K H p ys) ∧ Q (.int ys.length) H) := by
  intro pins s σ H xs us Q I r h
  obtain ⟨p, ys, rfl, hq, q⟩ := h
  obtain ⟨u, rfl, rx⟩ := vals1 r
  cases rx
  have hn := line63
  rcases hq with hq | hq
  · obtain ⟨its, r', pl, hz⟩ := I.list hq
    have hlen := r'.length
    exact Calls.call_len_list pl.isList (by simp only [List.size_toArray] <;> omega) ⟨.int ys.length, H, I.tok _, ⟨s.toks + 1, by rw [List.size_toArray, hlen]⟩, q⟩
  · obtain ⟨its, r', pl, hz⟩ := I.tuple hq
    have hlen := r'.length
    exact len_tuple pl (by simp only [List.size_toArray] <;> omega) ⟨.int ys.length, H, I.tok _, ⟨s.toks + 1, by rw [List.size_toArray, hlen]⟩, q⟩
theorem CallR.or {f : Value} {r r' : List V → Hp → VK → Prop} (h : CallR X f r) (h' : CallR X f r') : CallR X f (fun xs H Q => r xs H Q ∨ r' xs H Q) := by
  intro pins s σ H xs us Q I rs q
  rcases q with q | q
  · exact h pins s σ H xs us Q I rs q
  · exact h' pins s σ H xs us Q I rs q
theorem call_list_of : CallR X (.type "list") (fun xs H Q => ∃ p ys, xs = [.ref p] ∧ (SqL X.K H p ys ∨ SqT X.K H p ys) ∧ ∀ l, H l = none → Q (.ref l) (upd H l (.lst ys))) := by
  intro pins s σ H xs us Q I r h
  obtain ⟨p, ys, rfl, hq, q⟩ := h
  obtain ⟨u, rfl, rx⟩ := vals1 r
  cases rx
  have fin : ∀ (its : List Value), Vals ys its → ys.length ≤ sizeLine → ∀ (h' : Heap) (c' : Nat), (∀ b o', s.heap.get? b = some o' → h'.get? b = some o') →
      h'.get? s.heap.objs.size = some { cls := .type "list", dict := none, data := .seq its.toArray c', slots := #[] } → EP X pins σ Q (.ref s.heap.objs.size) { s with heap := h' } := fun its r' hz h' c' kp e =>
    ⟨.ref s.heap.objs.size, _, I.laid (t' := s.toks) kp (Nat.le_refl _) (show ObjOk X.prog X.w _ h' _ (.lst ys) from ⟨hz, its, c', r', e⟩), rfl, q _ (I.hok.fresh (Nat.le_refl _))⟩
  rcases hq with hq | hq
  · obtain ⟨its, r', pl, hz⟩ := I.list hq
    have hlen := r'.length
    obtain ⟨o, ho, hc, n, hd⟩ := pl.isList
    exact call_list_seq p (.inl rfl) ho hc hd (fun h' c' kp e => fin its r' hz h' c' kp e) (by simp only [List.size_toArray] <;> omega)
  · obtain ⟨its, r', pl, hz⟩ := I.tuple hq
    have hlen := r'.length
    obtain ⟨o, ho, hc, n, hd⟩ := pl
    exact call_list_seq p (.inr rfl) ho hc hd (fun h' c' kp e => fin its r' hz h' c' kp e) (by simp only [List.size_toArray] <;> omega)
theorem call_tuple_of : CallR X (.type "tuple") (fun xs H Q => ∃ p ys, xs = [.ref p] ∧ ((SqL X.K H p ys ∧ ∀ l, H l = none → Q (.ref l) (upd H l (.tup ys))) ∨ (SqT X.K H p ys ∧ Q (.ref p) H))) := by
  intro pins s σ H xs us Q I r h
  obtain ⟨p, ys, rfl, h⟩ := h
  obtain ⟨u, rfl, rx⟩ := vals1 r
  cases rx
  rcases h with ⟨hq, q⟩ | ⟨hq, q⟩
  · obtain ⟨its, r', pl, hz⟩ := I.list hq
    have hlen := r'.length
    refine call_tuple_list pl.isList (fun h' kp => ?_) (by simp only [List.size_toArray] <;> omega)
    have I1 : Inv X pins σ H { s with heap := h' } := I.kept (t' := s.toks) kp
    have I2 : Inv X pins σ (upd H h'.objs.size (.tup ys)) { s with heap := h'.push { cls := .type "tuple", data := .seq its.toArray } } :=
      I1.laid (t' := s.toks) (fun b o e => Heap.get?_push_of_some _ e) (Nat.le_refl _) (show ObjOk X.prog X.w _ _ _ (.tup ys) from ⟨hz, its, r', IsTup.new _ _⟩)
    exact ⟨.ref h'.objs.size, _, I2, rfl, q _ (I1.hok.fresh (Nat.le_refl _))⟩
  · obtain ⟨its, r', pl, hz⟩ := I.tuple hq
    exact call_tuple_same pl ⟨.ref p, H, I, rfl, q⟩

def tyV (K : PySem.W.Frag) (T : String) (x : V) (H : Hp) : Prop := match x with
  | .str _ => T = "str"
  | .int _ => T = "int"
  | .ref p => (T = "list" ∧ ∃ xs, SqL K H p xs) ∨ (T = "tuple" ∧ ∃ o, K.lookup p = some o ∧ o.cls = .type "tuple" ∧ o.dict = none) ∨
      (T = "dict" ∧ ((∃ kvs, H p = some (.dK kvs)) ∨ ∃ kvs, H p = some (.dT kvs))) ∨ (T = "set" ∧ ∃ S n, H p = some (.set S n))
  | _ => False
theorem tyV_is {pins : List (Addr × Obj)} {σ : St} {H : Hp} {s : Shared} {T : String} {x : V} {v : Value} (I : Inv X pins σ H s) (r : RelV x v) (ty : tyV X.K T x H) :
    s.TypeIs v T ∧ ∀ a, v = .ref a → ∃ ob, s.heap.get? a = some ob ∧ ob.dict = none := by
  cases x with
  | str z =>
    obtain ⟨t, rfl⟩ := r
    cases (show T = "str" from ty)
    exact ⟨typeIs_str s z t, fun _ e => nomatch e⟩
  | int i =>
    obtain ⟨t, rfl⟩ := r
    cases (show T = "int" from ty)
    exact ⟨typeIs_int s i t, fun _ e => nomatch e⟩
  | ref p =>
    cases r
    rcases ty with ⟨rfl, xs, hq⟩ | ⟨rfl, o, hk, hc, hd⟩ | ⟨rfl, hk⟩ | ⟨rfl, S, n, hk⟩
    · obtain ⟨its, _, pl, _⟩ := I.list hq
      refine ⟨pl.isList.typeIs, fun a e => ?_⟩
      cases e
      obtain ⟨o, n, e, c, hd, _⟩ := pl
      exact ⟨o, e, hd⟩
    · refine ⟨⟨o, I.kIn p o hk, hc⟩, fun a e => ?_⟩
      cases e
      exact ⟨o, I.kIn _ o hk, hd⟩
    · have z : ∃ o, s.heap.get? p = some o ∧ o.ExactDict := by
        rcases hk with ⟨kvs, hk⟩ | ⟨kvs, hk⟩
        · obtain ⟨_, _, _, _, o, _, _, e, ex, _⟩ := I.hok p _ hk
          exact ⟨o, e, ex⟩
        · obtain ⟨_, _, _, _, o, _, _, e, ex, _⟩ := I.hok p _ hk
          exact ⟨o, e, ex⟩
      obtain ⟨o, e, ex⟩ := z
      refine ⟨⟨o, e, ex.1⟩, fun a e2 => ?_⟩
      cases e2
      exact ⟨o, e, ex.2.1⟩
    · obtain ⟨o, _, _, _, e, ex, _⟩ := I.hok p _ hk
      refine ⟨⟨o, e, ex.1⟩, fun a e2 => ?_⟩
      cases e2
      exact ⟨o, e, ex.2.1⟩
  | _ => exact False.elim ty
def tBM0 (K : PySem.W.Frag) (T : String) (r : V → List V → Hp → VK → Prop) (to : TE) : TE := fun σ H Q => to σ H fun x H1 => tyV K T x H1 ∧ r x [] H1 Q
def tBM (K : PySem.W.Frag) (T : String) (r : V → List V → Hp → VK → Prop) (to : TE) (t : TA) : TE := fun σ H Q => to σ H fun x H1 => tyV K T x H1 ∧ t σ H1 fun xs H2 => r x xs H2 Q
variable {o e : Expr} {es : List Expr} {to : TE} {t : TA} {name : Str} {apos cpos : Pos} {T id : String} {r : V → List V → Hp → VK → Prop}
theorem pe_bm (pa : PlainAttrs T) (slot : Slot T name id) (hty : typeOf (.builtin id) = pure (.type "method_descriptor")) (hm : MtR X id r) (ho : PE X o to) (ha : PA X (e :: es) t)
    (hbase : attributeBase o name X.env (eval o X.env) = eval o X.env := by rfl)
    (hfew : ((backTo cpos (starEach (e :: es) X.env)).all (fun x => !x.1) && (backToKw cpos (keywordEach [] X.env)).all (fun x => x.1.isSome)
      && decide ((e :: es).length + ([] : List Keyword).length + (if ([] : List Keyword).isEmpty then 0 else 1) < 30)) = true := by rfl)
    (hline : (apos.endLine == cpos.line) = true := by rfl) (hs : starEach (e :: es) X.env = (false, eval e X.env) :: starEach es X.env := by rfl) (hplain : (backTo cpos (starEach es X.env)).any (·.1) = false := by rfl) :
    PE X (.Call (.Attribute o name apos) (e :: es) [] cpos) (tBM X.K T r to t) := by
  intro pins s σ H Q I h
  refine wpAny_Call_method_late hbase hfew hline rfl (thn (ho pins s σ H _ I h) fun v s1 ⟨x, H1, I1, r1, ty, q1⟩ => ?_)
  obtain ⟨h1, h2⟩ := tyV_is I1 r1 ty
  refine ⟨T, id, pa, slot, hty, h1, h2, ?_⟩
  have hA := ha cpos pins s1 σ H1 _ I1 q1
  rw [hs] at hA ⊢
  refine Calls.callWith_builtin (by show (false || (backTo cpos (starEach es X.env)).any (·.1)) = false; rw [hplain] <;> rfl) (Calls.evalArgs_plain ?_)
  exact thn hA fun us s2 ⟨vs, H2, I2, r2, q2⟩ => hm pins s2 σ H2 x vs v us Q I2 r1 r2 q2
/- xs.append(e), list.index on a module's tuple .. are MtR facts of 06m -/
end
end L2

namespace L2
open PySem PySem.Spec PyProof.Rows

def MtM (X : Cx) (id : String) (r : V → List V → Hp → VK → Prop) : Prop :=
  ∀ (pins : List (Addr × Obj)) (s : Shared) (σ : St) (H : Hp) (x : V) (xs : List V) (v : Value) (us : List Value) (Q : VK), Inv X pins σ H s → RelV x v → Vals xs us → r x xs H Q →
    wpAny (model X.prog X.w) X.A (call (.builtin id) (v :: us)) (EP X pins σ Q) X.xe s

theorem Vals.one : ∀ {x : V} {us : List Value}, Vals [x] us → ∃ u, us = [u] ∧ RelV x u
  | _, _, .cons r .nil => ⟨_, rfl, r⟩
theorem Vals.two : ∀ {x y : V} {us : List Value}, Vals [x, y] us → ∃ u v, us = [u, v] ∧ RelV x u ∧ RelV y v
  | _, _, _, .cons r (.cons q .nil) => ⟨_, _, rfl, r, q⟩
theorem Vals.zero : ∀ {us : List Value}, Vals [] us → us = []
  | _, .nil => rfl
theorem Vals.eraseIdx : ∀ {xs : List V} {us : List Value} (i : Nat), Vals xs us → Vals (xs.eraseIdx i) (us.eraseIdx i)
  | _, _, _, .nil => .nil
  | _, _, 0, .cons _ t => t
  | _, _, i + 1, .cons r t => .cons r (Vals.eraseIdx i t)
theorem Vals.reverse {xs : List V} {us : List Value} (h : Vals xs us) : Vals xs.reverse us.reverse := by
  induction h with
  | nil => exact .nil
  | cons r t ih => rw [List.reverse_cons, List.reverse_cons]; exact Vals.append ih (.cons r .nil)
theorem len_erase {α : Type} : ∀ (l : List α) (i : Nat), (l.eraseIdx i).length ≤ l.length
  | [], _ => Nat.le_refl _
  | _ :: _, 0 => Nat.le_succ _
  | _ :: r, i + 1 => Nat.succ_le_succ (len_erase r i)
section
variable {X : Cx} {pins : List (Addr × Obj)} {σ : St} {H : Hp} {s : Shared} {l b : Addr} {xs ys zs : List V}

theorem Inv.lset {its its' : List Value} {n : Nat} {f : Array Value → Array Value} {t' : Nat} (I : Inv X pins σ H s) (hH : H l = some (.lst xs))
    (e : s.heap.get? l = some { cls := .type "list", data := .seq its.toArray n }) (hf : f its.toArray = its'.toArray) (hv : Vals ys its') (hz : ys.length ≤ sizeLine) :
    Inv X pins σ (upd H l (.lst ys)) { s with heap := s.heap.update l (Obj.mapSeq f), toks := t' } := by
  have q := PySem.IsL.update e f
  rw [hf] at q
  refine I.write (x := l) (e := l) (by rw [hH]; exact trivial) (.inl rfl) (fun b' u hb hu => (Heap.get?_update_other s.heap (Obj.mapSeq f) (Ne.symm hb)).trans hu) ⟨_, q⟩ ?_
  exact ⟨hz, its', _, hv, q⟩
theorem Inv.lnew {its : List Value} {t' : Nat} (I : Inv X pins σ H s) (hv : Vals ys its) (hz : ys.length ≤ sizeLine) :
    Inv X pins σ (upd H s.heap.objs.size (.lst ys)) { s with heap := s.heap.push { cls := .type "list", data := .seq its.toArray }, toks := t' } :=
  I.laid (fun _ _ q => Heap.get?_push_of_some _ q) (Nat.le_refl _) ⟨hz, its, 0, hv, Heap.get?_push_size _ rfl⟩
theorem Inv.fresh (I : Inv X pins σ H s) : H s.heap.objs.size = none := I.hok.fresh (Nat.le_refl _)
theorem Inv.lstM (I : Inv X pins σ H s) (hH : H l = some (.lst xs)) : xs.length ≤ sizeLine ∧ ∃ (its : List Value) (n : Nat), Vals xs its ∧ xs.length = its.length ∧ s.heap.get? l = some { cls := .type "list", data := .seq its.toArray n } := by
  obtain ⟨z, its, n, r, e⟩ := I.hok l _ hH
  exact ⟨z, its, n, r, r.length, e⟩

theorem notLongL {n : Nat} (h : n ≤ sizeLine) : Builtin.List.listTooLong n = false := by
  unfold Builtin.List.listTooLong
  exact decide_eq_false (by omega)
end

section
variable {X : Cx}

def rAppend : V → List V → Hp → VK → Prop := fun x vs H Q => ∃ l xs y, x = .ref l ∧ vs = [y] ∧ H l = some (.lst xs) ∧ xs.length < sizeLine ∧ Q .non (upd H l (.lst (xs ++ [y])))
theorem mt_append : MtM X "list.append" rAppend := by
  intro pins s σ H x vs v us Q I rx rv h
  obtain ⟨l, xs, y, rfl, rfl, hH, hz, q⟩ := h
  cases rx
  obtain ⟨u, rfl, ru⟩ := rv.one
  obtain ⟨z, its, n, r, hl, e⟩ := I.lstM hH
  refine call_meets F.slot_list_append ⟨_, e, rfl⟩ F.entry_list_append (F.args_list_append_2 _ _) (PySem.list_append l its.toArray n u (by rw [List.size_toArray]; omega)) ⟨e, ?_⟩
  refine ⟨.non, _, I.lset (its' := its ++ [u]) hH e (by simp) (r.append (.cons ru .nil)) ?_, rfl, q⟩
  rw [List.length_append, List.length_singleton]
  omega

def rPopAt : V → List V → Hp → VK → Prop := fun x vs H Q => ∃ l xs i k y, x = .ref l ∧ vs = [.int i] ∧ H l = some (.lst xs) ∧ -(2 ^ 63) ≤ i ∧ i < 2 ^ 63 ∧ seqIndex? i xs.length = some k ∧ xs[k]? = some y ∧ Q y (upd H l (.lst (xs.eraseIdx k)))
theorem mt_popAt : MtM X "list.pop" rPopAt := by
  intro pins s σ H x vs v us Q I rx rv h
  obtain ⟨l, xs, i, k, y, rfl, rfl, hH, h1, h2, hk, hy, q⟩ := h
  cases rx
  obtain ⟨u, rfl, ru⟩ := rv.one
  obtain ⟨t, rfl⟩ := ru
  obtain ⟨z, its, n, r, hl, e⟩ := I.lstM hH
  obtain ⟨w, hw, rw'⟩ := r.get hy
  refine call_meets F.slot_list_pop ⟨_, e, rfl⟩ F.entry_list_pop (F.args_list_pop_2 _ _)
    (MeetsSeq.list_pop_at l its.toArray n i t k w (fitsIndex_both h1 h2) (by rw [List.size_toArray, ← hl]; exact hk) (by rw [← Array.getElem?_toList]; exact hw) (by rw [List.size_toArray]; omega)) ⟨e, ?_⟩
  refine ⟨y, _, I.lset (its' := its.eraseIdx k) hH e ?_ (r.eraseIdx k) ?_, rw', q⟩
  · show its.toArray.eraseIdxIfInBounds k = (its.eraseIdx k).toArray
    rw [List.eraseIdxIfInBounds_toArray]
  · have := len_erase xs k
    omega

def rCat : R2 := fun x y H Q => ∃ l b xs zs, x = .ref l ∧ y = .ref b ∧ H l = some (.lst xs) ∧ H b = some (.lst zs) ∧ xs.length + zs.length ≤ sizeLine ∧ ∀ p, H p = none → Q (.ref p) (upd H p (.lst (xs ++ zs)))
theorem op_cat : OpR X (binaryOp .Add) rCat := by
  intro pins s σ H x y v u Q I rx ry h
  obtain ⟨l, b, xs, zs, rfl, rfl, hH, hB, hz, q⟩ := h
  cases rx
  cases ry
  obtain ⟨z, its, n, r, hl, e⟩ := I.lstM hH
  obtain ⟨z2, its2, n2, r2, hl2, e2⟩ := I.lstM hB
  refine PySem.P.add_list e e2 ?_ (by rw [List.size_toArray, List.size_toArray]; omega)
  have ea : its.toArray ++ its2.toArray = (its ++ its2).toArray := by simp
  rw [ea]
  exact ⟨.ref _, _, I.lnew (t' := s.toks) (r.append r2) (by rw [List.length_append]; omega), rfl, q _ I.fresh⟩
end

section
variable {prog : Program} {w : World} {A : Around} {E : Value → Shared → Prop} {s : Shared}
theorem bounds_run {a c n : Nat} (hac : a ≤ c) (hc : c ≤ n) : sliceBounds (some (a : Int)) (some (c : Int)) none n = ((a : Int), (c : Int), 1) := by
  simp only [sliceBounds, Option.getD_none]
  have h1 : ¬ ((a : Int) < 0) := by omega
  have h2 : ¬ ((c : Int) < 0) := by omega
  simp only [h1, h2, if_false, show (1 : Int) > 0 by decide, if_true]
  congr 1
  · omega
  · congr 1; omega
set_option maxRecDepth 100000 in
/-- list.__setitem__ with a slice of step one and another list -/
theorem setItem_slice {l b sl : Addr} {items new : Array Value} {n n2 : Nat} {vl vu : Value} {a c : Nat} {Q : Unit → Shared → Prop}
    (e : s.heap.get? l = some { cls := .type "list", data := .seq items n }) (e2 : s.heap.get? b = some { cls := .type "list", data := .seq new n2 }) (hne : l ≠ b)
    (hs : s.heap.IsSliceOf sl vl vu .none) (pl : IsPart vl (some (a : Int))) (pu : IsPart vu (some (c : Int))) (hac : a ≤ c) (hc : c ≤ items.size)
    (hsz : items.size + new.size ≤ sizeLine) (h : Q () { s with heap := s.heap.update l (Obj.mapSeq fun xs => xs.extract 0 a ++ new ++ xs.extract c xs.size) }) :
    wpAny (model prog w) A (setItem (.ref l) (.ref sl) (.ref b)) Q E s := by
  have hl : s.heap.IsList l items := PySem.IsL.isList e
  have hb : s.heap.IsList b new := PySem.IsL.isList e2
  obtain ⟨os, hos, hcs, hds⟩ := id hs
  have hTs : s.TypeIs (.ref sl) "slice" := ⟨os, hos, hcs⟩
  have hstep : ¬ ((rawPart none == rawInt 0) = true) := Bool.false_ne_true
  have hsame : Builtin.List.listSameRef (.ref l) (.ref b) = false := by
    unfold Builtin.List.listSameRef
    exact beq_eq_false_iff_ne.mpr hne
  have hmax : (max (a : Int) (c : Int)).toNat = c := by omega
  have hz' : ((fun xs : Array Value => xs.extract 0 a ++ new ++ xs.extract c xs.size) items).size ≤ sizeLine + 1 := by
    simp only [Array.size_append, Array.size_extract]
    omega
  unfold setItem
  try with_reducible refine wpAny_holding ?_
  first | refine wpAny_bind (wpAny_pure ?_) | skip
  refine wpAny_bind (wpAny_sequenceKey hl.typeIs (by decide) ?_)
  refine wpAny_bind (wpAny_callSpecial?_slot (name := Str.ofString "__setitem__") hl.typeIs slot_list_setitem
    (wpAny_call_entry slot_list_setitem hl.typeIs entry_list_setitem ?_ (args_list_setitem _ _ _)))
  show wpAny _ _ (Builtin.List.listSubscript? (.ref sl) >>= _) _ _ s
  refine wpAny_bind ?_
  unfold Builtin.List.listSubscript?
  refine wpAny_bind (wpAny_specialOf hTs slice_no_index ?_)
  simp only [Option.isNone_none, if_true]
  refine wpAny_pure ?_
  show wpAny _ _ (typeOf (.ref sl) >>= _) _ _ s
  refine wpAny_bind (wpAny_typeOf hTs ?_)
  first
    | rw [if_neg (by decide)]
    | refine PySem.W.KFB.if_not (by decide) ?_
  rw [listSliceParts_eq]
  refine wpAny_bind (wpAny_bind (wpAny_field hos hds (x := .none) rfl (wpAny_bind (wpAny_listPart .none ?_))))
  rw [if_neg hstep]
  refine wpAny_bind (wpAny_field hos hds (x := vl) rfl (wpAny_bind (wpAny_listPart pl ?_)))
  refine wpAny_bind (wpAny_field hos hds (x := vu) rfl (wpAny_bind (wpAny_listPart pu (wpAny_pure ?_))))
  first
    | simp only [hsame, Bool.false_eq_true, if_false]
    | refine PySem.W.KFB.if_not hsame ?_
    | (dsimp only
       rw [if_neg (by rw [hsame]; exact Bool.false_ne_true)])
  refine wpAny_bind (m := Builtin.List.listAllItems (.ref b) "must assign iterable to extended slice") ?_
  unfold Builtin.List.listAllItems
  refine wpAny_bind (wpAny_typeOf hb.typeIs ?_)
  first
    | refine PySem.W.KFB.if_so (by decide) ?_
    | rw [if_pos (by decide)]
    | simp only [beq_self_eq_true, Bool.true_or, if_true]
  unfold Builtin.List.listItems
  refine wpAny_bind (wpAny_seqItems e2 rfl (wpAny_pure ?_))
  refine wpAny_bind (wpAny_bind (wpAny_seqItems e rfl (wpAny_pure ?_)))
  refine wpAny_bind (wpAny_of_eq ((sliceIndices_raw (some (a : Int)) (some (c : Int)) none items.size (by simp)).trans (congrArg (pure : Int × Int × Int → Sem (Int × Int × Int)) (bounds_run hac hc))) ?_)
  show wpAny _ _ (if ((1 : Int) == 1) = true then _ else _) _ _ s
  rw [if_pos (by decide)]
  refine wpAny_bind (wpAny_rule ?_)
  first
    | simp only [notLongL hsz, Bool.false_eq_true, if_false]
    | refine PySem.W.KFB.if_not (notLongL hsz) ?_
  first | refine wpAny_bind (wpAny_pure ?_) | skip
  show wpAny _ _ (updateSeq l (fun xs => xs.extract 0 ((a : Int)).toNat ++ new ++ xs.extract (max (a : Int) (c : Int)).toNat xs.size) >>= _) _ _ s
  rw [hmax, Int.toNat_natCast]
  refine wpAny_bind (wpAny_updateSeq (hz := Nat.le_trans (Nat.le_add_right _ _) hsz) (_hz' := hz') e rfl ?_)
  refine wpAny_bind (wpAny_letGo ?_)
  first
    | exact wpAny_bind (wpAny_pure (wpAny_pure ⟨.none, rfl, wpAny_pure h⟩))
    | exact wpAny_pure ⟨.none, rfl, wpAny_pure h⟩
end

section
variable {X : Cx}
end
end L2

namespace Att
open PySem PySem.W PySem.Calls PyProof.Rows

theorem ints_of_wellAll {P : Params} {h : Heap} : ∀ (ns : List Int) (vs : List Value), WellAll P h vs (ns.map WData.int) → IntsAre vs ns := by
  intro ns
  induction ns with
  | nil =>
    intro vs w
    rw [List.map_nil] at w
    cases w
    exact .nil
  | cons n ns ih =>
    intro vs w
    rw [List.map_cons] at w
    cases w with
    | cons a b =>
      cases a
      exact .cons _ _ (ih _ b)

theorem script_of {l : OpenLaw} {n : Nat} (hn : l.most = some n) {P : Params} {h : Heap} {args : List WData} {vals : List Value}
    (hpre : l.row.toRowW.claim.pre args = true) (hwl : WellAll P h vals args) :
    ∃ a vs ns, vals = [Value.ref a] ∧ args = [WData.list (ns.map WData.int)] ∧ h.get? a = some { cls := .type "list", data := .seq vs.toArray } ∧ IntsAre vs ns ∧ ns.length ≤ n := by
  have hsh : WShape.hasAll [] args [.list .int] = true := (pre_splitW hpre).1
  have hc : l.pre.holds [] { args := args } = true := (pre_splitW hpre).2
  obtain ⟨d, r, rfl, h1, h2⟩ := hasAllW_cons hsh
  obtain rfl := hasAllW_nil h2
  obtain ⟨xs, rfl, h3⟩ := hasW_list h1
  obtain ⟨ns, rfl⟩ := items_int h3
  have hlen : ns.length ≤ n := by
    unfold OpenLaw.pre at hc
    have h4 : (WTm.not (.lt (.lit (.int (n : Int))) (.len (.arg 0)))).holds [] { args := [.list (ns.map .int)] } = true := by
      have h4 := (holds_andW hc).1
      rw [hn] at h4
      exact h4
    have h5 := condW_of h4 (w_not (w_lt w_lit (w_len_list (w_arg rfl))))
    rw [List.length_map] at h5
    refine Nat.le_of_not_lt fun q => ?_
    have q' : (n : Int) < ((ns.length : Nat) : Int) := by omega
    first
      | (rw [decide_eq_true q'] at h5; exact absurd h5 (by decide))
      | (simp at h5; omega)
  cases hwl with
  | cons w1 w2 =>
    cases w2
    cases w1 with
    | list ho hall => exact ⟨_, _, ns, rfl, rfl, ho, ints_of_wellAll ns _ hall, hlen⟩

theorem post_true (l : OpenLaw) (args : List WData) : l.row.toRowW.claim.post args (.bool true) args = true :=
  postW_of (r := l.row.toRowW) (X := (true == true))
    (show WShape.has [] (.bool true) .bool = true by first | rfl | decide | simp [WShape.has, WShape.arms, WShape.armsAll])
    (show (WTm.eq .res (.lit (.bool true))).value [] { args := args, res := some (.bool true), after := args } = some (.bool (true == true)) from w_eq_bool (w_res rfl) w_lit) rfl

theorem attach_call {l : OpenLaw} {n : Nat} {q : Program} {loose : List Str} {XP : (Str → Option Value) → Heap → Prop} {YP : World → Heap → Prop} {d : DefRec}
    (hn : l.most = some n) (hdf : d.params.defaults = [])
    (call : ∀ (w : World) (s₀ s₁ : Shared) (mg mb : Str → Option Value) (fa : Addr) (o : Obj) (pm cd doc : Value) (a : Addr) (vs : List Value) (ns : List Int),
      Ground q loose [] XP w s₀ mg mb s₁.heap → YP w s₁.heap →
      s₁.heap.get? fa = some o → o.data = .func (docDef d.name d.params d.body d.scope pm cd doc) → s₁.heap.CodeRec cd d.name → mg d.name = some (.ref fa) →
      s₁.heap.get? a = some { cls := .type "list", data := .seq vs.toArray } → IntsAre vs ns → ns.length ≤ n → s₁.gens = #[] →
      codeAny (model l.prog w) callerA (.call (.ref fa) ⟨[.ref a], []⟩) (fun r s' => r = .ok (.ret (.bool true)) ∧ OldK s₁.heap s'.heap ∧ s'.os = s₁.os ∧ AllBare s'.gens) s₁) :
    WalkO q loose XP YP l.row.toRowW d [] (fun f vs => PySem.call f vs) := by
  intro w s₀ s₁ mg mb G Y fa o pm cd doc dV kV ho hd hcd hD hmg hg args vals as hpre hlay hrd hwl hlo
  obtain rfl : dV = .none := Dflts.none hD hdf
  obtain rfl : kV = .none := Dflts.noKw hD
  obtain ⟨a, vs, ns, rfl, rfl, hobj, hints, hlen⟩ := script_of hn hpre hwl
  refine enter_call (codeAny_mono (call w s₀ s₁ mg mb fa o pm cd doc a vs ns G Y ho (fd_plain hd) hcd hmg hobj hints hlen hg) fun r s' hq => ?_)
  obtain ⟨rfl, h2, h3, h4⟩ := hq
  exact ⟨.inl ⟨.bool true, .bool true, [], rfl, fun _ => rfl, .bool true, post_true l _, fun _ => ⟨List.Pairwise.nil, fun _ hm => (nomatch hm)⟩⟩, h2, h3, h4⟩

section
variable {prog : Program} {w : World} {A : Around} {E : Value → Shared → Prop} {s : Shared} {K : Frag}

def ledger (h : Heap) (L d : Addr) : List (Addr × Obj) := (List.range h.objs.size).filterMap fun a => if a = L ∨ a = d then none else (h.get? a).map fun o => (a, o)
end
end Att

namespace L2
open PySem PySem.Spec PyProof.Rows

theorem vals_ints : ∀ {vs : List Value} {ns : List Int}, IntsAre vs ns → Vals (ns.map V.int) vs
  | _, _, .nil => .nil
  | _, _, .cons n t h => .cons ⟨t, rfl⟩ (vals_ints h)

def Only (H : Hp) : Prop := ∀ b, H b = none ∨ ∃ o xs, H b = some (.frz o (.lst xs))

theorem law_call {P : Program} {w : World} {K : PySem.W.Frag} {mg mb : Str → Option Value} {CX : CXT} {k : Nat} {fa a : Addr} {fd : FuncData} {x : Str} {sp : Sp} {s₁ : Shared} {vs : List Value} {ns : List Int}
    (KX : K.In s₁.heap) (hns : s₁.heap.Ns mainGlobals mg) (hb : s₁.heap.Ns builtinsNs mb) (hbb : ∀ x : Str, x ≠ "__name__" → mb x = bootBuiltins x) (hlim : s₁.heap.NoLimit) (hg : s₁.gens = #[])
    (ha : s₁.heap.get? a = some { cls := .type "list", data := .seq vs.toArray }) (hi : IntsAre vs ns) (hl : ns.length ≤ sizeLine) (hr : Room k callerA)
    (F : ∀ base : Heap, K.In base → base.Ns mainGlobals mg → FnOk P w K mg base CX k fa fd [x] sp) (hbind : ∀ (s : Shared) (u : Value), BindsTo s fd ⟨[u], []⟩ [(x, u)])
    (hsp : ∀ H : Hp, Only H → SqL K H a (ns.map V.int) → sp [.ref a] H (fun v _ => v = .bl true) fun _ _ _ => False)
    (hCX : ∀ H e s', CX [] H s₁ (fun _ _ _ => False) e s' → False) :
    codeAny (model P w) callerA (.call (.ref fa) ⟨[.ref a], []⟩) (fun r s' => r = .ok (.ret (.bool true)) ∧ OldK s₁.heap s'.heap ∧ s'.os = s₁.os ∧ AllBare s'.gens) s₁ := by
  have rv := vals_ints hi
  have lenV := hi.length
  -- from an abstract heap in which nothing but the script may be tracked
  have core : ∀ H : Hp, Only H → SqL K H a (ns.map V.int) → HOk P w H s₁.heap → (∀ b, H b ≠ none → b = a) → (H a ≠ none → K.lookup a = none) →
      codeAny (model P w) callerA (.call (.ref fa) ⟨[.ref a], []⟩) (fun r s' => r = .ok (.ret (.bool true)) ∧ OldK s₁.heap s'.heap ∧ s'.os = s₁.os ∧ AllBare s'.gens) s₁ := by
    intro H hO hS hok hA hK
    have base_of : ∀ {b : Addr} {o : Obj}, s₁.heap.get? b = some o → H b = none → (hidT s₁.heap H).get? b = some o := fun e n => hidT_get e n
    have noA : ∀ {b : Addr} {o : Obj} {es : Array DictEntry} {ep : Nat}, s₁.heap.get? b = some o → o.data = .dict es ep → H b = none := fun {b o es ep} e d => by
      cases q : H b with
      | none => rfl
      | some u =>
        have e' : b = a := hA b (by rw [q]; simp)
        subst e'
        rw [ha] at e; cases e
        have d' : Data.seq vs.toArray _ = Data.dict es ep := d
        cases d'
    have nsK : ∀ {b : Addr} {m : Str → Option Value}, s₁.heap.Ns b m → (hidT s₁.heap H).Ns b m := fun {b m} ⟨o, es, ep, e, d, r⟩ => ⟨o, es, ep, base_of e (noA e d), d, r⟩
    have hKb : K.In (hidT s₁.heap H) := fun b o e => base_of (KX b o e) (by
      cases q : H b with
      | none => rfl
      | some u =>
        have e' : b = a := hA b (by rw [q]; simp)
        subst e'
        rw [hK (by rw [q]; simp)] at e; cases e)
    have hM : Mod K mg (hidT s₁.heap H) := ⟨hKb, nsK hns, ⟨mb, nsK hb, hbb⟩, let ⟨mc, h1, h2⟩ := hlim; ⟨mc, nsK h1, h2⟩⟩
    have e0 : Env0 P w K mg (hidT s₁.heap H) callerA [] s₁ H := ⟨rfl, hM, fun b o e => of_hidT e, Nat.le_of_eq (hidT_size _ _), trivial, fun b hb => absurd (show b ∈ ([] : List Addr) from hb) (by simp), hok, .of_eq hg⟩
    refine codeAny_mono ((F _ hKb (nsK hns)).run callerA [] s₁ H ⟨[.ref a], []⟩ [.ref a] [.ref a] _ _ hr e0 (hbind s₁ (.ref a)) (.cons rfl .nil) (hsp H hO hS)) fun r s' h => ?_
    cases r with
    | error e => exact (hCX H e s' h).elim
    | ok fl =>
      cases fl with
      | next => exact False.elim h
      | brk => exact False.elim h
      | cont => exact False.elim h
      | ret u =>
        obtain ⟨v, H', os, bare, un, hok', r', q⟩ := h
        have q' : v = .bl true := q
        subst q'
        obtain rfl : u = Value.bool true := r'
        refine ⟨rfl, OldK.of_keep fun b o e => ?_, os, bare⟩
        cases q : H b with
        | none => exact un.keep b o e q (by intro z; exact absurd (show b ∈ ([] : List Addr) from z) (by simp)) (by simp)
        | some u =>
          rcases hO b with z | ⟨ob, xs, z⟩
          · rw [q] at z; cases z
          · have z2 := un.frzs b ob _ z
            obtain ⟨e1, _⟩ := hok b _ z
            obtain ⟨e2, _⟩ := hok' b _ z2
            rw [e] at e1; cases e1
            exact e2
  cases hk : K.lookup a with
  | some o =>
    -- the script is one of the module's own objects
    have e := KX a o hk
    rw [ha] at e
    cases e
    refine core (fun _ => none) (fun _ => .inl rfl) (.inr ⟨_, vs.toArray, _, hk, rfl, rfl, rfl, by rw [List.size_toArray, lenV]; exact hl, by simpa using rv⟩) (fun b u z => by have z' : (none : Option HO) = some u := z; cases z') (fun b z => absurd rfl z) fun z => absurd rfl z
  | none =>
    refine core (fun b => if b = a then some (.frz { cls := .type "list", data := .seq vs.toArray } (.lst (ns.map V.int))) else none) (fun b => ?_) (.inl (.inr ⟨{ cls := .type "list", data := .seq vs.toArray }, if_pos rfl⟩)) (fun b u z => ?_) (fun b z => ?_) fun _ => hk
    · by_cases hb : b = a
      · exact .inr ⟨_, _, if_pos hb⟩
      · exact .inl (if_neg hb)
    · by_cases hb : b = a
      · have z' := (if_pos hb).symm.trans z
        cases z'
        subst hb
        exact ⟨ha, by rw [List.length_map]; exact hl, vs, _, rv, ha⟩
      · have z' := (if_neg hb).symm.trans z
        cases z'
    · by_cases hb : b = a
      · exact hb
      · exact absurd (if_neg hb) z
end L2

namespace L2
open PySem PySem.Spec PyProof.Rows

abbrev KOf {K : PySem.W.Frag} {h : Heap} (_ : K.In h) : PySem.W.Frag := K

theorem walk_of {l : PySem.W.OpenLaw} {n k : Nat} {q : Program} {loose : List Str} {XP : (Str → Option Value) → Heap → Prop} {YP : World → Heap → Prop} {d : DefRec} {K : Params → PySem.W.Frag} {CX : World → CXT} {sp : World → Sp} {x : Str}
    (hn : l.most = some n) (hn2 : n ≤ sizeLine) (hdf : d.params.defaults = []) (hr : Room k callerA)
    (hY : ∀ (w : World) (h : Heap), YP w h → (K w.params).In h)
    (F : ∀ (w : World) (mg : Str → Option Value) (fa : Addr) (h : Heap), (K w.params).In h → h.Ns mainGlobals mg → mg d.name = some (.ref fa) →
      ∃ fd : FuncData, (∀ (s : Shared) (u : Value), BindsTo s fd ⟨[u], []⟩ [(x, u)]) ∧
        ∀ base : Heap, (K w.params).In base → base.Ns mainGlobals mg → FnOk l.prog w (K w.params) mg base (CX w) k fa fd [x] (sp w))
    (hsp : ∀ (w : World) (H : Hp) (a : Addr) (ns : List Int), ns.length ≤ n → Only H → SqL (K w.params) H a (ns.map V.int) → sp w [.ref a] H (fun v _ => v = .bl true) fun _ _ _ => False)
    (hCX : ∀ (w : World) (H : Hp) (s : Shared) (e : Value) (s' : Shared), CX w [] H s (fun _ _ _ => False) e s' → False) :
    PySem.W.WalkO q loose XP YP l.row.toRowW d [] (fun f vs => PySem.call f vs) := by
  refine Att.attach_call hn hdf fun w s₀ s₁ mg mb fa o pm cd doc a vs ns G Y ho hd hcd hmg hobj hints hlen hg => ?_
  have KX := hY w _ Y
  obtain ⟨fd, hb, hF⟩ := F w mg fa _ KX G.T.g hmg
  exact law_call KX G.T.g G.T.b G.T.builtins G.T.nolimit hg hobj hints (Nat.le_trans hlen hn2) hr hF hb (fun H hO hS => hsp w H a ns hlen hO hS) fun H e s' => hCX w H s₁ e s'
end L2

/- THE LAST THEOREM (shape; LID, My.* are yours):
   My.Adr: a structure of the addresses that your layer names (classes, functions); My.Txt K t: a structure (Prop) of the equations over K;
   My.txt_mk : {K} {implicit addresses ..} (e1 : nsIn K mainGlobals "law" = some (some (.ref f))) (e2 : K.lookup f = some ⟨oc, od, .func (fnOf "law" "law" params body scope dV kV doc pm an cdv ct), sl⟩) (e3 : codeIn K cdv "law" = true) .. : ∃ t, My.Txt K t

set_option maxRecDepth 100000 in
set_option maxHeartbeats 0 in
theorem PySem.Challenge.cw_LID_holds : PySem.Challenge.rw_LID.Holds := by
  w_on; o_law; k_head; (case hw => w_witness2)
  k_fill
  refine L2.walk_of (l := PySem.Challenge.rw_LID) (n := 63) (k := 40) (x := "script") (CX := fun w => ..) (sp := fun _ => My.sp_law) rfl (by decide) rfl ⟨rfl, by decide, by decide⟩ (fun w h Y => PySem.W.kIn_of Y) ?F ?S ?C
  case F =>
    intro w mg fa h KX G hmg
    have T : ∃ t, My.Txt (L2.KOf KX) t := by
      dsimp only [L2.KOf]                          -- K must stand as «<heap const> w.params» for k_is
      refine' My.txt_mk ?e1 ?e2 ?e3 ..
      (case e1 => PySem.W.k_is)                    -- in the order: a name -> its address -> its object -> its parts
      (case e2 => PySem.W.k_is)
      ..
    obtain ⟨t, T⟩ := T
    have e0 := hmg.symm.trans (PySem.W.mg_of KX G T.law)
    cases e0                                       -- fa is the law's own address
    exact ⟨_, fun s u => .of_eq rfl, fun base kb nb => My.law_fn T kb nb⟩     -- if «.of_eq rfl» comes too early: refine' ⟨_, ?b, fun base kb nb => My.law_fn T kb nb⟩; exact fun s u => .of_eq rfl
  case S => exact fun w H a ns hl hO hS => ..
  case C => exact ..
(the tactic k_is has no namespace: write k_is) -/

namespace L2
open PySem PySem.Spec PyProof.Rows

def defArgs (s : Stmt) : Arguments := match s with
  | .FunctionDef _ a _ _ _ _ _ _ _ _ => a
  | _ => { posonlyargs := [], args := [], vararg := none, kwonlyargs := [], kw_defaults := [], kwarg := none, defaults := [] }
def defBody (s : Stmt) : List Stmt := match s with
  | .FunctionDef _ _ b _ _ _ _ _ _ _ => b
  | _ => []
def defScope (s : Stmt) : Scope := match s with
  | .FunctionDef _ _ _ _ _ _ sc _ _ _ => sc
  | _ => { kind := .function, names := [], isGenerator := false, isCoroutine := false }

abbrev CX0 : CXT := fun _ _ _ _ _ _ => False
abbrev E0 : XK := fun _ _ _ => False
theorem pass0 {X : Cx} : Passes CX0 X E0 := fun _ _ _ _ _ _ _ h => h.elim

structure Fun (K : PySem.W.Frag) (x qual : Str) (st : Stmt) (f : Addr) (fd : FuncData) : Prop where
  ex : ∃ (oc : Value) (od : Option Addr) (kV doc pm : Value) (an : Option Addr) (cdv ct : Value) (osl : Array (Option Value)),
    fd = PySem.W.fnOf x qual (defArgs st) (defBody st) (defScope st) .none kV doc pm an cdv ct ∧ K.lookup f = some ⟨oc, od, .func fd, osl⟩ ∧ PySem.W.codeIn K cdv qual = true
  kp : PySem.W.keepIn K (.ref f) = true
section
variable {P : Program} {w : World} {K : PySem.W.Frag} {mg : Str → Option Value} {base : Heap}
theorem Fun.ok {x qual : Str} {st : Stmt} {f : Addr} {fd : FuncData} {N ps : List Str} {k : Nat} {sp : Sp} (F : Fun K x qual st f fd) (S : FnScope N ps (defScope st)) (len : ∀ vs H Q E, sp vs H Q E → vs.length = ps.length)
    (hbody : ∀ (cdv : Value) (A : Around) (outer : List Env) (s : Shared) (H : Hp) (vs : List V) (Q : VK) (E : XK), Room k (A.deeper (envOfC qual (defScope st) s.heap.objs.size f cdv)) → sp vs H Q E →
      ∃ t, PSs (cxOf CX0 P w K mg base N qual (defScope st) f cdv A outer s H E).nox (defBody st) t ∧ t { nx := fun _ H' => Q .non H', rt := Q } (start N vs) H) : FnOk P w K mg base CX0 (k + 1) f fd ps sp := by
  obtain ⟨oc, od, kV, doc, pm, an, cdv, ct, osl, rfl, lk, hcd⟩ := F.ex
  refine fn_of lk hcd S len fun A outer s H vs Q E hr hsp => ?_
  obtain ⟨t, h, q⟩ := hbody cdv A outer s H vs Q E hr hsp
  exact ⟨t, h.nox, q⟩
theorem Fun.binds {x qual : Str} {st : Stmt} {f : Addr} {fd : FuncData} {ps : List Str} (F : Fun K x qual st f fd)
    (h : ∀ (kV doc pm : Value) (an : Option Addr) (cdv ct : Value) (us : List Value), us.length = ps.length → bindArgs (PySem.W.fnOf x qual (defArgs st) (defBody st) (defScope st) .none kV doc pm an cdv ct) ⟨us, []⟩ = pure (ps.zip us)) : Binds K fd ps [] := by
  obtain ⟨oc, od, kV, doc, pm, an, cdv, ct, osl, rfl, lk, hcd⟩ := F.ex
  exact .all (h kV doc pm an cdv ct)
theorem fun_mk {x qual : Str} {st : Stmt} {f : Addr} {oc : Value} {od an : Option Addr} {osl : Array (Option Value)} {kV doc pm cdv ct : Value} (l : K.lookup f = some ⟨oc, od, .func (PySem.W.fnOf x qual (defArgs st) (defBody st) (defScope st) .none kV doc pm an cdv ct), osl⟩)
    (c : PySem.W.codeIn K cdv qual = true) (k : PySem.W.keepIn K (.ref f) = true) : Fun K x qual st f (PySem.W.fnOf x qual (defArgs st) (defBody st) (defScope st) .none kV doc pm an cdv ct) := ⟨⟨oc, od, kV, doc, pm, an, cdv, ct, osl, rfl, l, c⟩, k⟩
end
section
variable {X : Cx}
theorem pv (i : Nat) {x : Str} {pos : Pos} (hN : X.N[i]? = some x := by rfl) (hv : Vis X.env.scope x := by first | exact Or.inl rfl | exact Or.inr (Or.inl rfl) | exact Or.inr (Or.inr rfl)) (hd : (x == ("__debug__" : Str)) = false := by decide)
    (hcd : (x == ("__classdict__" : Str)) = false := by decide) : PE X (.Name x pos) (tVar i) := pe_var hN hv hd hcd
end

theorem iteF {A B : Prop} (h : B) : if false = true then A else B := by
  rw [if_neg Bool.false_ne_true]
  exact h
theorem iteT {A B : Prop} (h : A) : if true = true then A else B := by
  rw [if_pos rfl]
  exact h
theorem ite2 {c A B : Prop} [Decidable c] (h1 : c → A) (h2 : ¬ c → B) : if c then A else B := by
  by_cases h : c
  · rw [if_pos h]
    exact h1 h
  · rw [if_neg h]
    exact h2 h
def Same (H H' : Hp) : Prop := ∀ b o, H b = some o → H' b = some o
theorem Same.refl (H : Hp) : Same H H := fun _ _ h => h
theorem Same.trans {H H1 H2 : Hp} (a : Same H H1) (b : Same H1 H2) : Same H H2 := fun c o h => b c o (a c o h)
theorem Same.free {H H' : Hp} (e : Same H H') {l : Addr} (h : H' l = Option.none) : H l = Option.none := by
  cases q : H l with
  | none => rfl
  | some o =>
    rw [e l o q] at h
    cases h
theorem Same.seq {K : PySem.W.Frag} {H H' : Hp} {a : Addr} {xs : List V} (e : Same H H') (h : SqL K H a xs) : SqL K H' a xs := by
  rcases h with (h | ⟨o, h⟩) | h
  · exact .inl (.inl (e _ _ h))
  · exact .inl (.inr ⟨o, e _ _ h⟩)
  · exact .inr h

end L2

set_option maxRecDepth 100000
set_option maxHeartbeats 4000000
namespace L2
open PySem PySem.Spec PyProof.Rows

theorem fls {α : Type} {M : Model} {A : Around} {t : Sem α} {Q : α → Shared → Prop} {E : Value → Shared → Prop} {s : Shared} (h : wpAny M A t Q (fun _ _ => False) s) : wpAny M A t Q E s :=
  wpAny_mono h (fun _ _ q => q) fun _ _ z => z.elim

section
variable {prog : Program} {w : World} {A : Around} {R : Result → Shared → Prop} {s : Shared}
theorem compLoop_own {elt target iter : Expr} {ifs : List Expr} {scope : Scope} {pos : Pos} {it acc : Value} {env : Env} (J : Nat → Shared → Prop)
    (turn : ∀ n s, J n s → wpAny (model prog w) A (pyNext it) (fun r s₁ => match r with
      | none => R (.ok .next) s₁
      | some v => wpAny (model prog w) A (letOwnedTupleGo target it v) (fun _ s₂ => wpAny (model prog w) A (assign target env v) (fun _ s₃ =>
          wpAny (model prog w) A (forIn ifs true fun c r => if r = true then do let ok ← isTrue c env (eval c env); pure (ForInStep.yield ok) else pure (ForInStep.yield r)) (fun ok s₄ =>
            if ok = true then wpAny (model prog w) A (eval elt env) (fun x s₅ =>
              wpAny (model prog w) A (call (.builtin "list.append") [acc, x]) (fun _ s₆ => ∃ m, m < n ∧ J m s₆) (fun _ _ => False) s₅) (fun _ _ => False) s₄
            else ∃ m, m < n ∧ J m s₄) (fun _ _ => False) s₃) (fun _ _ => False) s₂) (fun _ _ => False) s₁) (fun _ _ => False) s)
    (n : Nat) (h : J n s) :
    codeAny (model prog w) A (.compLoop (.ListComp elt [⟨target, iter, ifs, 0⟩] scope pos) 0 it acc env) R s := by
  refine codeAny_loop rfl J (fun n s hI => ?_) n h
  show wpAny _ A ((compTurn (.ListComp elt [⟨target, iter, ifs, 0⟩] scope pos) 0 it acc env).onRaise (fun x => do noteFrame x env; theTreesLotGoes x)) _ _ s
  refine wpAny_noted (fls ?_)
  rw [compTurn_list]
  refine wpAny_bind (wpAny_standAt (wpAny_bind (wpAny_mono (turn n s hI) (fun r s₁ h₁ => ?_) fun _ _ h' => h')))
  cases r with
  | none => exact wpAny_pure h₁
  | some v =>
    refine wpAny_bind (wpAny_mono h₁ (fun _ s₂ h₂ => wpAny_bind (wpAny_mono h₂ (fun _ s₃ h₃ => wpAny_bind (wpAny_mono h₃ (fun ok s₄ h₄ => ?_) fun _ _ h' => h')) fun _ _ h' => h')) fun _ _ h' => h')
    cases ok with
    | false => exact wpAny_pure ⟨rfl, h₄⟩
    | true => exact wpAny_bind (wpAny_bind (wpAny_mono h₄ (fun x s₅ h₅ => wpAny_bind (wpAny_mono h₅ (fun _ s₆ h₆ => wpAny_pure (wpAny_pure ⟨rfl, h₆⟩)) fun _ _ h' => h')) fun _ _ h' => h'))
end

def clOf (scope : Scope) (env : Env) : List (Str × Addr) := (scope.names.filter fun y => y.2 == .free).reverse.map fun y => (y.1, (env.cells.lookup y.1).getD 0)
theorem closureFor_clOf {scope : Scope} {env : Env} (h : ∀ y ∈ scope.names, y.2 = .free → ∃ c, env.cells.lookup y.1 = some c) : closureFor scope env = pure (clOf scope env) := by
  unfold closureFor clOf
  have key : ∀ (l : List (Str × NameKind)) (cs : List (Str × Addr)), (∀ y ∈ l, y.2 = .free → ∃ c, env.cells.lookup y.1 = some c) →
      (forIn l cs (fun x r => match x with
        | (name, kind) => if (kind == NameKind.free) = true then do let a ← cellOf env name; pure (ForInStep.yield ((name, a) :: r)) else pure (ForInStep.yield r)) : Sem (List (Str × Addr))) =
        pure ((l.filter fun y => y.2 == .free).reverse.map (fun y => (y.1, (env.cells.lookup y.1).getD 0)) ++ cs) := by
    intro l
    induction l with
    | nil => intro cs _; rfl
    | cons y l ih =>
      intro cs hl
      obtain ⟨n, k⟩ := y
      have ih' := fun cs => ih cs fun y hy => hl y (List.mem_cons_of_mem _ hy)
      rw [List.forIn_cons]
      by_cases hk : k = .free
      · subst hk
        obtain ⟨c, hc⟩ := hl (n, .free) List.mem_cons_self rfl
        have e : cellOf env n = pure c := by unfold cellOf; rw [hc]
        simp only [beq_self_eq_true, if_true, e, pure_bind]
        rw [ih']
        rw [List.filter_cons_of_pos (by rfl), List.reverse_cons, List.map_append, List.append_assoc]
        simp [hc]
      · have hb : (k == NameKind.free) = false := by simpa using hk
        simp only [hb, Bool.false_eq_true, if_false, pure_bind]
        rw [ih', List.filter_cons_of_neg (by simp [hb])]
  have := key scope.names [] h
  rw [List.append_nil] at this
  first
    | exact this
    | (rw [this]; rfl)
    | (simp only [bind_pure]; exact this)

theorem lookup_map_snd {f : Str → Addr} {x : Str} {c : Addr} : ∀ {l : List (Str × NameKind)}, (l.map fun y => (y.1, f y.1)).lookup x = some c → c = f x ∧ ∃ k, (x, k) ∈ l
  | [], h => by simp at h
  | (n, k) :: l, h => by
    rw [List.map_cons, List.lookup_cons] at h
    cases e : x == n with
    | true =>
      rw [e] at h
      have e' : x = n := by simpa using e
      subst e'
      exact ⟨(Option.some.inj h).symm, k, List.mem_cons_self⟩
    | false =>
      rw [e] at h
      obtain ⟨h1, k', h2⟩ := lookup_map_snd h
      exact ⟨h1, k', List.mem_cons_of_mem _ h2⟩
theorem lookup_map_has {f : Str → Addr} {x : Str} {k : NameKind} : ∀ {l : List (Str × NameKind)}, (x, k) ∈ l → (l.map fun y => (y.1, f y.1)).lookup x = some (f x)
  | [], h => nomatch h
  | (n, k') :: l, h => by
    rw [List.map_cons, List.lookup_cons]
    cases e : x == n with
    | true =>
      have e' : x = n := by simpa using e
      subst e'
      rfl
    | false =>
      rcases List.mem_cons.mp h with q | q
      · cases q
        simp at e
      · exact lookup_map_has q
theorem clOf_sub {scope : Scope} {env : Env} (h : ∀ y ∈ scope.names, y.2 = .free → ∃ c, env.cells.lookup y.1 = some c) {x : Str} {c : Addr} (e : (clOf scope env).lookup x = some c) : env.cells.lookup x = some c := by
  obtain ⟨h1, k, h2⟩ := lookup_map_snd (f := fun x => (env.cells.lookup x).getD 0) e
  have h3 := List.mem_filter.mp (List.mem_reverse.mp h2)
  obtain ⟨c', hc⟩ := h (x, k) h3.1 (by simpa using h3.2)
  have hc' : env.cells.lookup x = some c' := hc
  rw [hc'] at h1 ⊢
  rw [h1]
  rfl
theorem clOf_has {scope : Scope} {env : Env} {x : Str} (h : (x, NameKind.free) ∈ scope.names) : (clOf scope env).lookup x = some ((env.cells.lookup x).getD 0) :=
  lookup_map_has (f := fun x => (env.cells.lookup x).getD 0) (k := .free) (List.mem_reverse.mpr (List.mem_filter.mpr ⟨h, rfl⟩))

theorem relabel_lookup {scope : Scope} {env : Env} {x : Str} : (relabel scope env).names.lookup x = (scope.names.lookup x).map fun k => if (k == .free && env.scope.kind == .function && env.kindOf x == some .cell) = true then .cell else k := by
  unfold relabel
  show List.lookup x (scope.names.map _) = _
  induction scope.names with
  | nil => rfl
  | cons y l ih =>
    obtain ⟨n, k⟩ := y
    rw [List.map_cons]
    show List.lookup x ((if (k == NameKind.free && env.scope.kind == ScopeKind.function && env.kindOf n == some NameKind.cell) = true then (n, NameKind.cell) else (n, k)) :: _) = _
    cases e : x == n with
    | true =>
      have e' : x = n := by simpa using e
      subst e'
      by_cases hc : (k == NameKind.free && env.scope.kind == ScopeKind.function && env.kindOf x == some NameKind.cell) = true
      · rw [if_pos hc, List.lookup_cons, List.lookup_cons, e]
        show some _ = some (if _ then _ else _)
        rw [if_pos hc]
      · rw [if_neg hc, List.lookup_cons, List.lookup_cons, e]
        show some _ = some (if _ then _ else _)
        rw [if_neg hc]
    | false =>
      by_cases hc : (k == NameKind.free && env.scope.kind == ScopeKind.function && env.kindOf n == some NameKind.cell) = true
      · rw [if_pos hc, List.lookup_cons, List.lookup_cons, e]
        exact ih
      · rw [if_neg hc, List.lookup_cons, List.lookup_cons, e]
        exact ih

def compCx (X : Cx) (N : List Str) (scope : Scope) (C : Addr) (s : Shared) (H : Hp) (fp : List Addr) : Cx where
  prog := X.prog
  w := X.w
  K := X.K
  mg := X.mg
  base := X.base
  A := X.A
  N := N
  s₀ := s
  H₀ := H
  env := compEnvC scope (clOf scope X.env) C X.env
  outer := X.stack
  stack := X.stack
  ex := fp
  fn := fun _ => false
  calm := X.calm
  pn := []
  xe := fun _ _ => False

def compSt (own : Nat) (caps : List Nat) (σ : St) : St := List.replicate own none ++ caps.map fun j => (σ[j]?).getD none
structure CompOk (X : Cx) (N : List Str) (scope : Scope) (own : Nat) (caps : List Nat) : Prop where
  kind : scope.kind = .function
  names : ∀ y ∈ scope.names, y.2 = .local → scope.names.lookup y.1 = some .local
  nocell : ∀ y ∈ scope.names, y.2 ≠ .cell
  free : ∀ y ∈ scope.names, y.2 = .free → X.env.kindOf y.1 = some .cell ∨ X.env.kindOf y.1 = some .free
  len : N.length = own + caps.length
  cap : ∀ (i j : Nat) (x : Str), caps[i]? = some j → N[own + i]? = some x → X.N[j]? = some x ∧ scope.names.lookup x = some .free

theorem CompOk.cells {X : Cx} {N : List Str} {scope : Scope} {own : Nat} {caps : List Nat} (O : CompOk X N scope own caps) (ok : X.Ok) : ∀ y ∈ scope.names, y.2 = .free → ∃ c, X.env.cells.lookup y.1 = some c :=
  fun y hy hf => ok.has y.1 (O.free y hy hf)

section
variable {X : Cx} {pins : List (Addr × Obj)} {σ : St} {H : Hp} {s : Shared} {N : List Str} {scope : Scope} {own : Nat} {caps : List Nat}
theorem Inv.block {h₁ : Heap} {tk : Nat} {fp : List Addr} (O : CompOk X N scope own caps) (I : Inv X pins σ H s) (hf : ∀ b ∈ fp, FpOk X pins H b) (hlt : ∀ b ∈ fp, b < s.heap.objs.size) {m : Str → Option Value} (hns : h₁.Ns s.heap.objs.size m)
    (hk : ∀ b o, s.heap.get? b = some o → h₁.get? b = some o) : Inv (compCx X N scope s.heap.objs.size s H fp) [] (compSt own caps σ) H { s with heap := h₁, toks := tk } := by
  have hcl := O.cells I.ok
  have sub : ∀ x c, (clOf scope X.env).lookup x = some c → X.env.cells.lookup x = some c := fun x c e => clOf_sub hcl e
  have stk : ∀ b ∈ fp, b ∉ frs X.stack := fun b hb z => by
    obtain ⟨_, f1, f2, _⟩ := hf b hb
    rcases List.mem_cons.mp (I.stkSub b z) with q | q
    · exact f1 q
    · exact f2 q
  have nocl : ∀ x, (relabel scope X.env).names.lookup x = some .cell ∨ (relabel scope X.env).names.lookup x = some .free → (x, NameKind.free) ∈ scope.names := fun x hx => by
    rw [relabel_lookup] at hx
    cases e : scope.names.lookup x with
    | none => rw [e] at hx; rcases hx with hx | hx <;> cases hx
    | some k =>
      have hm := PySem.mem_of_lookup e
      have hc := O.nocell _ hm
      cases k with
      | free => exact hm
      | cell => exact absurd rfl hc
      | _ => rw [e] at hx; rcases hx with hx | hx <;> simp at hx
  have ok : (compCx X N scope s.heap.objs.size s H fp).Ok :=
    { mod := I.ok.mod
      kind := O.kind
      glob := I.ok.glob
      blt := I.ok.blt
      above := Nat.le_refl _
      inj := fun x y c h1 h2 => I.ok.inj x y c (sub x c h1) (sub y c h2)
      has := fun x hx => ⟨_, clOf_has (nocl x hx)⟩
      cab := fun x c h _ => by cases h
      hd := I.ok.hd
      frames := I.ok.frames
      stk := .inl rfl
      exf := fun b hb => ⟨Nat.ne_of_lt (hlt b hb), fun x c e => (hf b hb).2.2.2.2.1 x c (sub x c e)⟩
      bs := I.bs
      bsz := Nat.le_trans I.ok.bsz I.sz
      noex := fun b o e hb => by
        rcases (hf b hb).2.2.2.1 with z | z
        · exact I.ok.noex b o e z
        · exact absurd (Nat.lt_of_lt_of_le (Heap.lt_size e) (Nat.le_trans I.ok.bsz z)) (Nat.lt_irrefl _)
      exfs := stk
      funs := I.stack
      frf := I.stkFree }
  have hC : H s.heap.objs.size = none := I.hok.fresh (Nat.le_refl _)
  refine ⟨ok, rfl, I.bare, Un.kept hk, ⟨m, hns, fun i x v h1 h2 h3 => ?_⟩, fun x c e => ?_, hC, fun x c e => I.freeC x c (sub x c e), fun p hp => absurd (show p ∈ ([] : List (Addr × Obj)) from hp) (by simp), I.hok.kept hk, ?_⟩
  · -- a name of the def
    have hi : own ≤ i := by
      by_cases q : own ≤ i
      · exact q
      · unfold compSt at h2
        rw [List.getElem?_append_left (by simp; omega), List.getElem?_replicate] at h2
        split at h2 <;> cases h2
    obtain ⟨k, rfl⟩ : ∃ k, i = own + k := ⟨i - own, by omega⟩
    unfold compSt at h2
    rw [List.getElem?_append_right (by simp), List.length_replicate, Nat.add_sub_cancel_left, List.getElem?_map] at h2
    cases e : caps[k]? with
    | none => rw [e] at h2; cases h2
    | some j =>
      rw [e] at h2
      have h2' : (σ[j]?).getD none = some v := Option.some.inj h2
      obtain ⟨e1, e2⟩ := O.cap k j x e h1
      have e3 := PySem.mem_of_lookup e2
      have hkd := O.free _ e3 rfl
      have h4 : σ[j]? = some (some v) := by
        cases q : σ[j]? with
        | none => rw [q] at h2'; cases h2'
        | some o => rw [q] at h2'; rw [show o = some v from h2']
      have hvis : Vis X.env.scope x := .inr hkd
      obtain ⟨mo, _, hl⟩ := I.loc
      obtain ⟨u, r, l⟩ := hl j x v e1 h4 hvis
      refine ⟨u, r, .inr ⟨?_, ?_⟩⟩
      · show (relabel scope X.env).names.lookup x = some .cell ∨ (relabel scope X.env).names.lookup x = some .free
        rw [relabel_lookup, e2]
        show some (if _ then NameKind.cell else NameKind.free) = _ ∨ some (if _ then NameKind.cell else NameKind.free) = _
        split
        · exact .inl rfl
        · exact .inr rfl
      · rcases l with ⟨q, _⟩ | ⟨_, c, hc, z⟩
        · have hkd' : X.env.kindOf x = some .cell ∨ X.env.kindOf x = some .free := hkd
          rw [q] at hkd'
          rcases hkd' with hkd' | hkd' <;> cases hkd'
        · refine ⟨c, ?_, z.keeps hk⟩
          show (clOf scope X.env).lookup x = some c
          rw [clOf_has e3, hc]
          rfl
  · obtain ⟨v, z⟩ := I.cell x c (sub x c e)
    exact ⟨v, z.keeps hk⟩
  · show (compSt own caps σ).length = N.length
    unfold compSt
    rw [List.length_append, List.length_replicate, List.length_map, O.len]

theorem Inv.blockEnd {fp : List Addr} {σ' : St} {H' : Hp} {s' : Shared} (I : Inv X pins σ H s) (hf : ∀ b ∈ fp, FpOk X pins H b) (J : Inv (compCx X N scope s.heap.objs.size s H fp) [] σ' H' s') : Inv X pins σ H' s' :=
  I.call' (ch := fp) J.os J.base J.hok J.bare fun b hb => ⟨(hf b hb).2.2.2.1, (hf b hb).2.1, (hf b hb).2.2.2.2.1, (hf b hb).2.2.2.2.2⟩
theorem Inv.off {h' : Heap} {C : Addr} (I : Inv X pins σ H s) (hC : H C = none) (hL : C ≠ X.env.locals) (h1 : X.s₀.heap.objs.size ≤ C) (h2 : ∀ x c, X.env.cells.lookup x = some c → c ≠ C) (h3 : ∀ p ∈ X.pn ++ pins, p.1 ≠ C) (sb : Heap.SameBut C s.heap h') :
    Inv X pins σ H { s with heap := h' } :=
  I.turned (t' := s.toks) (it := C) (fun b o hb e => (sb.2 b hb).trans e) hC hL (.inr h1) h2 h3
end

def PIfs (X : Cx) (ifs : List Expr) (t : TT) : Prop :=
  ∀ (pins : List (Addr × Obj)) (s : Shared) (σ : St) (H : Hp) (Q : Bool → Hp → Prop), Inv X pins σ H s → t σ H Q →
    wpAny (model X.prog X.w) X.A (forIn ifs true fun c r => if r = true then do let ok ← isTrue c X.env (eval c X.env); pure (ForInStep.yield ok) else pure (ForInStep.yield r)) (TP X pins σ Q) X.xe s
def tYes : TT := fun _ H Q => Q true H
theorem pf_nil {X : Cx} : PIfs X [] tYes := fun _ _ _ H _ I h => wpAny_tests_nil ⟨H, I, h⟩
theorem pf_one {X : Cx} {c : Expr} {t : TT} (h : PT X c t) : PIfs X [c] t := fun pins s σ H Q I hw => wpAny_tests_one (h pins s σ H Q I hw)

def tComp (wi : TI) (g : TG) (tc : TT) (te : TE) (own : Nat) (caps : List Nat) : TE := fun σ H Q => wi σ H fun J H1 => ∀ D, H1 D = none → ∃ W : Nat → Nat → St → Hp → Prop, (∃ m, W 0 m (compSt own caps σ) (upd H1 D (.lst []))) ∧ ∀ i m σ' H', W i m σ' H' →
  (J.stop i H' ∧ Q (.ref D) H') ∨ (J.go i H' ∧ ∃ N : St → Hp → Prop, (∀ σ'' H'', N σ'' H'' → ∃ m', m' < m ∧ W (i + 1) m' σ'' H'') ∧ ∀ x H2, J.yld i H' x H2 → g x σ' H2 fun σ3 H3 => tc σ3 H3 fun b H4 =>
    if b = true then te σ3 H4 fun y H5 => ∃ ys, H5 D = some (.lst ys) ∧ ys.length < sizeLine ∧ N σ3 (upd H5 D (.lst (ys ++ [y]))) else N σ3 H4)

section
variable {X : Cx} {N : List Str} {scope : Scope} {own : Nat} {caps : List Nat} {tg iter elt : Expr} {ifs : List Expr} {wi : TI} {g : TG} {tc : TT} {te : TE} {pos : Pos}
theorem comp_run {use : Option (Value → Sem Unit)} {QQ : Value → Shared → Prop} (O : CompOk X N scope own caps) (hc : X.calm = true) (hi : PI X tg iter wi) (hg : ∀ C s H fp, PG (compCx X N scope C s H fp) tg g) (ht : ∀ C s H fp, PIfs (compCx X N scope C s H fp) ifs tc)
    (he : ∀ C s H fp, PE (compCx X N scope C s H fp) elt te) (hs : ∀ x, foldedSetIterable iter X.env x = pure x)
    {pins : List (Addr × Obj)} {s : Shared} {σ : St} {H : Hp} {Q : VK} (I : Inv X pins σ H s) (h : tComp wi g tc te own caps σ H Q)
    (fin : ∀ D C H' s' m, Inv X pins σ H' s' → Q (.ref D) H' → s'.heap.Ns C m → H' C = none → C ≠ X.env.locals → X.s₀.heap.objs.size ≤ C → (∀ x c, X.env.cells.lookup x = some c → c ≠ C) → (∀ p ∈ X.pn ++ pins, p.1 ≠ C) →
      compPost (model X.prog X.w) X.A X.xe use QQ (.ref D) C (.ok .next) s') :
    wpAny (model X.prog X.w) X.A (comprehension (.ListComp elt [⟨tg, iter, ifs, 0⟩] scope pos) scope X.env (firstIterPos [⟨tg, iter, ifs, 0⟩] pos) (newList []) false (eval iter X.env) use) QQ X.xe s := by
  refine wpAny_comprehension_free (use := use) rfl hs (closureFor_clOf (O.cells I.ok)) O.kind O.names (thn (hi pins s σ H _ I h) fun v s1 h1 => thn h1 fun itv s2 h2 => ?_)
  obtain ⟨it, fp, tn, J, H2, e, I2, T, st2, f2, q⟩ := h2
  subst e
  refine wpAny_newObj_type (wpAny_newFunctionEnv O.nocell (by intro y hy; simp at hy) (fun h₁ hns hsb => ?_) O.kind)
  dsimp only at hns hsb ⊢
  have hD : H2 s2.heap.objs.size = none := I2.hok.fresh (Nat.le_refl _)
  obtain ⟨W, ⟨m0, w0⟩, turn⟩ := q s2.heap.objs.size hD
  have I3 : Inv X pins σ (upd H2 s2.heap.objs.size (.lst [])) { s2 with heap := s2.heap.push { cls := .type "list", dict := none, data := .seq ([] : List Value).toArray } } :=
    I2.lnew (its := []) (t' := s2.toks) .nil (Nat.zero_le _)
  generalize hs3 : ({ s2 with heap := s2.heap.push { cls := .type "list", dict := none, data := .seq ([] : List Value).toArray } } : Shared) = s3 at I3
  have hsz3 : s3.heap.objs.size = s2.heap.objs.size + 1 := by rw [← hs3]; exact Heap.size_push ..
  have hns' : h₁.Ns s3.heap.objs.size (fun x => ([] : List (Str × Value)).reverse.lookup x) := by rw [← hs3]; exact hns
  have hk : ∀ b o, s3.heap.get? b = some o → h₁.get? b = some o := fun b o e => by
    rw [← hs3] at e
    exact hsb.extBut b o (Nat.ne_of_lt (Heap.lt_size e)) (Heap.get?_push_of_some _ e)
  have f3 : ∀ b ∈ fp, FpOk X pins (upd H2 s2.heap.objs.size (.lst [])) b := fun b hb => by
    obtain ⟨o, ho, _⟩ := T.obj _ _ st2 b hb
    exact ⟨by rw [upd_ne (Nat.ne_of_lt (Heap.lt_size ho))]; exact (f2 b hb).1, (f2 b hb).2⟩
  have hlt : ∀ b ∈ fp, b < s3.heap.objs.size := fun b hb => by
    obtain ⟨o, ho, _⟩ := T.obj _ _ st2 b hb
    rw [hsz3]
    exact Nat.lt_succ_of_lt (Heap.lt_size ho)
  have st3 : tn 0 h₁ := T.keep _ _ _ st2 fun b hb o e => hk b o (by rw [← hs3]; exact Heap.get?_push_of_some _ e)
  have C3 : ∀ tk, Inv (compCx X N scope s3.heap.objs.size s3 (upd H2 s2.heap.objs.size (.lst [])) fp) [] (compSt own caps σ) (upd H2 s2.heap.objs.size (.lst [])) { s3 with heap := h₁, toks := tk } := fun tk => I3.block O f3 hlt hns' hk
  have nf3 : ∀ b ∈ fp, (upd H2 s2.heap.objs.size (.lst [])) b = none := fun b hb => (f3 b hb).1
  have hCL : s3.heap.objs.size ≠ X.env.locals := Nat.ne_of_gt I3.lt
  have hC1 : X.s₀.heap.objs.size ≤ s3.heap.objs.size := I3.sz
  have hC2 : ∀ x c, X.env.cells.lookup x = some c → c ≠ s3.heap.objs.size := fun x c e => by
    obtain ⟨v, z⟩ := I3.cell x c e
    exact Nat.ne_of_lt z.lt
  have hC3 : ∀ p ∈ X.pn ++ pins, p.1 ≠ s3.heap.objs.size := fun p hp => Nat.ne_of_lt (Heap.lt_size (I3.pin p hp).1)
  have hst : ∀ {H' : Hp}, (∀ b ∈ fp, H' b = none) → ∀ b ∈ fp, FpOk (compCx X N scope s3.heap.objs.size s3 (upd H2 s2.heap.objs.size (.lst [])) fp) [] H' b := fun hn b hb => by
    refine ⟨hn b hb, Nat.ne_of_lt (hlt b hb), fun z => ?_, .inl hb, fun x c e => (f3 b hb).2.2.2.2.1 x c (clOf_sub (O.cells I.ok) e), fun p hp => absurd (show p ∈ ([] : List (Addr × Obj)) from hp) (by simp)⟩
    exact (C3 0).ok.exfs b hb z
  have loop : ∀ s4 : Shared, (∃ tk, s4 = { s3 with heap := h₁, toks := tk }) →
      codeAny (model X.prog X.w) X.A (.compLoop (.ListComp elt [⟨tg, iter, ifs, 0⟩] scope pos) 0 (.ref it) (.ref s2.heap.objs.size) (compEnvC scope (clOf scope X.env) s3.heap.objs.size X.env))
        (compPost (model X.prog X.w) X.A X.xe use QQ (.ref s2.heap.objs.size) s3.heap.objs.size) s4 := by
    rintro s4 ⟨tk, rfl⟩
    refine compLoop_own (fun n s' => ∃ i σ' H', Inv (compCx X N scope s3.heap.objs.size s3 (upd H2 s2.heap.objs.size (.lst [])) fp) [] σ' H' s' ∧ tn i s'.heap ∧ (∀ b ∈ fp, H' b = none) ∧ W i n σ' H') ?_ m0 ⟨0, _, _, C3 tk, st3, nf3, w0⟩
    rintro n s5 ⟨i, σ5, H5, I5, st5, fr5, w5⟩
    rcases turn i n σ5 H5 w5 with ⟨stop, qn⟩ | ⟨go, NN, hN, step⟩
    · refine thn (T.done (compCx X N scope s3.heap.objs.size s3 (upd H2 s2.heap.objs.size (.lst [])) fp) rfl rfl rfl hc i [] s5 σ5 H5 _ I5 (hst fr5) st5 stop) fun r s6 ⟨hr, I6⟩ => ?_
      subst hr
      obtain ⟨m6, hn6, _⟩ := id I6.loc
      exact fin _ _ H5 s6 m6 (I3.blockEnd f3 I6) qn hn6 I6.free hCL hC1 hC2 hC3
    · refine thn (T.item (compCx X N scope s3.heap.objs.size s3 (upd H2 s2.heap.objs.size (.lst [])) fp) rfl rfl rfl hc i [] s5 σ5 H5 _ I5 (hst fr5) st5 go) fun r s6 ⟨u, hr, h6⟩ => ?_
      subst hr
      refine thn h6 fun _ s7 ⟨x, H7, I7, r7, y7, st7, fr7⟩ => ?_
      have I7' := I7.pinned (hst fr7) (T.obj _ _ st7)
      refine thn (hg _ _ _ _ _ s7 σ5 H7 x u _ I7' r7 (step x H7 y7)) fun _ s8 ⟨σ8, H8, I8, q8⟩ => ?_
      refine thn (ht _ _ _ _ _ s8 σ8 H8 _ I8 q8) fun ok s9 ⟨H9, I9, q9⟩ => ?_
      have again : ∀ {s10 : Shared} {σ10 : St} {H10 : Hp}, Inv (compCx X N scope s3.heap.objs.size s3 (upd H2 s2.heap.objs.size (.lst [])) fp) ([] ++ pinsAt fp s7.heap) σ10 H10 s10 → NN σ10 H10 →
          ∃ m, m < n ∧ ∃ i σ' H', Inv (compCx X N scope s3.heap.objs.size s3 (upd H2 s2.heap.objs.size (.lst [])) fp) [] σ' H' s10 ∧ tn i s10.heap ∧ (∀ b ∈ fp, H' b = none) ∧ W i m σ' H' := fun {s10 σ10 H10} I10 n10 => by
        obtain ⟨m', hm, w10⟩ := hN σ10 H10 n10
        refine ⟨m', hm, i + 1, σ10, H10, I10.unpinned, T.keep _ _ _ st7 fun b hb o e => (I10.pin (b, o) (List.mem_append_right _ (List.mem_append_right _ (mem_pinsAt hb e)))).1, fun b hb => ?_, w10⟩
        obtain ⟨o, e, d⟩ := T.obj _ _ st7 b hb
        exact (I10.pin (b, o) (List.mem_append_right _ (List.mem_append_right _ (mem_pinsAt hb e)))).2.1
      cases ok with
      | false =>
        rw [if_neg Bool.false_ne_true] at q9 ⊢
        exact again I9 q9
      | true =>
        rw [if_pos rfl] at q9 ⊢
        refine thn (he _ _ _ _ _ s9 σ8 H9 _ I9 q9) fun y s10 ⟨vy, H10, I10, r10, ys, hys, hyl, q10⟩ => ?_
        refine thn (mt_append (X := compCx X N scope s3.heap.objs.size s3 (upd H2 s2.heap.objs.size (.lst [])) fp) _ s10 σ8 H10 (.ref s2.heap.objs.size) [vy] (.ref s2.heap.objs.size) [y] (fun _ H11 => NN σ8 H11) I10 rfl (.cons r10 .nil) ⟨_, ys, vy, rfl, rfl, hys, hyl, q10⟩) fun _ s11 ⟨_, H11, I11, _, q11⟩ => ?_
        exact again I11 q11
  subst hs3
  exact codeAny_compStart_list (loop _ ⟨_, rfl⟩) (T.self _ _ _ _ _ st3 (loop _ ⟨_, rfl⟩))

theorem pe_comp (O : CompOk X N scope own caps) (hc : X.calm = true) (hi : PI X tg iter wi) (hg : ∀ C s H fp, PG (compCx X N scope C s H fp) tg g) (ht : ∀ C s H fp, PIfs (compCx X N scope C s H fp) ifs tc)
    (he : ∀ C s H fp, PE (compCx X N scope C s H fp) elt te) (hs : ∀ x, foldedSetIterable iter X.env x = pure x := by intro _; rfl) : PE X (.ListComp elt [⟨tg, iter, ifs, 0⟩] scope pos) (tComp wi g tc te own caps) := by
  intro pins s σ H Q I h
  rw [eval_ListComp]
  refine comp_run (use := none) O hc hi hg ht he hs I h fun D C H' s' m I' q hn h0 h1 h2 h3 h4 => ?_
  exact ⟨m, hn, fun h' sb => ⟨.ref D, H', I'.off h0 h1 h2 h3 h4 sb, rfl, q⟩⟩
theorem ps_comp {i : Nat} {y : Str} {py spos : Pos} (hN : X.N.Nodup) (hi' : X.N[i]? = some y) (hy : X.env.scope.names.lookup y = some .local) (O : CompOk X N scope own caps) (hc : X.calm = true) (hi : PI X tg iter wi) (hg : ∀ C s H fp, PG (compCx X N scope C s H fp) tg g)
    (ht : ∀ C s H fp, PIfs (compCx X N scope C s H fp) ifs tc) (he : ∀ C s H fp, PE (compCx X N scope C s H fp) elt te)
    (hsw : swapsWith (.ListComp elt [⟨tg, iter, ifs, 0⟩] scope pos) (some (.Name y py)) spos.line X.env = pure true := by rfl) (hs : ∀ x, foldedSetIterable iter X.env x = pure x := by intro _; rfl) :
    PS X (.Assign [.Name y py] (.ListComp elt [⟨tg, iter, ifs, 0⟩] scope pos) spos) (tAsg (tComp wi g tc te own caps) (gName i)) := by
  intro pins s σ H D I h
  rw [exec_Assign_Name_used _ _ _ _ hsw]
  refine wpAny_bind (wpAny_standAt (wpAny_bind ?_))
  show wpAny _ _ (do let _ ← comprehension (.ListComp elt [⟨tg, iter, ifs, 0⟩] scope pos) scope X.env _ (newList []) false (eval iter X.env) (some (assign (.Name y py) X.env))) _ _ s
  refine wpAny_bind (wpAny_mono (comp_run (use := some (assign (.Name y py) X.env)) (QQ := fun _ s' => SP X pins D .next s') O hc hi hg ht he hs I h fun L C H' s' m I' q hn h0 h1 h2 h3 h4 => ?_) (fun _ s' hq => wpAny_pure (wpAny_pure hq)) fun _ _ e => e)
  refine wpAny_assign_Name (store_ok2 I' hN hi' (.inl hy) (v := .ref L) rfl (fun s2 I2 ⟨a, sb, ha⟩ => ?_) (.inr hy))
  have hac : C ≠ a := by
    rcases ha with ha | ha
    · rw [ha]; exact h1
    · exact (h3 _ _ ha).symm
  exact ⟨m, hn.sameBut sb hac, fun h' sb' => ⟨_, H', I2.off h0 h1 h2 h3 h4 sb', q⟩⟩
end
end L2

set_option maxRecDepth 100000
set_option maxHeartbeats 4000000
namespace PySem
open Sem (wp)
section
variable {prog : Program} {w : World} {A : Around} {E : Value → Shared → Prop} {s : Shared}

theorem nextOf_tup {I T : Addr} {k : Nat} {vals : Array Value} {y : Value} {Q : Value → Shared → Prop} (st : s.heap.IsTupleIter I T k) (tp : s.heap.IsTuple T vals) (hy : vals[k]? = some y)
    (hQ : ∀ h', h'.IsTupleIter I T (k + 1) → Heap.SameBut I s.heap h' → Q y { s with heap := h' }) : wpAny (model prog w) A (Builtin.SmallTypes.nextOf (.ref I)) Q E s := by
  obtain ⟨oI, eI, cI, dI⟩ := id st
  obtain ⟨oT, eT, _, nT, dT⟩ := tp
  unfold Builtin.SmallTypes.nextOf
  refine wpAny_bind (wpAny_callSpecial?_slot (name := Str.ofString "__next__") st.typeIs F.slot_tuple_iterator_next (wpAny_call_entry F.slot_tuple_iterator_next st.typeIs F.entry_tuple_iterator_next ?_ (F.args_tuple_iterator_next_1 _)))
  show wpAny _ _ (field (.ref I) 0 >>= _) _ _ s
  refine wpAny_bind (wpAny_field eI dI (x := .ref T) rfl ?_)
  show wpAny _ _ (if (Value.ref T == Value.none) = true then _ else _) _ _ s
  rw [if_neg (show ¬ ((Value.ref T == Value.none) = true) from Bool.false_ne_true)]
  show wpAny _ _ (field (.ref I) 1 >>= _) _ _ s
  refine wpAny_bind (wpAny_field eI dI (x := .int k 0) rfl ?_)
  show wpAny _ _ (seqItems? (.ref T) >>= _) _ _ s
  refine wpAny_bind (wpAny_seqItems eT dT ?_)
  simp only [Int.toNat_natCast, hy]
  refine wpAny_bind (wpAny_setField eI dI (by simp) (wpAny_pure ⟨y, rfl, wpAny_pure (hQ _ ?_ (Heap.SameBut.update ..))⟩))
  exact ⟨_, Heap.get?_update_self _ eI (Obj.isFreed_of_fields (Obj.data_mapFields dI _)), (Obj.cls_mapFields ..).trans cI, by rw [Obj.data_mapFields dI]; simp [rawInt]⟩

theorem nextOf_tup_end {I T : Addr} {k : Nat} {vals : Array Value} {Q : Value → Shared → Prop} (hh : A.handled = none) (st : s.heap.IsTupleIter I T k) (tp : s.heap.IsTuple T vals) (hy : vals[k]? = none)
    (hE : ∀ h' e, Heap.ExtBut I s.heap h' → (∃ o, h'.get? e = some o ∧ o.cls = .type "StopIteration") → E (.ref e) { s with heap := h' }) : wpAny (model prog w) A (Builtin.SmallTypes.nextOf (.ref I)) Q E s := by
  obtain ⟨oI, eI, cI, dI⟩ := id st
  obtain ⟨oT, eT, _, nT, dT⟩ := tp
  unfold Builtin.SmallTypes.nextOf
  refine wpAny_bind (wpAny_callSpecial?_slot (name := Str.ofString "__next__") st.typeIs F.slot_tuple_iterator_next (wpAny_call_entry F.slot_tuple_iterator_next st.typeIs F.entry_tuple_iterator_next ?_ (F.args_tuple_iterator_next_1 _)))
  show wpAny _ _ (field (.ref I) 0 >>= _) _ _ s
  refine wpAny_bind (wpAny_field eI dI (x := .ref T) rfl ?_)
  show wpAny _ _ (if (Value.ref T == Value.none) = true then _ else _) _ _ s
  rw [if_neg (show ¬ ((Value.ref T == Value.none) = true) from Bool.false_ne_true)]
  show wpAny _ _ (field (.ref I) 1 >>= _) _ _ s
  refine wpAny_bind (wpAny_field eI dI (x := .int k 0) rfl ?_)
  show wpAny _ _ (seqItems? (.ref T) >>= _) _ _ s
  refine wpAny_bind (wpAny_seqItems eT dT ?_)
  simp only [Int.toNat_natCast, hy]
  refine wpAny_bind (wpAny_rule (wpAny_bind (wpAny_setField eI dI (by simp) ?_)))
  show wpAny _ _ (newExc (.type "StopIteration") [] >>= _) _ _ _
  refine wpAny_bind ?_
  simp only [newExc, newTuple]
  refine wpAny_bind (wpAny_newObj_type ?_ (by size_fits))
  refine wpAny_bind (m := firstArgMember _ _) (wpAny_of_eq (a := Value.none) (by first | rfl | (simp only [firstArgMember]; rfl)) ?_)
  refine wpAny_newObj_type ?_ (by size_fits)
  simp only [raiseNew]
  refine wpAny_bind (wpAny_handled ?_)
  first | rw [show A.in1.handled = none from hh] | rw [hh]
  refine wpAny_bind (wpAny_pure (wpAny_throw ?_))
  exact hE _ _ (((Heap.SameBut.update ..).extBut.push _).push _) ⟨_, Heap.get?_push_size _ rfl, rfl⟩
end

theorem Heap.IsTuple.at2 {h h' : Heap} {a : Addr} {vals : Array Value} (x : h.IsTuple a vals) (e : ∀ o, h.get? a = some o → h'.get? a = some o) : h'.IsTuple a vals := let ⟨o, q, r⟩ := x; ⟨o, e o q, r⟩
theorem Heap.IsTupleIter.at2 {h h' : Heap} {a t : Addr} {i : Nat} (x : h.IsTupleIter a t i) (e : ∀ o, h.get? a = some o → h'.get? a = some o) : h'.IsTupleIter a t i := let ⟨o, q, r⟩ := x; ⟨o, e o q, r⟩
theorem Draws.tup {prog : Program} {w : World} {A : Around} (hh : A.handled = none) (I T : Addr) (hne : T ≠ I) (vals : Array Value) :
    Draws prog w A I [I, T] vals.size (fun i v => vals[i]? = some v) (fun i h => h.IsTupleIter I T i ∧ h.IsTuple T vals) where
  live := fun _ _ st => let ⟨o, ho, _⟩ := st.1; ⟨o, ho⟩
  frame := fun _ _ _ st hk => ⟨st.1.at2 fun o e => hk I (by simp) o e, st.2.at2 fun o e => hk T (by simp) o e⟩
  item := fun i s Q E hi st hQ => nextOf_tup st.1 st.2 (y := vals[i]) (by simp [hi]) fun h' st' sb => hQ _ h' s.toks (by simp [hi]) ⟨st', st.2.extBut sb.extBut hne⟩ sb
  done := fun s Q E st hE => nextOf_tup_end hh st.1 st.2 (by simp) hE

section
open AutoSeq1 (wpAny_loadPart')
variable {prog : Program} {w : World} {A : Around} {E : Value → Shared → Prop} {s : Shared}
end
end PySem

namespace L2
open PySem PySem.Spec PyProof.Rows
section
variable {X : Cx} {pins : List (Addr × Obj)} {σ : St} {H : Hp} {s : Shared}
theorem Inv.turnedL {h' : Heap} {t' : Nat} {ch : List Addr} (I : Inv X pins σ H s) (hf : ∀ b ∈ ch, FpOk X pins H b) (k : ∀ b o, b ∉ ch → s.heap.get? b = some o → h'.get? b = some o) : Inv X pins σ H { s with heap := h', toks := t' } := by
  have nit : ∀ b u, H b = some u → b ∉ ch := fun b u e z => by rw [(hf b z).1] at e; cases e
  refine I.step (g' := s.gens) (d' := s.drawn) (ch := ch) (fun b hb => ⟨(hf b hb).2.2.2.1, (hf b hb).2.1, (hf b hb).2.2.2.2.1, (hf b hb).2.2.2.2.2⟩) (fun b o _ _ hc e _ => k b o hc e) (fun b o _ _ hc e _ => ⟨o.slots, k b o hc e⟩) (fun _ _ _ _ n => n)
    (fun b o hc e => ⟨o, k b o hc e⟩) (fun _ _ e => e) (fun _ _ _ e => e) (fun b ps e => ⟨#[], by rw [e]; simp⟩) (fun m hm => ?_) (fun b u e => ?_) I.bare
  · obtain ⟨o, es, ep, ho, r⟩ := hm
    exact ⟨o, es, ep, k _ o (fun z => (hf _ z).2.1 rfl) ho, r⟩
  · refine (I.hok b u e).stay (fun c v hc q => k c v ?_ q) (fun _ q => q) fun _ _ q => q
    rcases hc with z | z
    · rw [z]; exact nit b u e
    · exact nit c _ z
theorem Inv.track {a : Addr} {o : HO} (I : Inv X pins σ H s) (ha : X.s₀.heap.objs.size ≤ a) (hn : H a = none) (hL : a ≠ X.env.locals) (hc : ∀ x c, X.env.cells.lookup x = some c → c ≠ a) (hp : ∀ p ∈ X.pn ++ pins, p.1 ≠ a)
    (new : ObjOk X.prog X.w (upd H a o) s.heap a o) : Inv X pins σ (upd H a o) s := by
  have ne : ∀ b ob, X.s₀.heap.get? b = some ob → b ≠ a := fun b ob e => Nat.ne_of_lt (Nat.lt_of_lt_of_le (Heap.lt_size e) ha)
  refine ⟨I.ok, I.os, I.bare, ⟨I.base.keep, I.base.slot, fun b ob e n hx => by rw [upd_ne (ne b ob e)]; exact I.base.free b ob e n hx, I.base.there, fun b xs e => ?_, fun b ob u e => ?_, fun b ps e => ?_⟩, I.loc, I.cell, by rw [upd_ne hL.symm]; exact I.free,
    fun x c e => by rw [upd_ne (hc x c e)]; exact I.freeC x c e, fun p hpp => ?_, fun b u e => ?_, I.len⟩
  · have q := I.base.tups b xs e
    rw [upd_ne (ne_of_none q hn)]; exact q
  · have q := I.base.frzs b ob u e
    rw [upd_ne (ne_of_none q hn)]; exact q
  · obtain ⟨more, q⟩ := I.base.tbls b ps e
    exact ⟨more, by rw [upd_ne (ne_of_none q hn)]; exact q⟩
  · obtain ⟨e1, n1, r⟩ := I.pin p hpp
    exact ⟨e1, by rw [upd_ne (hp p hpp)]; exact n1, r⟩
  · by_cases hb : b = a
    · subst hb; rw [upd_same] at e; cases e; exact new
    · rw [upd_ne hb] at e
      exact (I.hok b u e).stay (fun c v _ q => q) (fun c q => by rw [upd_ne (ne_of_none q hn)]; exact q) fun c xs q => by rw [upd_ne (ne_of_none q hn)]; exact q
theorem Inv.yields {h' : Heap} {t' : Nat} {ch : List Addr} {T : Addr} {xs : List V} {vals : List Value} (I : Inv X pins σ H s) (hf : ∀ b ∈ ch, FpOk X pins H b) (k : ∀ b o, b ∉ ch → s.heap.get? b = some o → h'.get? b = some o)
    (hT : s.heap.objs.size ≤ T) (tp : h'.IsTuple T vals.toArray) (r : Vals xs vals) (hz : xs.length ≤ sizeLine) : Inv X pins σ (upd H T (.tup xs)) { s with heap := h', toks := t' } := by
  have f : FpOk X pins H T := I.fpOk hT (I.hok.fresh hT)
  have I1 : Inv X pins σ H { s with heap := h', toks := t' } := I.turnedL hf k
  exact I1.track (Nat.le_trans I.sz hT) f.1 f.2.1 f.2.2.2.2.1 f.2.2.2.2.2 ⟨hz, vals, r, tp⟩
theorem fp_upd {ch : List Addr} {T : Addr} {o : HO} (hf : ∀ b ∈ ch, FpOk X pins H b) (hT : ∀ b ∈ ch, b ≠ T) : ∀ b ∈ ch, FpOk X pins (upd H T o) b := fun b hb => ⟨by rw [upd_ne (hT b hb)]; exact (hf b hb).1, (hf b hb).2⟩
end

def Ite (Sq : Hp → List V → Prop) : It :=
  ⟨fun i H => ∃ xs x, Sq H xs ∧ xs[i]? = some x, fun i H y H' => ∃ T, H T = none ∧ y = .ref T ∧ ∀ xs x, Sq H xs → xs[i]? = some x → H' = upd H T (.tup [.int i, x]), fun i H => ∃ xs, Sq H xs ∧ xs.length ≤ i⟩
section
variable {X : Cx} {elts : List Expr} {k : Nat} {tp : Pos}
def iEnumL (K : PySem.W.Frag) (ta : TA) : TI := fun σ H R => ta σ H fun vs H1 => ∃ a, vs = [.ref a] ∧ (∃ xs, SqL K H1 a xs) ∧ R (Ite fun H xs => SqL K H a xs) H1
def iEnumT (K : PySem.W.Frag) (ta : TA) : TI := fun σ H R => ta σ H fun vs H1 => ∃ a, vs = [.ref a] ∧ (∃ xs, SqT K H1 a xs) ∧ R (Ite fun H xs => SqT K H a xs) H1
end
end L2

set_option maxRecDepth 100000
set_option maxHeartbeats 4000000
namespace PySem
open Sem (wp)
section
variable {prog : Program} {w : World} {A : Around} {E : Value → Shared → Prop} {s : Shared}

end

section
variable {prog : Program} {w : World} {A : Around} {E : Value → Shared → Prop} {s : Shared}
end
end PySem

namespace L2
open PySem PySem.Spec PyProof.Rows
section
variable {X : Cx} {elts : List Expr} {k : Nat} {tp : Pos}
end
end L2

set_option maxRecDepth 100000
set_option maxHeartbeats 4000000
namespace L2
open PySem PySem.Spec PyProof.Rows

theorem kit_is (K : PySem.W.Frag) : PySem.W.kitOne K (.type "int") (.type "str") = some false := by kernel_rfl
section
variable {X : Cx}
def rIsiT (K : PySem.W.Frag) : List V → Hp → VK → Prop := fun xs H Q => ∃ x n t b, xs = [x, .ty n] ∧ TyOf K H x t ∧ PySem.W.kitOne K t (.type n) = some b ∧ Q (.bl b) H
theorem call_isiT : CallR X (.builtin "isinstance") (rIsiT X.K) := by
  intro pins s σ H xs us Q I r h
  obtain ⟨x, n, t, b, rfl, ty, e, q⟩ := h
  obtain ⟨u, v, rfl, rx, ry⟩ := vals2 r
  cases ry
  exact isinst_ok I rx ty e fun tk => ⟨.bl b, H, I.tok _, rfl, q⟩
end
end L2

namespace HT
open PySem PyProof.Rows
section
variable {prog : Program} {w : World} {A : Around} {E : Value → Shared → Prop} {s : Shared}
theorem getItem_tuple_all {t sl : Addr} {items : Array Value} {vl vu : Value} {lo hi : Option Int} {Q : Value → Shared → Prop} (ht : IsTup s.heap t items) (hs : s.heap.IsSliceOf sl vl vu .none) (pl : IsPart vl lo) (pu : IsPart vu hi)
    (hw : sIx items.size 0 lo = 0 ∧ sIx items.size items.size hi = items.size) (h : Q (.ref t) s) : wpAny (model prog w) A (getItem (.ref t) (.ref sl)) Q E s := by
  obtain ⟨os, hos, hcs, hds⟩ := id hs
  have hTs : s.TypeIs (.ref sl) "slice" := ⟨os, hos, hcs⟩
  unfold getItem
  try with_reducible refine wpAny_holding ?_
  first | refine wpAny_bind (wpAny_pure ?_) | skip
  refine wpAny_bind (wpAny_sequenceKey ht.typeIs (by decide) ?_)
  refine wpAny_bind (wpAny_callSpecial?_slot (name := Str.ofString "__getitem__") ht.typeIs PyProof.Rows.slot_tuple_getitem (wpAny_call_entry PyProof.Rows.slot_tuple_getitem ht.typeIs entry_tuple_getitem ?_ (args_tuple_getitem _ _)))
  show wpAny _ _ (Builtin.Tuple.tupleItemsOf (.ref t) >>= _) _ _ s
  refine wpAny_bind (tupleItemsOf_ ht (wpAny_bind (wpAny_typeOf hTs ?_)))
  rw [if_pos (by decide)]
  refine wpAny_bind (sliceApplied_gen hs pl pu ?_)
  have yes : (((sIx items.size 0 lo : Nat) : Int) == 0 && (1 : Int) == 1 && (sIx items.size items.size hi - sIx items.size 0 lo) == items.size) = true := by
    rw [hw.1, hw.2]; simp
  show wpAny _ _ (if (((sIx items.size 0 lo : Nat) : Int) == 0 && (1 : Int) == 1 && (sIx items.size items.size hi - sIx items.size 0 lo) == items.size) = true then _ else _) _ _ s
  rw [if_pos yes]
  refine wpAny_bind (m := Builtin.Tuple.tupleIsExact _) ?_
  unfold Builtin.Tuple.tupleIsExact
  refine wpAny_bind (wpAny_typeOf ht.typeIs (wpAny_pure ?_))
  simp only [beq_self_eq_true, if_true]
  first
    | exact wpAny_bind (wpAny_rule (wpAny_pure ⟨_, rfl, wpAny_pure h⟩))
    | exact wpAny_bind (wpAny_rule (wpAny_bind (wpAny_pure (wpAny_pure ⟨_, rfl, wpAny_pure h⟩))))
    | exact wpAny_bind (wpAny_rule (wpAny_bind (wpAny_pure ⟨_, rfl, wpAny_pure h⟩)))
    | (trace_state; fail)
end
end HT

namespace L2
open PySem PySem.Spec PyProof.Rows
section
variable {X : Cx}
def rSlTA (K : PySem.W.Frag) : V → Option Int → Option Int → Hp → VK → Prop := fun x lo hi H Q => ∃ a xs, x = .ref a ∧ SqT K H a xs ∧ (cutV xs lo hi = xs → Q (.ref a) H) ∧ ∀ p, H p = none → Q (.ref p) (upd H p (.tup (cutV xs lo hi)))
theorem sl_tupA : SlR X (rSlTA X.K) := by
  intro pins s σ H x v vl vu lo hi sl Q I rx hs pl pu h
  obtain ⟨a, xs, rfl, hx, h1, h2⟩ := h
  by_cases hw : HT.sIx xs.length 0 lo = 0 ∧ HT.sIx xs.length xs.length hi = xs.length
  · have e : cutV xs lo hi = xs := by unfold cutV; rw [hw.1, hw.2]; simp
    cases rx
    obtain ⟨its, r, ht, hz⟩ := I.tuple hx
    have hlen : its.toArray.size = xs.length := by rw [List.size_toArray]; exact r.length.symm
    exact ⟨"tuple", _, PyProof.Rows.slot_tuple_getitem.lookup, ht.typeIs, HT.getItem_tuple_all ht hs pl pu (by rw [hlen]; exact hw) ⟨.ref a, H, I, rfl, h1 e⟩⟩
  · exact sl_tup pins s σ H (.ref a) v vl vu lo hi sl Q I rx hs pl pu ⟨a, xs, rfl, hx, hw, h2⟩
end

theorem comp_by {J : It} {g : TG} {tc : TT} {te : TE} {R : Hp → Prop} {σ : St} {H : Hp} {D : Addr} (n : Nat) (Pv : Nat → St → Hp → Prop) (h0 : Pv 0 σ H)
    (go : ∀ i σ H, i < n → Pv i σ H → J.go i H ∧ ∀ x H', J.yld i H x H' → g x σ H' fun σ3 H3 => tc σ3 H3 fun b H4 =>
      if b = true then te σ3 H4 fun y H5 => ∃ ys, H5 D = some (.lst ys) ∧ ys.length < sizeLine ∧ Pv (i + 1) σ3 (upd H5 D (.lst (ys ++ [y]))) else Pv (i + 1) σ3 H4) (stop : ∀ σ H, Pv n σ H → J.stop n H ∧ R H) :
    ∃ W : Nat → Nat → St → Hp → Prop, (∃ m, W 0 m σ H) ∧ ∀ i m σ H, W i m σ H →
      (J.stop i H ∧ R H) ∨ (J.go i H ∧ ∃ N : St → Hp → Prop, (∀ σ' H', N σ' H' → ∃ m', m' < m ∧ W (i + 1) m' σ' H') ∧ ∀ x H', J.yld i H x H' → g x σ H' fun σ3 H3 => tc σ3 H3 fun b H4 =>
        if b = true then te σ3 H4 fun y H5 => ∃ ys, H5 D = some (.lst ys) ∧ ys.length < sizeLine ∧ N σ3 (upd H5 D (.lst (ys ++ [y]))) else N σ3 H4) := by
  refine ⟨fun i m σ H => m = n - i ∧ i ≤ n ∧ Pv i σ H, ⟨n, by simp, Nat.zero_le _, h0⟩, ?_⟩
  rintro i m σ H ⟨rfl, hi, p⟩
  by_cases hlt : i < n
  · obtain ⟨q1, q2⟩ := go i σ H hlt p
    exact .inr ⟨q1, Pv (i + 1), fun σ' H' p' => ⟨n - (i + 1), by omega, rfl, hlt, p'⟩, q2⟩
  · have e : i = n := by omega
    subst e
    exact .inl (stop σ H p)

theorem Same.upd {H : Hp} {a : Addr} {o : HO} (h : H a = none) : Same H (upd H a o) := fun b u e => by rw [upd_ne (ne_of_none e h)]; exact e
theorem Same.tup {K : PySem.W.Frag} {H H' : Hp} {a : Addr} {xs : List V} (e : Same H H') (h : SqT K H a xs) : SqT K H' a xs := by
  rcases h with (h | ⟨o, h⟩) | h
  · exact .inl (.inl (e _ _ h))
  · exact .inl (.inr ⟨o, e _ _ h⟩)
  · exact .inr h
theorem Same.put {H H' : Hp} {a : Addr} {o : HO} (e : Same H H') (h : H a = none) : Same H (L2.upd H' a o) := fun b u q => by rw [upd_ne (ne_of_none q h)]; exact e b u q
def isFun : ScopeKind → Bool
  | .function => true
  | _ => false
theorem isFun_eq {k : ScopeKind} (h : isFun k = true) : k = .function := by
  cases k <;> first | rfl | cases h
def compChk (Nx : List Str) (scx : Scope) (N : List Str) (scope : Scope) (own : Nat) (caps : List Nat) : Bool :=
  isFun scope.kind && scope.names.all (fun y => (y.2 != .local || scope.names.lookup y.1 == some .local) && y.2 != .cell && (y.2 != .free || scx.names.lookup y.1 == some .cell || scx.names.lookup y.1 == some .free)) &&
    N.length == own + caps.length && (caps.zip (N.drop own)).all fun p => decide (Nx[p.1]? = some p.2) && scope.names.lookup p.2 == some .free
theorem compOk {X : Cx} {N : List Str} {scope : Scope} {own : Nat} {caps : List Nat} (Nx : List Str) (scx : Scope) (h : compChk Nx scx N scope own caps = true) (hN : X.N = Nx := by rfl) (hs : X.env.scope = scx := by rfl) : CompOk X N scope own caps := by
  unfold compChk at h
  simp only [Bool.and_eq_true, List.all_eq_true] at h
  obtain ⟨⟨⟨h1, h2⟩, h3⟩, h4⟩ := h
  refine ⟨isFun_eq h1, fun y hy hl => ?_, fun y hy hc => ?_, fun y hy hf => ?_, by simpa using h3, fun i j x e1 e2 => ?_⟩
  · have := (h2 y hy).1.1
    simpa [hl] using this
  · have := (h2 y hy).1.2
    simp [hc] at this
  · have := (h2 y hy).2
    show X.env.scope.names.lookup y.1 = some .cell ∨ X.env.scope.names.lookup y.1 = some .free
    rw [hs]
    simpa [hf] using this
  · have hm : (j, x) ∈ caps.zip (N.drop own) := by
      have e3 : (N.drop own)[i]? = some x := by rw [List.getElem?_drop]; exact e2
      exact List.mem_iff_getElem?.mpr ⟨i, by rw [List.getElem?_zip_eq_some]; exact ⟨e1, e3⟩⟩
    have := h4 _ hm
    rw [hN]
    exact ⟨of_decide_eq_true this.1, by simpa using this.2⟩

structure Cal (P : Program) (w : World) (K : PySem.W.Frag) (mg : Str → Option Value) (base : Heap) (k : Nat) (x : Str) (ps : List Str) (sp : Sp) : Prop where
  ex : ∃ f fd, FnOk P w K mg base CX0 k f fd ps sp ∧ mg x = some (.ref f) ∧ PySem.W.keepIn K (.ref f) = true ∧ Binds K fd ps []
structure Laid (K : PySem.W.Frag) (mg : Str → Option Value) (x : Str) (st : Stmt) (ps : List Str) : Prop where
  ex : ∃ f fd, Fun K x x st f fd ∧ mg x = some (.ref f) ∧ Binds K fd ps []
section
variable {P : Program} {w : World} {K : PySem.W.Frag} {mg : Str → Option Value} {base : Heap}
theorem Laid.cal {x : Str} {st : Stmt} {N ps : List Str} {k : Nat} {sp : Sp} (L : Laid K mg x st ps) (S : FnScope N ps (defScope st)) (len : ∀ vs H Q E, sp vs H Q E → vs.length = ps.length)
    (hbody : ∀ (f : Addr) (cdv : Value) (A : Around) (outer : List Env) (s : Shared) (H : Hp) (vs : List V) (Q : VK) (E : XK), Room k (A.deeper (envOfC x (defScope st) s.heap.objs.size f cdv)) → sp vs H Q E →
      ∃ t, PSs (cxOf CX0 P w K mg base N x (defScope st) f cdv A outer s H E).nox (defBody st) t ∧ t { nx := fun _ H' => Q .non H', rt := Q } (start N vs) H) : Cal P w K mg base (k + 1) x ps sp := by
  obtain ⟨f, fd, F, m, b⟩ := L.ex
  exact ⟨f, fd, F.ok S len (fun cdv A outer s H vs Q E hr h => hbody f cdv A outer s H vs Q E hr h), m, F.kp, b⟩
theorem laid_mk {h : Heap} {x : Str} {st : Stmt} {ps : List Str} {f : Addr} {oc : Value} {od an : Option Addr} {osl : Array (Option Value)} {kV doc pm cdv ct : Value} (X : K.In h) (G : h.Ns mainGlobals mg) (a : PySem.W.nsIn K mainGlobals x = some (some (.ref f)))
    (l : K.lookup f = some ⟨oc, od, .func (PySem.W.fnOf x x (defArgs st) (defBody st) (defScope st) .none kV doc pm an cdv ct), osl⟩) (c : PySem.W.codeIn K cdv x = true) (k : PySem.W.keepIn K (.ref f) = true)
    (hb : ∀ (kV doc pm : Value) (an : Option Addr) (cdv ct : Value) (us : List Value), us.length = ps.length → bindArgs (PySem.W.fnOf x x (defArgs st) (defBody st) (defScope st) .none kV doc pm an cdv ct) ⟨us, []⟩ = pure (ps.zip us)) : Laid K mg x st ps :=
  ⟨f, _, fun_mk l c k, PySem.W.mg_of X G a, (fun_mk l c k).binds hb⟩
end
section
variable {X : Cx} {k k' : Nat} {x : Str} {ps : List Str} {sp : Sp} {p pos : Pos} {e : Expr} {es : List Expr} {t : TA}
theorem pe_cal (c : Cal X.prog X.w X.K X.mg X.base k x ps sp) (hr : Room k' X.A) (hk : k ≤ k') (hg : Gl X x) (ha : PA X (e :: es) t) (hdb : (x == ("__debug__" : Str)) = false := by decide) (he : starEach (e :: es) X.env = (false, eval e X.env) :: starEach es X.env := by rfl)
    (hpl : (backTo pos (starEach es X.env)).any (·.1) = false := by rfl) : PE X (.Call (.Name x p) (e :: es) [] pos) (tCall sp [] E0 t) := by
  obtain ⟨f, fd, F, m, kp, b⟩ := c.ex
  exact pe_call F (hr.mono hk) hg m kp b .nil pass0 ha hdb he hpl
end
def tyS (H : Hp) : V → Option String
  | .non => some "NoneType"
  | .bl _ => some "bool"
  | .int _ => some "int"
  | .str _ => some "str"
  | .ref p => match H p with
    | some (.lst _) => some "list"
    | some (.tup _) => some "tuple"
    | some (.frz _ (.lst _)) => some "list"
    | _ => none
  | _ => none
def subS (a n : String) : Bool := a == n || (a == "bool" && n == "int")
def knownS (n : String) : Bool := n == "bool" || n == "int" || n == "str" || n == "list" || n == "tuple"
theorem kit_all (K : PySem.W.Frag) : ∀ a ∈ ["NoneType", "bool", "int", "str", "list", "tuple"], ∀ n ∈ ["bool", "int", "str", "list", "tuple"], PySem.W.kitOne K (.type a) (.type n) = some (subS a n) := by
  intro a ha n hn
  simp only [List.mem_cons, List.not_mem_nil, or_false] at ha hn
  rcases ha with rfl | rfl | rfl | rfl | rfl | rfl <;> rcases hn with rfl | rfl | rfl | rfl | rfl <;> kernel_rfl
theorem tyS_ty {K : PySem.W.Frag} {H : Hp} {x : V} {a : String} (h : tyS H x = some a) : TyOf K H x (.type a) ∧ a ∈ ["NoneType", "bool", "int", "str", "list", "tuple"] := by
  unfold tyS at h
  split at h
  · cases h; exact ⟨.non, by simp⟩
  · cases h; exact ⟨.bl _, by simp⟩
  · cases h; exact ⟨.int _, by simp⟩
  · cases h; exact ⟨.str _, by simp⟩
  · split at h
    · rename_i e; cases h; exact ⟨.lst e, by simp⟩
    · rename_i e; cases h; exact ⟨.tup e, by simp⟩
    · rename_i e; cases h; exact ⟨.frz e, by simp⟩
    · cases h
  · cases h
section
variable {X : Cx}
def rIsiS : List V → Hp → VK → Prop := fun xs H Q => ∃ x n a, xs = [x, .ty n] ∧ tyS H x = some a ∧ knownS n = true ∧ Q (.bl (subS a n)) H
theorem call_isiS : CallR X (.builtin "isinstance") rIsiS := by
  intro pins s σ H xs us Q I r h
  obtain ⟨x, n, a, rfl, ty, kn, q⟩ := h
  obtain ⟨t1, t2⟩ := tyS_ty (K := X.K) ty
  refine call_isiT pins s σ H _ us Q I r ⟨x, n, _, _, rfl, t1, kit_all X.K a t2 n ?_, q⟩
  unfold knownS at kn
  simp only [Bool.or_eq_true, beq_iff_eq] at kn
  simp only [List.mem_cons, List.not_mem_nil, or_false]
  rcases kn with (((kn | kn) | kn) | kn) | kn <;> simp [kn]
theorem tyS_tup {H : Hp} {p : Addr} {xs : List V} (h : H p = some (.tup xs)) : tyS H (.ref p) = some "tuple" := by simp only [tyS, h]
theorem tyS_lst {H : Hp} {p : Addr} {xs : List V} (h : H p = some (.lst xs)) : tyS H (.ref p) = some "list" := by simp only [tyS, h]
end
theorem bt_isinstance : bootBuiltins "isinstance" = some (.builtin "isinstance") := by decide +kernel
theorem bt_len : bootBuiltins "len" = some (.builtin "len") := by decide +kernel
theorem bt_max : bootBuiltins "max" = some (.builtin "max") := by decide +kernel
theorem bt_min : bootBuiltins "min" = some (.builtin "min") := by decide +kernel
theorem bt_int : bootBuiltins "int" = some (.type "int") := by decide +kernel
theorem bt_bool : bootBuiltins "bool" = some (.type "bool") := by decide +kernel
theorem bt_str : bootBuiltins "str" = some (.type "str") := by decide +kernel
theorem bt_list : bootBuiltins "list" = some (.type "list") := by decide +kernel
theorem bt_tuple : bootBuiltins "tuple" = some (.type "tuple") := by decide +kernel
end L2

set_option maxRecDepth 100000
set_option maxHeartbeats 4000000
namespace L2
open PySem PySem.Spec PyProof.Rows

structure VMeth (P : Program) (w : World) (K : PySem.W.Frag) (mg : Str → Option Value) (base : Heap) (k : Nat) (C : Addr) (m : Str) (ps : List Str) (sp : Sp) : Prop where
  cl : Cls K C
  ex : ∃ f fd, Meth K C m f ∧ FnOk P w K mg base CX0 k f fd ps sp ∧ Binds K fd ps []
def tVM (P : Program) (w : World) (K : PySem.W.Frag) (mg : Str → Option Value) (base : Heap) (k : Nat) (m : Str) (ta : TE) (t : TA) : TE := fun σ H Q => ta σ H fun x H1 => ∃ a C dx fs ps sp, x = .ref a ∧ H1 a = some (.ins C dx fs) ∧ VMeth P w K mg base k C m ps sp ∧ fs.lookup m = none ∧
  t σ H1 fun vs H2 => sp (x :: vs) H2 Q E0
structure CMeth (K : PySem.W.Frag) (C : Addr) (m : Str) (f : Addr) : Prop where
  rd : PySem.W.readsIn K C (.type "type") = true
  fc : PySem.W.findCls K (.ref C) (.type "type") m = some (.val (.ref f))
  sg : PySem.W.specialIn K (.ref C) "__getattribute__" = some (some (.builtin "type.__getattribute__"))
  kp : PySem.W.keepIn K (.ref f) = true
structure CCal (P : Program) (w : World) (K : PySem.W.Frag) (mg : Str → Option Value) (base : Heap) (k : Nat) (x m : Str) (ps : List Str) (sp : Sp) : Prop where
  ex : ∃ C f fd, mg x = some (.ref C) ∧ CMeth K C m f ∧ FnOk P w K mg base CX0 k f fd ps sp ∧ Binds K fd ps []
structure Makes (P : Program) (w : World) (K : PySem.W.Frag) (mg : Str → Option Value) (base : Heap) (k : Nat) (x : Str) (C : Addr) (ps : List Str) (sp : Sp) : Prop where
  ex : ∃ f fd, Mk K C f ∧ FnOk P w K mg base CX0 k f fd ps sp ∧ Binds K fd ps []
  at_ : mg x = some (.ref C)
section
variable {X : Cx} {k k' : Nat} {C : Addr} {ps : List Str} {sp : Sp} {x m : Str} {p pos apos : Pos} {e o : Expr} {es : List Expr} {ta : TE} {t : TA}
def eqVs (xs ys : List V) : Bool := xs.length == ys.length && (List.zipWith eqV xs ys).all id
theorem all_zip_range (xs ys : List V) : ((List.range (min xs.length ys.length)).all fun j => eqV (xs.getD j .non) (ys.getD j .non)) = (List.zipWith eqV xs ys).all id := by
  rw [Bool.eq_iff_iff]
  simp only [List.all_eq_true, List.mem_range, id]
  constructor
  · intro h b hb
    obtain ⟨i, hi, rfl⟩ := List.mem_iff_getElem.mp hb
    rw [List.length_zipWith] at hi
    have := h i hi
    simpa [List.getD, show i < xs.length by omega, show i < ys.length by omega] using this
  · intro h i hi
    have := h _ (List.mem_iff_getElem.mpr ⟨i, by rw [List.length_zipWith]; exact hi, rfl⟩)
    simpa [List.getD, show i < xs.length by omega, show i < ys.length by omega] using this
theorem vals_at {xs : List V} {us : List Value} (r : Vals xs us) {j : Nat} (h : j < us.toArray.size) : RelV (xs.getD j .non) us.toArray[j] := by
  have hj : j < us.length := by simpa using h
  have hx : j < xs.length := by rw [r.length]; exact hj
  obtain ⟨u, hu, ru⟩ := r.get (i := j) (x := xs[j]) (by simp [hx])
  have e1 : us.toArray[j] = u := by
    have : us[j]? = some us[j] := by simp [hj]
    rw [this] at hu
    simpa using Option.some.inj hu
  rw [e1]
  simpa [List.getD, hx] using ru
theorem flat_at {xs : List V} (h : xs.all flatV = true) (j : Nat) : flatV (xs.getD j .non) = true := by
  by_cases hj : j < xs.length
  · rw [List.all_eq_true] at h
    have := h xs[j] (List.getElem_mem hj)
    simpa [List.getD, hj] using this
  · simp [List.getD, show xs.length ≤ j by omega, flatV]
def rNeLs (K : PySem.W.Frag) : R2 := fun x y H Q => ∃ p q xs ys, x = .ref p ∧ y = .ref q ∧ SqL K H p xs ∧ SqL K H q ys ∧ xs.all flatV = true ∧ ys.all flatV = true ∧ Q (.bl (!eqVs xs ys)) H
theorem op_neL (hu : X.A.units < cLine) : OpR X (compareOp .NotEq) (rNeLs X.K) := by
  intro pins s σ H x y v u Q I rx ry h
  obtain ⟨p, q, xs, ys, rfl, rfl, hp, hq, fx, fy, k⟩ := h
  cases rx
  cases ry
  obtain ⟨ia, ra, pa, _⟩ := I.list hp
  obtain ⟨ib, rb, pb, _⟩ := I.list hq
  have la := ra.length
  have lb := rb.length
  by_cases hl : xs.length = ys.length
  · refine SeqAt.RcNeAt.lists (e := fun j => eqV (xs.getD j .non) (ys.getD j .non)) pa.isList pb.isList (by simp; omega) hu (fun j h1 h2 => eqAt_V (vals_at ra h1) (vals_at rb h2) (flat_at fx j) (flat_at fy j)) _ _ _ _ ⟨.bl (!eqVs xs ys), H, I, ?_, k⟩
    show Value.bool _ = Value.bool _
    unfold eqVs
    rw [← all_zip_range, show ia.toArray.size = min xs.length ys.length by simp; omega]
    simp [hl]
  · refine SeqAt.RcNeAt.lists_lengths pa.isList pb.isList (by simp; omega) hu _ _ _ _ ⟨.bl (!eqVs xs ys), H, I, ?_, k⟩
    show Value.bool _ = Value.bool _
    unfold eqVs
    simp [hl]
theorem eqV_refl {x : V} (h : flatV x = true) : eqV x x = true := by
  cases x <;> first | rfl | (simp [eqV]; done) | (simp [flatV] at h)
theorem eqVs_refl {xs : List V} (h : xs.all flatV = true) : eqVs xs xs = true := by
  unfold eqVs
  rw [Bool.and_eq_true]
  refine ⟨by simp, ?_⟩
  rw [List.all_eq_true]
  intro b hb
  obtain ⟨i, hi, rfl⟩ := List.mem_iff_getElem.mp hb
  rw [List.getElem_zipWith]
  rw [List.all_eq_true] at h
  exact eqV_refl (h _ (List.getElem_mem _))

end
section
variable {X : Cx} {e o : Expr} {es : List Expr} {ta : TE} {t : TA} {pos apos : Pos} {m f : Str}
theorem ix_listK (K : PySem.W.Frag) (h : X.K = K := by rfl) : IxR X (rIxL K) := by subst h; exact ix_list
theorem ix_tupK (K : PySem.W.Frag) (h : X.K = K := by rfl) : IxR X (rIxT K) := by subst h; exact ix_tup
theorem sl_listK (K : PySem.W.Frag) (h : X.K = K := by rfl) : SlR X (rSlL K) := by subst h; exact sl_list
theorem sl_tupAK (K : PySem.W.Frag) (h : X.K = K := by rfl) : SlR X (rSlTA K) := by subst h; exact sl_tupA
theorem op_catTK (K : PySem.W.Frag) (h : X.K = K := by rfl) : OpR X (binaryOp .Add) (rCatT K) := by subst h; exact op_catT
theorem pg_tupK {k : Nat} {g : TGs} {n : Nat} (K : PySem.W.Frag) (hc : X.calm = true) (h : PGs X es g) (hK : X.K = K := by rfl) (hn : (assignEach es X.env).length = n := by rfl) (hst : (assignEach es X.env).findIdx? (·.1) = none := by rfl) : PG X (.Tuple es k pos) (gTup K n g) := by
  subst hK
  exact pg_tup hc h hn hst
end
end L2

set_option maxRecDepth 100000
set_option maxHeartbeats 4000000
namespace L2
open PySem PySem.Spec PyProof.Rows
section
variable {X : Cx} {pos : Pos}
def gLst (K : PySem.W.Frag) (n : Nat) (t : TGs) : TG := fun v σ H Q => ∃ a xs, v = .ref a ∧ SqL K H a xs ∧ xs.length = n ∧ t xs σ H Q
theorem pg_lst {es : List Expr} {k : Nat} {t : TGs} {n : Nat} (hc : X.calm = true) (h : PGs X es t)
    (hn : (assignEach es X.env).length = n := by rfl) (hst : (assignEach es X.env).findIdx? (·.1) = none := by rfl) : PG X (.Tuple es k pos) (gLst X.K n t) := by
  intro pins s σ H v u Q I r hw
  obtain ⟨a, xs, e1, hq, hl, hw⟩ := hw
  subst e1
  cases r
  obtain ⟨its, rv, ht, hz⟩ := I.list hq
  have hn' : (assignEach es X.env).length = its.toArray.size := by simp [hn, ← hl, rv.length]
  rw [PyProof.Rows.assign_Tuple]
  refine wpAny_bind (wpAny_standAt ?_)
  unfold unpack
  rw [hn', hst]
  refine wpAny_bind (wpAny_holding (PySem.W.kun_itemsOf (I.ok.hd hc) ht.isList fun h' hx => ?_))
  have I1 : Inv X pins σ H { s with heap := h' } := I.kept (t' := s.toks) fun b o e => hx b o (Nat.ne_of_lt (Heap.lt_size e)) e
  exact h pins _ σ H xs _ Q I1 (by simpa using rv) hw
end

def rLen (K : PySem.W.Frag) : List V → Hp → VK → Prop := fun xs H Q => ∃ p ys, xs = [.ref p] ∧ (SqL K H p ys ∨ SqT K H p ys) ∧ Q (.int ys.length) H
def rTupOf (K : PySem.W.Frag) : List V → Hp → VK → Prop := fun xs H Q => ∃ p ys, xs = [.ref p] ∧ ((SqL K H p ys ∧ ∀ l, H l = none → Q (.ref l) (upd H l (.tup ys))) ∨ (SqT K H p ys ∧ Q (.ref p) H))
def rLstOf (K : PySem.W.Frag) : List V → Hp → VK → Prop := fun xs H Q => ∃ p ys, xs = [.ref p] ∧ (SqL K H p ys ∨ SqT K H p ys) ∧ ∀ l, H l = none → Q (.ref l) (upd H l (.lst ys))
def rMax2 : List V → Hp → VK → Prop := fun xs H Q => ∃ i j, xs = [.int i, .int j] ∧ Q (.int (if j > i then j else i)) H
def rMin2 : List V → Hp → VK → Prop := fun xs H Q => ∃ i j, xs = [.int i, .int j] ∧ Q (.int (if j < i then j else i)) H
def rInt1 : List V → Hp → VK → Prop := fun xs H Q => (∃ i, xs = [.int i] ∧ Q (.int i) H) ∨ ∃ k, xs = [.bl k] ∧ Q (.int (if k then 1 else 0)) H
def rStr1 : List V → Hp → VK → Prop := fun xs H Q => (∃ z, xs = [.str z] ∧ Q (.str z) H) ∨ ∃ i, xs = [.int i] ∧ i.natAbs.log2 < 1920 ∧ Q (.str (toString i)) H
section
variable {X : Cx}
theorem lenK (K : PySem.W.Frag) (h : X.K = K := by rfl) : CallR X (.builtin "len") (rLen K) := by subst h; exact call_len_seq
theorem tupOfK (K : PySem.W.Frag) (h : X.K = K := by rfl) : CallR X (.type "tuple") (rTupOf K) := by subst h; exact call_tuple_of
theorem lstOfK (K : PySem.W.Frag) (h : X.K = K := by rfl) : CallR X (.type "list") (rLstOf K) := by subst h; exact call_list_of
theorem max2 (hc : X.calm = true) : CallR X (.builtin "max") rMax2 := call_max2 hc
theorem min2 (hc : X.calm = true) : CallR X (.builtin "min") rMin2 := call_min2 hc
end
section
variable {σ : St} {H : Hp} {Q : VK} {B : Bool → Hp → Prop} {L : List V → Hp → Prop} {ta tb : TE} {t : TA} {c d : TT} {nx bk ct : St → Hp → Prop} {rt : VK} {g : TG} {K : PySem.W.Frag}
theorem r_var {i : Nat} {v : V} (h : σ[i]? = some (some v)) (q : Q v H) : tVar i σ H Q := ⟨v, h, q⟩
theorem r_c {v : V} (q : Q v H) : tC v σ H Q := q
theorem r_op {r : R2} (q : ta σ H fun x H1 => tb σ H1 fun y H2 => r x y H2 Q) : tOp r ta tb σ H Q := q
theorem r_un {r : V → Hp → VK → Prop} (q : ta σ H fun x H1 => r x H1 Q) : tUn r ta σ H Q := q
theorem r_I0 {f : Int → Int → V} {i j : Int} (q : Q (f i j) H) : rI0 f (.int i) (.int j) H Q := ⟨i, j, rfl, rfl, q⟩
theorem r_I {C : Int → Int → Prop} {f : Int → Int → V} {i j : Int} (h : C i j) (q : Q (f i j) H) : rI C f (.int i) (.int j) H Q := ⟨i, j, rfl, rfl, h, q⟩
theorem r_U {f : Int → V} {i : Int} (q : Q (f i) H) : rU f (.int i) H Q := ⟨i, rfl, q⟩
theorem r_isN (q : ta σ H fun x H1 => Q (.bl (decide (x = .non))) H1) : tIsN ta σ H Q := q
theorem r_notN (q : ta σ H fun x H1 => Q (.bl (!decide (x = .non))) H1) : tNotN ta σ H Q := q
theorem r_B (q : ta σ H fun x H1 => ∃ k, x = .bl k ∧ B k H1) : tB ta σ H B := q
theorem r_test (q : ta σ H fun x H1 => ∃ k, x = .bl k ∧ B k H1) : tTest ta σ H B := q
theorem r_bl {b : Bool} {P : Bool → Prop} (q : P b) : ∃ k, V.bl b = V.bl k ∧ P k := ⟨b, rfl, q⟩
theorem r_and (q : c σ H fun k H1 => if k = true then d σ H1 B else B false H1) : tAnd c d σ H B := q
theorem r_or (q : c σ H fun k H1 => if k = true then B true H1 else d σ H1 B) : tOr c d σ H B := q
theorem r_not (q : c σ H fun k H1 => B (!k) H1) : tNot c σ H B := q
theorem r_andV (q : ta σ H fun x H1 => ∃ k, x = .bl k ∧ if k = true then tb σ H1 Q else Q (.bl false) H1) : tAndV ta tb σ H Q := q
theorem r_orV (q : ta σ H fun x H1 => ∃ k, x = .bl k ∧ if k = true then Q (.bl true) H1 else tb σ H1 Q) : tOrV ta tb σ H Q := q
theorem r_notV (q : ta σ H fun x H1 => ∃ k, x = .bl k ∧ Q (.bl (!k)) H1) : tNotV ta σ H Q := q
theorem r_if (q : c σ H fun k H1 => if k = true then ta σ H1 Q else tb σ H1 Q) : tIf c ta tb σ H Q := q
theorem r_cons (q : ta σ H fun x H1 => t σ H1 fun xs H2 => L (x :: xs) H2) : tCons ta t σ H L := q
theorem r_nil (q : L [] H) : tNil σ H L := q
theorem r_tup (q : t σ H fun xs H1 => xs.length ≤ sizeLine ∧ ∀ p, H1 p = none → Q (.ref p) (upd H1 p (.tup xs))) : tTup t σ H Q := q
theorem r_lst (q : t σ H fun xs H1 => xs.length ≤ sizeLine ∧ ∀ p, H1 p = none → Q (.ref p) (upd H1 p (.lst xs))) : tLst t σ H Q := q
theorem r_al {n : Nat} {P : Prop} (h : Nat.ble n sizeLine = true) (q : P) : n ≤ sizeLine ∧ P := ⟨Nat.le_of_ble_eq_true h, q⟩
theorem r_call {sp : Sp} {E : XK} (q : t σ H fun vs H1 => sp (vs ++ []) H1 Q E) : tCall sp [] E t σ H Q := q
theorem r_cb {r : List V → Hp → VK → Prop} (q : t σ H fun vs H1 => r vs H1 Q) : tCB r t σ H Q := q
theorem r_bm {T : String} {r : V → List V → Hp → VK → Prop} (q : ta σ H fun x H1 => tyV K T x H1 ∧ t σ H1 fun xs H2 => r x xs H2 Q) : tBM K T r ta t σ H Q := q
theorem r_sl {r : V → Option Int → Option Int → Hp → VK → Prop} {tl th : TO} (q : ta σ H fun x H1 => tl σ H1 fun l H2 => th σ H2 fun u H3 => r x l u H3 Q) : tSl r ta tl th σ H Q := q
theorem r_np {P : Option Int → Hp → Prop} (q : P none H) : tNoPart σ H P := q
theorem r_pt {P : Option Int → Hp → Prop} (q : ta σ H fun x H1 => ∃ i, x = .int i ∧ P (some i) H1) : tPart ta σ H P := q
theorem r_int {i : Int} {P : Int → Prop} (q : P i) : ∃ k, V.int i = V.int k ∧ P k := ⟨i, rfl, q⟩
theorem r_eqI {i j : Int} (q : Q (.bl (decide (i = j))) H) : rEq (.int i) (.int j) H Q := ⟨rfl, by rw [show decide (V.int i = V.int j) = decide (i = j) by simp]; exact q⟩
theorem r_eqS {i j : Str} (q : Q (.bl (decide (i = j))) H) : rEq (.str i) (.str j) H Q := ⟨rfl, by rw [show decide (V.str i = V.str j) = decide (i = j) by simp]; exact q⟩
theorem r_eqB {i j : Bool} (q : Q (.bl (decide (i = j))) H) : rEq (.bl i) (.bl j) H Q := ⟨rfl, by rw [show decide (V.bl i = V.bl j) = decide (i = j) by simp]; exact q⟩
theorem r_neI {i j : Int} (q : Q (.bl (!decide (i = j))) H) : rNe (.int i) (.int j) H Q := ⟨rfl, by rw [show decide (V.int i = V.int j) = decide (i = j) by simp]; exact q⟩
theorem r_neS {i j : Str} (q : Q (.bl (!decide (i = j))) H) : rNe (.str i) (.str j) H Q := ⟨rfl, by rw [show decide (V.str i = V.str j) = decide (i = j) by simp]; exact q⟩
theorem r_neB {i j : Bool} (q : Q (.bl (!decide (i = j))) H) : rNe (.bl i) (.bl j) H Q := ⟨rfl, by rw [show decide (V.bl i = V.bl j) = decide (i = j) by simp]; exact q⟩
theorem r_ixT {p : Addr} {xs : List V} {i : Int} {v : V} (h : SqT K H p xs) (e : atI xs i = some v) (q : Q v H) : rIxT K (.ref p) (.int i) H Q := ⟨p, xs, i, v, rfl, rfl, h, e, q⟩
theorem r_ixL {p : Addr} {xs : List V} {i : Int} {v : V} (h : SqL K H p xs) (e : atI xs i = some v) (q : Q v H) : rIxL K (.ref p) (.int i) H Q := ⟨p, xs, i, v, rfl, rfl, h, e, q⟩
theorem r_lenT {p : Addr} {xs : List V} (h : SqT K H p xs) (q : Q (.int xs.length) H) : rLen K [.ref p] H Q := ⟨p, xs, rfl, .inr h, q⟩
theorem r_lenL {p : Addr} {xs : List V} (h : SqL K H p xs) (q : Q (.int xs.length) H) : rLen K [.ref p] H Q := ⟨p, xs, rfl, .inl h, q⟩
theorem r_catT {p q : Addr} {xs ys : List V} (h1 : SqT K H p xs) (h2 : SqT K H q ys) (h : xs ≠ []) (hy : ys ≠ []) (hz : Nat.ble (xs.length + ys.length) sizeLine = true) (k : ∀ r, H r = none → Q (.ref r) (upd H r (.tup (xs ++ ys)))) : rCatT K (.ref p) (.ref q) H Q :=
  ⟨p, q, xs, ys, rfl, rfl, h1, h2, h, Nat.le_of_ble_eq_true hz, fun e => (hy e).elim, fun _ => k⟩
theorem r_lenU {p : Addr} {xs : List V} (h : SqL K H p xs ∨ SqT K H p xs) (q : Q (.int xs.length) H) : rLen K [.ref p] H Q := ⟨p, xs, rfl, h, q⟩
theorem r_ixU {p : Addr} {xs : List V} {i : Int} {v : V} (h : SqL K H p xs ∨ SqT K H p xs) (e : atI xs i = some v) (q : Q v H) : rIx K (.ref p) (.int i) H Q := by
  rcases h with h | h
  · exact .inl (r_ixL h e q)
  · exact .inr (.inl (r_ixT h e q))
theorem atI0 {v : V} {l : List V} : atI (v :: l) 0 = some v := atI_nat (j := 0) rfl
theorem atI_off {xs : List V} {j : Nat} {v : V} (h : xs[j]? = some v) : atI xs (0 + (j : Int)) = some v := by rw [Int.zero_add]; exact atI_nat h
theorem r_isi {x : V} {n a : String} {b : Bool} (h : tyS H x = some a) (k : knownS n = true) (e : subS a n = b) (q : Q (.bl b) H) : rIsiS [x, .ty n] H Q := ⟨x, n, a, rfl, h, k, by rw [e]; exact q⟩
theorem r_isi_ib {i : Int} (q : Q (.bl false) H) : rIsiS [.int i, .ty "bool"] H Q := r_isi rfl (by decide +kernel) (by decide +kernel) q
theorem r_isi_ii {i : Int} (q : Q (.bl true) H) : rIsiS [.int i, .ty "int"] H Q := r_isi rfl (by decide +kernel) (by decide +kernel) q
theorem r_isi_bb {i : Bool} (q : Q (.bl true) H) : rIsiS [.bl i, .ty "bool"] H Q := r_isi rfl (by decide +kernel) (by decide +kernel) q
theorem r_isi_bi {i : Bool} (q : Q (.bl true) H) : rIsiS [.bl i, .ty "int"] H Q := r_isi rfl (by decide +kernel) (by decide +kernel) q
theorem r_isi_ss {i : Str} (q : Q (.bl true) H) : rIsiS [.str i, .ty "str"] H Q := r_isi rfl (by decide +kernel) (by decide +kernel) q
theorem r_isi_sb {i : Str} (q : Q (.bl false) H) : rIsiS [.str i, .ty "bool"] H Q := r_isi rfl (by decide +kernel) (by decide +kernel) q
theorem r_isi_si {i : Str} (q : Q (.bl false) H) : rIsiS [.str i, .ty "int"] H Q := r_isi rfl (by decide +kernel) (by decide +kernel) q
theorem r_isi_st {i : Str} (q : Q (.bl false) H) : rIsiS [.str i, .ty "tuple"] H Q := r_isi rfl (by decide +kernel) (by decide +kernel) q
theorem r_isi_it {i : Int} (q : Q (.bl false) H) : rIsiS [.int i, .ty "tuple"] H Q := r_isi rfl (by decide +kernel) (by decide +kernel) q
theorem r_isi_bt {i : Bool} (q : Q (.bl false) H) : rIsiS [.bl i, .ty "tuple"] H Q := r_isi rfl (by decide +kernel) (by decide +kernel) q
theorem r_isi_is {i : Int} (q : Q (.bl false) H) : rIsiS [.int i, .ty "str"] H Q := r_isi rfl (by decide +kernel) (by decide +kernel) q
theorem r_isi_bs {i : Bool} (q : Q (.bl false) H) : rIsiS [.bl i, .ty "str"] H Q := r_isi rfl (by decide +kernel) (by decide +kernel) q
theorem r_isi_nl (q : Q (.bl false) H) : rIsiS [.non, .ty "list"] H Q := r_isi rfl (by decide +kernel) (by decide +kernel) q
theorem r_isi_tt {p : Addr} {xs : List V} (h : H p = some (.tup xs)) (q : Q (.bl true) H) : rIsiS [.ref p, .ty "tuple"] H Q := r_isi (tyS_tup h) (by decide +kernel) (by decide +kernel) q
theorem r_isi_tl {p : Addr} {xs : List V} (h : H p = some (.tup xs)) (q : Q (.bl false) H) : rIsiS [.ref p, .ty "list"] H Q := r_isi (tyS_tup h) (by decide +kernel) (by decide +kernel) q
theorem r_isi_ll {p : Addr} {xs : List V} (h : H p = some (.lst xs)) (q : Q (.bl true) H) : rIsiS [.ref p, .ty "list"] H Q := r_isi (tyS_lst h) (by decide +kernel) (by decide +kernel) q
theorem r_isi_lt {p : Addr} {xs : List V} (h : H p = some (.lst xs)) (q : Q (.bl false) H) : rIsiS [.ref p, .ty "tuple"] H Q := r_isi (tyS_lst h) (by decide +kernel) (by decide +kernel) q
theorem r_seq {t u : TS} (q : t ⟨u ⟨nx, rt, bk, ct⟩, rt, bk, ct⟩ σ H) : tSeq t u ⟨nx, rt, bk, ct⟩ σ H := q
theorem r_asg (q : ta σ H fun x H1 => g x σ H1 nx) : tAsg ta g ⟨nx, rt, bk, ct⟩ σ H := q
theorem r_name {i : Nat} {v : V} {N : St → Hp → Prop} (q : N (σ.set i (some v)) H) : gName i v σ H N := q
theorem r_ifS {t u : TS} {D : Ends} (q : c σ H fun k H1 => if k = true then t D σ H1 else u D σ H1) : tIfS c t u D σ H := q
theorem r_ret (q : ta σ H rt) : tRet ta ⟨nx, rt, bk, ct⟩ σ H := q
theorem r_retN (q : rt .non H) : tRetN ⟨nx, rt, bk, ct⟩ σ H := q
theorem r_next (q : nx σ H) : tNext ⟨nx, rt, bk, ct⟩ σ H := q
theorem r_drop (q : ta σ H fun _ H1 => nx σ H1) : tDrop ta ⟨nx, rt, bk, ct⟩ σ H := q
theorem r_sub {to ti : TE} {ts : TSet} {v : V} {N : St → Hp → Prop} (q : to σ H fun o H1 => ti σ H1 fun i H2 => ts o i v H2 fun H3 => N σ H3) : gSub to ti ts v σ H N := q
theorem r_augS {to ti te : TE} {tget : V → V → Hp → VK → Prop} {tip : TIp} {tset : TSet} (q : to σ H fun o H1 => ti σ H1 fun i H2 => tget o i H2 fun x H3 => te σ H3 fun y H4 => tip x y H4 fun z H5 => tset o i z H5 fun H6 => nx σ H6) : tAugS to ti te tget tip tset ⟨nx, rt, bk, ct⟩ σ H := q
theorem r_ipI {f : Int → Int → Int} {i j : Int} (q : Q (.int (f i j)) H) : ipI f (.int i) (.int j) H Q := ⟨i, j, rfl, rfl, q⟩
theorem r_gT {n : Nat} {gs : TGs} {p : Addr} {xs : List V} {N : St → Hp → Prop} (h : SqT K H p xs) (e : xs.length = n) (q : gs xs σ H N) : gTup K n gs (.ref p) σ H N := ⟨p, xs, rfl, h, e, q⟩
theorem r_gL {n : Nat} {gs : TGs} {p : Addr} {xs : List V} {N : St → Hp → Prop} (h : SqL K H p xs) (e : xs.length = n) (q : gs xs σ H N) : gLst K n gs (.ref p) σ H N := ⟨p, xs, rfl, h, e, q⟩
theorem r_gc {gs : TGs} {v : V} {vs : List V} {N : St → Hp → Prop} (q : g v σ H fun σ' H' => gs vs σ' H' N) : gCons g gs (v :: vs) σ H N := ⟨v, vs, rfl, q⟩
theorem r_gn {N : St → Hp → Prop} (q : N σ H) : gNil [] σ H N := ⟨rfl, q⟩
theorem r_app {p : Addr} {xs : List V} {y : V} (h : H p = some (.lst xs)) (hz : xs.length < sizeLine) (q : Q .non (upd H p (.lst (xs ++ [y])))) : rAppend (.ref p) [y] H Q := ⟨p, xs, y, rfl, rfl, h, hz, q⟩
theorem r_tyL {p : Addr} {xs : List V} {P : Prop} (h : H p = some (.lst xs)) (q : P) : tyV K "list" (.ref p) H ∧ P := ⟨.inl ⟨rfl, _, SqL.of h⟩, q⟩
theorem ifd {p : Prop} [Decidable p] {A B : Prop} (h1 : p → A) (h2 : ¬ p → B) : if decide p = true then A else B := by
  by_cases h : p
  · rw [if_pos (decide_eq_true h)]; exact h1 h
  · rw [if_neg (by simp [h])]; exact h2 h
theorem if_else {p : Prop} [Decidable p] {A B : Prop} (hB : B) (h1 : B → p → A) : if decide p = true then A else B := ifd (h1 hB) fun _ => hB
theorem r_max2 {x y : Int} (q : Q (.int (if y > x then y else x)) H) : rMax2 [.int x, .int y] H Q := ⟨x, y, rfl, q⟩
theorem r_min2 {x y : Int} (q : Q (.int (if y < x then y else x)) H) : rMin2 [.int x, .int y] H Q := ⟨x, y, rfl, q⟩
theorem r_inti {x : Int} (q : Q (.int x) H) : rInt1 [.int x] H Q := .inl ⟨x, rfl, q⟩
theorem r_intb {x : Bool} (q : Q (.int (if x then 1 else 0)) H) : rInt1 [.bl x] H Q := .inr ⟨x, rfl, q⟩
theorem r_strs {x : Str} (q : Q (.str x) H) : rStr1 [.str x] H Q := .inl ⟨x, rfl, q⟩
theorem r_tol {p : Addr} {ys : List V} (h : SqL K H p ys) (q : ∀ l, H l = none → Q (.ref l) (upd H l (.tup ys))) : rTupOf K [.ref p] H Q := ⟨p, ys, rfl, .inl ⟨h, q⟩⟩
theorem r_lof {p : Addr} {ys : List V} (h : SqL K H p ys ∨ SqT K H p ys) (q : ∀ l, H l = none → Q (.ref l) (upd H l (.lst ys))) : rLstOf K [.ref p] H Q := ⟨p, ys, rfl, h, q⟩
theorem ifnT {A B : Prop} (h : B) : if (!true) = true then A else B := iteF h
theorem ifnF {A B : Prop} (h : A) : if (!false) = true then A else B := iteT h
theorem up_keep {a b : Addr} {o u : HO} (h : H b = some u) (n : H a = none) : upd H a o b = some u := by rw [upd_ne (ne_of_none h n)]; exact h
theorem up_oth {a b : Addr} {o u : HO} (h : H b = some u) (n : b ≠ a) : upd H a o b = some u := by rw [upd_ne n]; exact h
end
section
variable {σ : St} {H : Hp} {g : TG} {tb : TS} {nx bk ct : St → Hp → Prop} {rt : VK} {t : TA} {wi : TI}
theorem r_for (q : wi σ H fun J H1 => ∃ W : Nat → Nat → St → Hp → Prop, (∃ m, W 0 m σ H1) ∧ ∀ i m σ H, W i m σ H →
    (J.stop i H ∧ nx σ H) ∨ (J.go i H ∧ ∃ N : St → Hp → Prop, (∀ σ' H', N σ' H' → ∃ m', m' < m ∧ W (i + 1) m' σ' H') ∧ ∀ x H', J.yld i H x H' → g x σ H' fun σ2 H2 => tb ⟨N, rt, nx, N⟩ σ2 H2)) : tFor wi g tb ⟨nx, rt, bk, ct⟩ σ H := q
def rRg (R : It → Hp → Prop) : List V → Hp → Prop := fun vs H1 => ∃ j : Int, vs = [.int j] ∧ -(2 ^ 62) ≤ j ∧ j < 2 ^ 62 ∧ R (Itr 0 j.toNat) H1
def rRg2 (R : It → Hp → Prop) : List V → Hp → Prop := fun vs H1 => ∃ i j : Int, vs = [.int i, .int j] ∧ (-(2 ^ 62) ≤ i ∧ i < 2 ^ 62 ∧ -(2 ^ 62) ≤ j ∧ j < 2 ^ 62) ∧ R (Itr i (j - i).toNat) H1
theorem r_rng1 {R : It → Hp → Prop} (q : t σ H (rRg R)) : iRng1 t σ H R := q
theorem r_rng2 {R : It → Hp → Prop} (q : t σ H (rRg2 R)) : iRng2 t σ H R := q
theorem r_comp {tc : TT} {te : TE} {own : Nat} {caps : List Nat} {Q : VK} (q : wi σ H fun J H1 => ∀ D, H1 D = none → ∃ W : Nat → Nat → St → Hp → Prop, (∃ m, W 0 m (compSt own caps σ) (upd H1 D (.lst []))) ∧ ∀ i m σ' H', W i m σ' H' →
    (J.stop i H' ∧ Q (.ref D) H') ∨ (J.go i H' ∧ ∃ N : St → Hp → Prop, (∀ σ'' H'', N σ'' H'' → ∃ m', m' < m ∧ W (i + 1) m' σ'' H'') ∧ ∀ x H2, J.yld i H' x H2 → g x σ' H2 fun σ3 H3 => tc σ3 H3 fun b H4 =>
      if b = true then te σ3 H4 fun y H5 => ∃ ys, H5 D = some (.lst ys) ∧ ys.length < sizeLine ∧ N σ3 (upd H5 D (.lst (ys ++ [y]))) else N σ3 H4)) : tComp wi g tc te own caps σ H Q := q
theorem r_yes {B : Bool → Hp → Prop} (q : B true H) : tYes σ H B := q
theorem r_iL {K : PySem.W.Frag} {tl : TE} {R : It → Hp → Prop} (q : tl σ H fun x H1 => ∃ a, x = .ref a ∧ (∃ xs, SqL K H1 a xs) ∧ R (Itl K a) H1) : iList K tl σ H R := q
theorem r_iT {K : PySem.W.Frag} {tl : TE} {R : It → Hp → Prop} (q : tl σ H fun x H1 => ∃ a, x = .ref a ∧ (∃ xs, SqT K H1 a xs) ∧ R (Itt K a) H1) : iTup K tl σ H R := q
theorem r_eL {K : PySem.W.Frag} {R : It → Hp → Prop} (q : t σ H fun vs H1 => ∃ a, vs = [.ref a] ∧ (∃ xs, SqL K H1 a xs) ∧ R (Ite fun H xs => SqL K H a xs) H1) : iEnumL K t σ H R := q
theorem r_eT {K : PySem.W.Frag} {R : It → Hp → Prop} (q : t σ H fun vs H1 => ∃ a, vs = [.ref a] ∧ (∃ xs, SqT K H1 a xs) ∧ R (Ite fun H xs => SqT K H a xs) H1) : iEnumT K t σ H R := q
theorem r_refL {K : PySem.W.Frag} {p : Addr} {xs : List V} {R : Addr → Prop} (h : SqL K H p xs) (q : R p) : ∃ a, V.ref p = .ref a ∧ (∃ xs, SqL K H a xs) ∧ R a := ⟨p, rfl, ⟨xs, h⟩, q⟩
theorem r_refT {K : PySem.W.Frag} {p : Addr} {xs : List V} {R : Addr → Prop} (h : SqT K H p xs) (q : R p) : ∃ a, V.ref p = .ref a ∧ (∃ xs, SqT K H a xs) ∧ R a := ⟨p, rfl, ⟨xs, h⟩, q⟩
theorem r_refL1 {K : PySem.W.Frag} {p : Addr} {xs : List V} {R : Addr → Prop} (h : SqL K H p xs) (q : R p) : ∃ a, [V.ref p] = [.ref a] ∧ (∃ xs, SqL K H a xs) ∧ R a := ⟨p, rfl, ⟨xs, h⟩, q⟩
theorem r_refT1 {K : PySem.W.Frag} {p : Addr} {xs : List V} {R : Addr → Prop} (h : SqT K H p xs) (q : R p) : ∃ a, [V.ref p] = [.ref a] ∧ (∃ xs, SqT K H a xs) ∧ R a := ⟨p, rfl, ⟨xs, h⟩, q⟩
theorem r_rg {j : Int} {R : It → Hp → Prop} (h : -1000000 ≤ j ∧ j ≤ 1000000) (q : R (Itr 0 j.toNat) H) : rRg R [.int j] H := ⟨j, rfl, by omega, by omega, q⟩
theorem r_rg2 {i j : Int} {R : It → Hp → Prop} (h : (-1000000 ≤ i ∧ i ≤ 1000000) ∧ -1000000 ≤ j ∧ j ≤ 1000000) (q : R (Itr i (j - i).toNat) H) : rRg2 R [.int i, .int j] H := ⟨i, j, rfl, by omega, q⟩
end

section
variable {J : It} {g : TG} {tb : TS} {nx : St → Hp → Prop} {rt : VK} {σ : St} {H : Hp} {K : PySem.W.Frag} {a : Addr} {xs : List V} {tc : TT} {te : TE} {R : Hp → Prop} {D : Addr}
abbrev ForG (J : It) (g : TG) (tb : TS) (nx : St → Hp → Prop) (rt : VK) (σ : St) (H : Hp) : Prop := ∃ W : Nat → Nat → St → Hp → Prop, (∃ m, W 0 m σ H) ∧ ∀ i m σ H, W i m σ H →
    (J.stop i H ∧ nx σ H) ∨ (J.go i H ∧ ∃ N : St → Hp → Prop, (∀ σ' H', N σ' H' → ∃ m', m' < m ∧ W (i + 1) m' σ' H') ∧ ∀ x H', J.yld i H x H' → g x σ H' fun σ2 H2 => tb ⟨N, rt, nx, N⟩ σ2 H2)
theorem for_by2 (n : Nat) (Pv : Nat → St → Hp → Prop) (h0 : Pv 0 σ H)
    (go : ∀ i σ H, i < n → Pv i σ H → J.go i H ∧ ∀ x H', J.yld i H x H' → g x σ H' fun σ2 H2 => tb ⟨Pv (i + 1), rt, nx, Pv (i + 1)⟩ σ2 H2) (stop : ∀ σ H, Pv n σ H → J.stop n H ∧ nx σ H) : ForG J g tb nx rt σ H := by
  refine ⟨fun i m σ H => m = n - i ∧ i ≤ n ∧ Pv i σ H, ⟨n, by simp, Nat.zero_le _, h0⟩, ?_⟩
  rintro i m σ H ⟨rfl, hi, p⟩
  by_cases hlt : i < n
  · obtain ⟨q1, q2⟩ := go i σ H hlt p
    exact .inr ⟨q1, Pv (i + 1), fun σ' H' p' => ⟨n - (i + 1), by omega, rfl, hlt, p'⟩, q2⟩
  · have e : i = n := by omega
    subst e
    exact .inl (stop σ H p)
theorem for_rng {lo : Int} {n : Nat} (Pv : Nat → St → Hp → Prop) (h0 : Pv 0 σ H) (go : ∀ i σ H, i < n → Pv i σ H → g (.int (lo + (i : Nat))) σ H fun σ2 H2 => tb ⟨Pv (i + 1), rt, nx, Pv (i + 1)⟩ σ2 H2) (stop : ∀ σ H, Pv n σ H → nx σ H) : ForG (Itr lo n) g tb nx rt σ H :=
  for_by2 n Pv h0 (fun i σ H hi p => ⟨hi, fun x H' ⟨e1, e2⟩ => by subst e1 e2; exact go i σ _ hi p⟩) fun σ H p => ⟨Nat.le_refl _, stop σ H p⟩
theorem for_lst (xs : List V) (Pv : Nat → St → Hp → Prop) (h0 : Pv 0 σ H) (hl : ∀ i σ H, Pv i σ H → SqL K H a xs) (go : ∀ i x σ H, xs[i]? = some x → Pv i σ H → g x σ H fun σ2 H2 => tb ⟨Pv (i + 1), rt, nx, Pv (i + 1)⟩ σ2 H2) (stop : ∀ σ H, Pv xs.length σ H → nx σ H) : ForG (Itl K a) g tb nx rt σ H :=
  for_by2 xs.length Pv h0 (fun i σ H hi p => ⟨⟨xs, xs[i], hl i σ H p, by simp [hi]⟩, fun x H' ⟨e1, e2⟩ => by subst e1; exact go i x σ _ (e2 xs (hl i σ _ p)) p⟩) fun σ H p => ⟨⟨xs, hl _ σ H p, Nat.le_refl _⟩, stop σ H p⟩
abbrev CompG (J : It) (g : TG) (tc : TT) (te : TE) (R : Hp → Prop) (D : Addr) (σ : St) (H : Hp) : Prop := ∃ W : Nat → Nat → St → Hp → Prop, (∃ m, W 0 m σ H) ∧ ∀ i m σ H, W i m σ H →
      (J.stop i H ∧ R H) ∨ (J.go i H ∧ ∃ N : St → Hp → Prop, (∀ σ' H', N σ' H' → ∃ m', m' < m ∧ W (i + 1) m' σ' H') ∧ ∀ x H', J.yld i H x H' → g x σ H' fun σ3 H3 => tc σ3 H3 fun b H4 =>
        if b = true then te σ3 H4 fun y H5 => ∃ ys, H5 D = some (.lst ys) ∧ ys.length < sizeLine ∧ N σ3 (upd H5 D (.lst (ys ++ [y]))) else N σ3 H4)
theorem comp_rng {lo : Int} {n : Nat} (Pv : Nat → St → Hp → Prop) (h0 : Pv 0 σ H) (go : ∀ i σ H, i < n → Pv i σ H → g (.int (lo + (i : Nat))) σ H fun σ3 H3 => tc σ3 H3 fun b H4 =>
      if b = true then te σ3 H4 fun y H5 => ∃ ys, H5 D = some (.lst ys) ∧ ys.length < sizeLine ∧ Pv (i + 1) σ3 (upd H5 D (.lst (ys ++ [y]))) else Pv (i + 1) σ3 H4) (stop : ∀ σ H, Pv n σ H → R H) : CompG (Itr lo n) g tc te R D σ H :=
  comp_by n Pv h0 (fun i σ H hi p => ⟨hi, fun x H' ⟨e1, e2⟩ => by subst e1 e2; exact go i σ _ hi p⟩) fun σ H p => ⟨Nat.le_refl _, stop σ H p⟩
theorem comp_lst (xs : List V) (Pv : Nat → St → Hp → Prop) (h0 : Pv 0 σ H) (hl : ∀ i σ H, Pv i σ H → SqL K H a xs) (go : ∀ i x σ H, xs[i]? = some x → Pv i σ H → g x σ H fun σ3 H3 => tc σ3 H3 fun b H4 =>
      if b = true then te σ3 H4 fun y H5 => ∃ ys, H5 D = some (.lst ys) ∧ ys.length < sizeLine ∧ Pv (i + 1) σ3 (upd H5 D (.lst (ys ++ [y]))) else Pv (i + 1) σ3 H4) (stop : ∀ σ H, Pv xs.length σ H → R H) : CompG (Itl K a) g tc te R D σ H :=
  comp_by xs.length Pv h0 (fun i σ H hi p => ⟨⟨xs, xs[i], hl i σ H p, by simp [hi]⟩, fun x H' ⟨e1, e2⟩ => by subst e1; exact go i x σ _ (e2 xs (hl i σ _ p)) p⟩) fun σ H p => ⟨⟨xs, hl _ σ H p, Nat.le_refl _⟩, stop σ H p⟩
theorem comp_tpl (xs : List V) (Pv : Nat → St → Hp → Prop) (h0 : Pv 0 σ H) (hl : ∀ i σ H, Pv i σ H → SqT K H a xs) (go : ∀ i x σ H, xs[i]? = some x → Pv i σ H → g x σ H fun σ3 H3 => tc σ3 H3 fun b H4 =>
      if b = true then te σ3 H4 fun y H5 => ∃ ys, H5 D = some (.lst ys) ∧ ys.length < sizeLine ∧ Pv (i + 1) σ3 (upd H5 D (.lst (ys ++ [y]))) else Pv (i + 1) σ3 H4) (stop : ∀ σ H, Pv xs.length σ H → R H) : CompG (Itt K a) g tc te R D σ H :=
  comp_by xs.length Pv h0 (fun i σ H hi p => ⟨⟨xs, xs[i], hl i σ H p, by simp [hi]⟩, fun x H' ⟨e1, e2⟩ => by subst e1; exact go i x σ _ (e2 xs (hl i σ _ p)) p⟩) fun σ H p => ⟨⟨xs, hl _ σ H p, Nat.le_refl _⟩, stop σ H p⟩
end

section
variable {X : Cx} {pos : Pos} {tg : Expr} {es : List Expr} {e o l : Expr} {ta te tl : TE} {t : TA} {K : PySem.W.Frag}
theorem pi_listK (K : PySem.W.Frag) (hl : PE X l tl) (h : X.K = K := by rfl) : PI X tg l (iList K tl) := by subst h; exact pi_list hl
theorem pi_tupK (K : PySem.W.Frag) (hl : PE X l tl) (h : X.K = K := by rfl) : PI X tg l (iTup K tl) := by subst h; exact pi_tup hl
theorem pg_lstK {k : Nat} {gs : TGs} {n : Nat} (K : PySem.W.Frag) (hc : X.calm = true) (h : PGs X es gs) (hK : X.K = K := by rfl) (hn : (assignEach es X.env).length = n := by rfl) (hst : (assignEach es X.env).findIdx? (·.1) = none := by rfl) : PG X (.Tuple es k pos) (gLst K n gs) := by subst hK; exact pg_lst hc h hn hst
theorem op_in_seqK (K : PySem.W.Frag) (h : X.K = K := by rfl) : OpR X (compareOp .In) (rIn K false) := by subst h; exact op_in_seq
theorem op_notIn_seqK (K : PySem.W.Frag) (h : X.K = K := by rfl) : OpR X (compareOp .NotIn) (rIn K true) := by subst h; exact op_notIn_seq
theorem op_neLK (K : PySem.W.Frag) (hu : X.A.units < cLine) (h : X.K = K := by rfl) : OpR X (compareOp .NotEq) (rNeLs K) := by subst h; exact op_neL hu
theorem line_big : 1000000 < sizeLine := by decide
end

def TSame (H H' : Hp) : Prop := ∀ p xs, H p = some (.tup xs) → H' p = some (.tup xs)
theorem TSame.refl (H : Hp) : TSame H H := fun _ _ h => h
theorem TSame.trans {H H1 H2 : Hp} (a : TSame H H1) (b : TSame H1 H2) : TSame H H2 := fun p xs h => b p xs (a p xs h)
theorem Same.ts {H H' : Hp} (s : Same H H') : TSame H H' := fun p _ h => s p _ h
theorem TSame.new {H : Hp} {a : Addr} {o : HO} (h : H a = none) : TSame H (upd H a o) := (Same.upd h).ts
theorem TSame.lst {H : Hp} {a : Addr} {ys : List V} {o : HO} (h : H a = some (.lst ys)) : TSame H (upd H a o) := fun p xs e => by rw [upd_ne (ne_of e h (by intro z; cases z))]; exact e
end L2

set_option maxRecDepth 100000
set_option maxHeartbeats 4000000
namespace Ce
open PySem L2
def bit (x : Int) (t : Nat) : Bool := decide (x / 2 ^ t % 2 = 1)
def cnt (P : Nat → Bool) : Nat → Nat
  | 0 => 0
  | n + 1 => cnt P n + (if P n = true then 1 else 0)
def dP (ds : Nat → Option Int) (op k : Int) (w : Nat) : Bool := decide (ds w = some k) && bit op w
theorem way_ne {room r rooms : Int} (h0 : 0 ≤ room) (h1 : room < rooms) (r0 : 0 ≤ r) (r1 : r < rooms - 1) : (room + 1 + r) % rooms ≠ room := by
  by_cases h : room + 1 + r < rooms
  · rw [Int.emod_eq_of_lt (by omega) h]; omega
  · have e : (room + 1 + r) % rooms = room + 1 + r - rooms := by
      have := Int.add_emod_right (room + 1 + r - rooms) rooms
      rw [Int.sub_add_cancel] at this
      rw [this, Int.emod_eq_of_lt (by omega) (by omega)]
    omega
theorem mod_lo (x : Int) {n : Int} (h : 0 < n) : 0 ≤ x % n := Int.emod_nonneg _ (by omega)
theorem mod_hi (x : Int) {n : Int} (h : 0 < n) : x % n < n := Int.emod_lt_of_pos _ h
theorem mod_nat (x : Int) (n : Nat) (h : 0 < n) : ∃ j : Nat, j < n ∧ x % (n : Int) = (j : Int) := ⟨(x % n).toNat, by have := mod_lo x (n := n) (by omega); have := mod_hi x (n := n) (by omega); omega, by have := mod_lo x (n := n) (by omega); omega⟩

inductive Gt where
  | plain | door (k : Int) | need (k : Int) | bar (b : Int) | wade (h k : Int) | float (h : Int)
def Gt.vs : Gt → List V
  | .plain => [.str "plain"]
  | .door k => [.str "door", .int k]
  | .need k => [.str "need", .int k]
  | .bar b => [.str "bar", .int b]
  | .wade h k => [.str "wade", .int h, .int k]
  | .float h => [.str "float", .int h]
def Gt.ok : Gt → Prop
  | .plain => True
  | .door k => 0 ≤ k ∧ k < 12
  | .need k => 0 ≤ k ∧ k < 12
  | .bar b => 0 ≤ b ∧ b < 8
  | .wade h k => (0 ≤ h ∧ h < 10) ∧ 0 ≤ k ∧ k < 12
  | .float h => 0 ≤ h ∧ h < 10
def Gt.dk : Gt → Option Int
  | .door k => some k
  | _ => none
def Gt.word : Gt → Str
  | .plain => "plain"
  | .door _ => "door"
  | .need _ => "need"
  | .bar _ => "bar"
  | .wade _ _ => "wade"
  | .float _ => "float"
def Gt.ns : Gt → List Int
  | .plain => []
  | .door k => [k]
  | .need k => [k]
  | .bar b => [b]
  | .wade h k => [h, k]
  | .float h => [h]
theorem Gt.vs_eq (g : Gt) : g.vs = .str g.word :: g.ns.map V.int := by cases g <;> rfl
theorem Gt.flat (g : Gt) : g.vs.all flatV = true := by cases g <;> rfl
theorem Gt.ns_len (g : Gt) : g.ns.length ≤ 2 := by cases g <;> simp [Gt.ns]
structure Way where
  a : Int
  b : Int
  g : Gt
  back : Bool
structure Cl where
  rooms : Int
  fst : Int
  lst : Int
  ways : List Way
  things : List (Int × Int)
  levers : List (Int × Int)
  wheels : List (Int × Int)
  bars : Int
  water : Int
structure ClOk (C : Cl) : Prop where
  r1 : 1 ≤ C.rooms
  r2 : C.rooms ≤ 14
  f : 0 ≤ C.fst ∧ C.fst < C.rooms
  l : 0 ≤ C.lst ∧ C.lst < C.rooms
  wl : C.ways.length ≤ 20
  tl : C.things.length ≤ 8
  ll : C.levers.length ≤ 4
  vl : C.wheels.length ≤ 4
  w : ∀ x ∈ C.ways, (0 ≤ x.a ∧ x.a < C.rooms) ∧ (0 ≤ x.b ∧ x.b < C.rooms) ∧ x.a ≠ x.b ∧ x.g.ok
  t : ∀ x ∈ C.things, (0 ≤ x.1 ∧ x.1 < C.rooms) ∧ 0 ≤ x.2 ∧ x.2 < 12
  lv : ∀ x ∈ C.levers, (0 ≤ x.1 ∧ x.1 < C.rooms) ∧ 1 ≤ x.2 ∧ x.2 ≤ 255
  wh : ∀ x ∈ C.wheels, (0 ≤ x.1 ∧ x.1 < C.rooms) ∧ 0 ≤ x.2 ∧ x.2 ≤ 9
  b : 0 ≤ C.bars ∧ C.bars ≤ 255
  wa : 0 ≤ C.water ∧ C.water ≤ 9
def PairAt (H : Hp) (p : Addr) (x : Int × Int) : Prop := H p = some (.tup [.int x.1, .int x.2])
def WayAt (H : Hp) (p : Addr) (x : Way) : Prop := ∃ g, H p = some (.tup [.int x.a, .int x.b, .ref g, .bl x.back]) ∧ H g = some (.tup x.g.vs)
def Rows {α : Type} (At : Hp → Addr → α → Prop) (H : Hp) (ps : List Addr) (xs : List α) : Prop := ps.length = xs.length ∧ ∀ (i : Nat) (p : Addr) (x : α), ps[i]? = some p → xs[i]? = some x → At H p x
def TupOf {α : Type} (At : Hp → Addr → α → Prop) (H : Hp) (q : Addr) (xs : List α) : Prop := ∃ ps, H q = some (.tup (ps.map V.ref)) ∧ Rows At H ps xs
def LstOf {α : Type} (At : Hp → Addr → α → Prop) (H : Hp) (q : Addr) (xs : List α) : Prop := ∃ ps, H q = some (.lst (ps.map V.ref)) ∧ Rows At H ps xs
section
variable {α : Type} {At : Hp → Addr → α → Prop} {H H' : Hp} {ps : List Addr} {xs : List α} {p q : Addr} {x : α}
theorem PairAt.mono (s : TSame H H') {p : Addr} {x : Int × Int} (h : PairAt H p x) : PairAt H' p x := s _ _ h
theorem WayAt.mono (s : TSame H H') {p : Addr} {x : Way} (h : WayAt H p x) : WayAt H' p x := let ⟨g, h1, h2⟩ := h; ⟨g, s _ _ h1, s _ _ h2⟩
theorem Rows.mono (m : ∀ p x, At H p x → At H' p x) (h : Rows At H ps xs) : Rows At H' ps xs := ⟨h.1, fun i p x h1 h2 => m p x (h.2 i p x h1 h2)⟩
theorem Rows.nil : Rows At H [] [] := ⟨rfl, fun i p x h _ => by simp at h⟩
theorem Rows.snoc (h : Rows At H ps xs) (hx : At H p x) : Rows At H (ps ++ [p]) (xs ++ [x]) := by
  refine ⟨by simp [h.1], fun i q y h1 h2 => ?_⟩
  by_cases hi : i < ps.length
  · rw [List.getElem?_append_left hi] at h1
    rw [List.getElem?_append_left (by rw [← h.1]; exact hi)] at h2
    exact h.2 i q y h1 h2
  · have e : i = ps.length := by
      have := (List.getElem?_eq_some_iff.mp h1).1
      simp at this
      omega
    subst e
    rw [List.getElem?_append_right (Nat.le_refl _)] at h1
    rw [List.getElem?_append_right (by rw [h.1]; exact Nat.le_refl _), ← h.1] at h2
    simp at h1 h2
    rw [← h1, ← h2]
    exact hx
theorem Rows.get (h : Rows At H ps xs) {i : Nat} (hi : i < xs.length) : ∃ p, (ps.map V.ref)[i]? = some (.ref p) ∧ At H p xs[i] := by
  have hp : i < ps.length := by rw [h.1]; exact hi
  exact ⟨ps[i], by simp [hp], h.2 i _ _ (by simp [hp]) (by simp [hi])⟩
theorem TupOf.mono (s : TSame H H') (m : ∀ p x, At H p x → At H' p x) (h : TupOf At H q xs) : TupOf At H' q xs := let ⟨ps, h1, h2⟩ := h; ⟨ps, s _ _ h1, h2.mono m⟩
theorem TupOf.get (h : TupOf At H q xs) : ∃ vs, H q = some (.tup vs) ∧ vs.length = xs.length ∧ ∀ i (hi : i < xs.length), ∃ p, vs[i]? = some (.ref p) ∧ At H p xs[i] := by
  obtain ⟨ps, h1, h2⟩ := h
  exact ⟨_, h1, by simp [h2.1], fun i hi => h2.get hi⟩
end
structure ClAt (H : Hp) (c : Addr) (C : Cl) : Prop where
  ex : ∃ w t l v, H c = some (.tup [.int C.rooms, .int C.fst, .int C.lst, .ref w, .ref t, .ref l, .ref v, .int C.bars, .int C.water]) ∧ TupOf WayAt H w C.ways ∧ TupOf PairAt H t C.things ∧ TupOf PairAt H l C.levers ∧ TupOf PairAt H v C.wheels
theorem ClAt.mono {H H' : Hp} (s : TSame H H') {c : Addr} {C : Cl} (h : ClAt H c C) : ClAt H' c C := by
  obtain ⟨w, t, l, v, h0, h1, h2, h3, h4⟩ := h.ex
  exact ⟨w, t, l, v, s _ _ h0, h1.mono s (fun _ _ => WayAt.mono s), h2.mono s (fun _ _ => PairAt.mono s), h3.mono s (fun _ _ => PairAt.mono s), h4.mono s (fun _ _ => PairAt.mono s)⟩
def WOk (r : Int) (x : Way) : Prop := (0 ≤ x.a ∧ x.a < r) ∧ (0 ≤ x.b ∧ x.b < r) ∧ x.a ≠ x.b ∧ x.g.ok
def POk (r lo hi : Int) (x : Int × Int) : Prop := (0 ≤ x.1 ∧ x.1 < r) ∧ lo ≤ x.2 ∧ x.2 ≤ hi
structure Apart (L l0 l1 l2 l3 : Addr) : Prop where
  L0 : L ≠ l0
  L1 : L ≠ l1
  L2 : L ≠ l2
  L3 : L ≠ l3
  e01 : l0 ≠ l1
  e02 : l0 ≠ l2
  e03 : l0 ≠ l3
  e12 : l1 ≠ l2
  e13 : l1 ≠ l3
  e23 : l2 ≠ l3
structure Grown {α : Type} (At : Hp → Addr → α → Prop) (ok : α → Prop) (most : Nat) (H : Hp) (l : Addr) : Prop where
  ex : ∃ xs : List α, LstOf At H l xs ∧ xs.length ≤ most ∧ ∀ x ∈ xs, ok x
section
variable {α : Type} {At : Hp → Addr → α → Prop} {ok : α → Prop} {most : Nat} {H H' : Hp} {l m : Addr}
theorem Grown.at (g : Grown At ok most H l) : ∃ xs, H l = some (.lst xs) ∧ xs.length ≤ most := by
  obtain ⟨xs, ⟨ps, h1, h2⟩, h3, _⟩ := g.ex
  exact ⟨_, h1, by rw [List.length_map, h2.1]; exact h3⟩
theorem Grown.none (h : H l = some (.lst [])) : Grown At ok most H l := ⟨[], ⟨[], h, Rows.nil⟩, Nat.zero_le _, fun _ h => by simp at h⟩
theorem Grown.stay (g : Grown At ok most H l) (mo : ∀ p x, At H p x → At H' p x) (e : H' l = H l) : Grown At ok most H' l := by
  obtain ⟨xs, ⟨ps, h1, h2⟩, h3, h4⟩ := g.ex
  exact ⟨xs, ⟨ps, by rw [e]; exact h1, h2.mono mo⟩, h3, h4⟩
theorem Grown.same (g : Grown At ok most H l) (mo : ∀ p x, At H p x → At H' p x) (s : Same H H') : Grown At ok most H' l := by
  obtain ⟨xs, ⟨ps, h1, h2⟩, h3, h4⟩ := g.ex
  exact ⟨xs, ⟨ps, s _ _ h1, h2.mono mo⟩, h3, h4⟩
theorem Grown.app (g : Grown At ok most H l) {ys : List V} {p : Addr} {x : α} (mo : ∀ q x, At H q x → At (upd H l (.lst (ys ++ [.ref p]))) q x) (hy : H l = some (.lst ys)) (hl : ys.length < most) (hx : At H p x) (hok : ok x) : Grown At ok most (upd H l (.lst (ys ++ [.ref p]))) l := by
  obtain ⟨xs, ⟨ps, h1, h2⟩, h3, h4⟩ := g.ex
  rw [h1] at hy
  have e : ps.map V.ref = ys := by
    have := Option.some.inj hy
    injection this
  subst e
  refine ⟨xs ++ [x], ⟨ps ++ [p], by rw [upd_same, List.map_append]; rfl, (h2.mono mo).snoc (mo _ _ hx)⟩, ?_, fun z hz => ?_⟩
  · rw [List.length_append, ← h2.1]
    rw [List.length_map] at hl
    exact hl
  · rcases List.mem_append.mp hz with hz | hz
    · exact h4 z hz
    · rw [List.mem_singleton.mp hz]; exact hok
end
structure Four (H : Hp) (r : Int) (L l0 l1 l2 l3 : Addr) : Prop where
  hL : H L = some (.lst [.ref l0, .ref l1, .ref l2, .ref l3])
  g0 : Grown WayAt (WOk r) 20 H l0
  g1 : Grown PairAt (POk r 0 11) 8 H l1
  g2 : Grown PairAt (POk r 1 255) 4 H l2
  g3 : Grown PairAt (POk r 0 9) 4 H l3
section
variable {H H' : Hp} {r : Int} {L l0 l1 l2 l3 p : Addr} {ys : List V}
theorem Four.same (F : Four H r L l0 l1 l2 l3) (s : Same H H') : Four H' r L l0 l1 l2 l3 :=
  ⟨s _ _ F.hL, F.g0.same (fun _ _ => WayAt.mono s.ts) s, F.g1.same (fun _ _ => PairAt.mono s.ts) s, F.g2.same (fun _ _ => PairAt.mono s.ts) s, F.g3.same (fun _ _ => PairAt.mono s.ts) s⟩
theorem Four.way (A : Apart L l0 l1 l2 l3) (F : Four H r L l0 l1 l2 l3) (hy : H l0 = some (.lst ys)) (hl : ys.length < 20) {x : Way} (hx : WayAt H p x) (ok : WOk r x) : Four (upd H l0 (.lst (ys ++ [.ref p]))) r L l0 l1 l2 l3 := by
  have ts : TSame H (upd H l0 (.lst (ys ++ [.ref p]))) := TSame.lst hy
  exact ⟨by rw [upd_ne A.L0]; exact F.hL, F.g0.app (fun _ _ => WayAt.mono ts) hy hl hx ok, F.g1.stay (fun _ _ => PairAt.mono ts) (upd_ne A.e01.symm), F.g2.stay (fun _ _ => PairAt.mono ts) (upd_ne A.e02.symm), F.g3.stay (fun _ _ => PairAt.mono ts) (upd_ne A.e03.symm)⟩
theorem Four.thing (A : Apart L l0 l1 l2 l3) (F : Four H r L l0 l1 l2 l3) (hy : H l1 = some (.lst ys)) (hl : ys.length < 8) {x : Int × Int} (hx : PairAt H p x) (ok : POk r 0 11 x) : Four (upd H l1 (.lst (ys ++ [.ref p]))) r L l0 l1 l2 l3 := by
  have ts : TSame H (upd H l1 (.lst (ys ++ [.ref p]))) := TSame.lst hy
  exact ⟨by rw [upd_ne A.L1]; exact F.hL, F.g0.stay (fun _ _ => WayAt.mono ts) (upd_ne A.e01), F.g1.app (fun _ _ => PairAt.mono ts) hy hl hx ok, F.g2.stay (fun _ _ => PairAt.mono ts) (upd_ne A.e12.symm), F.g3.stay (fun _ _ => PairAt.mono ts) (upd_ne A.e13.symm)⟩
theorem Four.lever (A : Apart L l0 l1 l2 l3) (F : Four H r L l0 l1 l2 l3) (hy : H l2 = some (.lst ys)) (hl : ys.length < 4) {x : Int × Int} (hx : PairAt H p x) (ok : POk r 1 255 x) : Four (upd H l2 (.lst (ys ++ [.ref p]))) r L l0 l1 l2 l3 := by
  have ts : TSame H (upd H l2 (.lst (ys ++ [.ref p]))) := TSame.lst hy
  exact ⟨by rw [upd_ne A.L2]; exact F.hL, F.g0.stay (fun _ _ => WayAt.mono ts) (upd_ne A.e02), F.g1.stay (fun _ _ => PairAt.mono ts) (upd_ne A.e12), F.g2.app (fun _ _ => PairAt.mono ts) hy hl hx ok, F.g3.stay (fun _ _ => PairAt.mono ts) (upd_ne A.e23.symm)⟩
theorem Four.wheel (A : Apart L l0 l1 l2 l3) (F : Four H r L l0 l1 l2 l3) (hy : H l3 = some (.lst ys)) (hl : ys.length < 4) {x : Int × Int} (hx : PairAt H p x) (ok : POk r 0 9 x) : Four (upd H l3 (.lst (ys ++ [.ref p]))) r L l0 l1 l2 l3 := by
  have ts : TSame H (upd H l3 (.lst (ys ++ [.ref p]))) := TSame.lst hy
  exact ⟨by rw [upd_ne A.L3]; exact F.hL, F.g0.stay (fun _ _ => WayAt.mono ts) (upd_ne A.e03), F.g1.stay (fun _ _ => PairAt.mono ts) (upd_ne A.e13), F.g2.stay (fun _ _ => PairAt.mono ts) (upd_ne A.e23), F.g3.app (fun _ _ => PairAt.mono ts) hy hl hx ok⟩
end
def tP (C : Cl) (tk k : Int) (t : Nat) : Bool := decide ((C.things.getD t (0, 0)).2 = k) && bit tk t
def dsOf (C : Cl) (w : Nat) : Option Int := (C.ways[w]?).bind fun x => x.g.dk
def hold (C : Cl) (tk op k : Int) : Int := (cnt (tP C tk k) C.things.length : Int) - (cnt (dP (dsOf C) op k) C.ways.length : Int)
def cl (f : Int → Int) : List V := (List.range 12).map fun k : Nat => V.int (f k)
structure StOk (C : Cl) (rm tk op b wt : Int) : Prop where
  hrm : 0 ≤ rm ∧ rm < C.rooms
  htk : 0 ≤ tk ∧ tk < 2 ^ C.things.length
  hop : 0 ≤ op ∧ op < 2 ^ C.ways.length
  dr : ∀ i, i < C.ways.length → bit op i = true → (dsOf C i).isSome = true
  hb : 0 ≤ b ∧ b ≤ 255
  hwt : 0 ≤ wt ∧ wt ≤ 9
  held : ∀ k, 0 ≤ k → k < 12 → 0 ≤ hold C tk op k
end Ce

set_option maxRecDepth 100000
set_option maxHeartbeats 4000000
namespace L2
open PySem PySem.Spec PyProof.Rows
section
variable {X : Cx}
end
section
variable {H : Hp} {Q : VK} {K : PySem.W.Frag} {σ : St}
theorem r_chain {r r' : R2} {ta tb tc : TE} (q : ta σ H fun x H1 => tb σ H1 fun y H2 => r x y H2 fun z H3 => ∃ k, z = .bl k ∧ (if k = true then tc σ H3 fun w' H4 => r' y w' H4 Q else Q (.bl false) H3)) : tChain r r' ta tb tc σ H Q := q
theorem r_popAt {l : Addr} {xs : List V} {i : Int} {k : Nat} {y : V} (h : H l = some (.lst xs)) (h1 : -(2 ^ 63) ≤ i ∧ i < 2 ^ 63) (e : seqIndex? i xs.length = some k) (hy : xs[k]? = some y) (q : Q y (upd H l (.lst (xs.eraseIdx k)))) : rPopAt (.ref l) [.int i] H Q := ⟨l, xs, i, k, y, rfl, rfl, h, h1.1, h1.2, e, hy, q⟩
end
end L2

set_option maxRecDepth 100000
set_option maxHeartbeats 4000000
namespace Ce
open PySem L2
end Ce

set_option maxRecDepth 100000
set_option maxHeartbeats 4000000
namespace L2
open PySem PySem.Spec PyProof.Rows
structure LaidM (K : PySem.W.Frag) (C : Addr) (m qual : Str) (st : Stmt) (ps : List Str) : Prop where
  ex : ∃ f fd, Fun K m qual st f fd ∧ Meth K C m f ∧ Binds K fd ps []
structure LaidI (K : PySem.W.Frag) (mg : Str → Option Value) (x : Str) (C : Addr) (qual : Str) (st : Stmt) (ps : List Str) : Prop where
  ex : ∃ f fd, Fun K "__init__" qual st f fd ∧ Mk K C f ∧ Binds K fd ps []
  at_ : mg x = some (.ref C)
structure LaidC (K : PySem.W.Frag) (mg : Str → Option Value) (x m qual : Str) (st : Stmt) (ps : List Str) : Prop where
  ex : ∃ C f fd, mg x = some (.ref C) ∧ Fun K m qual st f fd ∧ CMeth K C m f ∧ Binds K fd ps []
structure Tyc (K : PySem.W.Frag) (C : Addr) : Prop where
  ha : PySem.W.findIn K (.ref C) "__class__" = some (some (.builtin "object.__class__"))
  hn : PySem.W.specialIn K (.builtin "object.__class__") "__get__" = some (some (.builtin "getset_descriptor.__get__"))
  htk : PySem.W.takesIn K (.builtin "object.__class__") = some true
  hm : PySem.W.mroIn K C (.type "object") = some true
section
variable {P : Program} {w : World} {K : PySem.W.Frag} {mg : Str → Option Value} {base : Heap}
theorem LaidI.makes {x : Str} {C : Addr} {qual : Str} {st : Stmt} {N ps : List Str} {k : Nat} {sp : Sp} (L : LaidI K mg x C qual st ps) (S : FnScope N ps (defScope st)) (len : ∀ vs H Q E, sp vs H Q E → vs.length = ps.length)
    (hbody : ∀ (f : Addr) (cdv : Value) (A : Around) (outer : List Env) (s : Shared) (H : Hp) (vs : List V) (Q : VK) (E : XK), Room k (A.deeper (envOfC qual (defScope st) s.heap.objs.size f cdv)) → sp vs H Q E →
      ∃ t, PSs (cxOf CX0 P w K mg base N qual (defScope st) f cdv A outer s H E).nox (defBody st) t ∧ t { nx := fun _ H' => Q .non H', rt := Q } (start N vs) H) : Makes P w K mg base (k + 1) x C ps sp := by
  obtain ⟨f, fd, F, M, b⟩ := L.ex
  exact ⟨⟨f, fd, M, F.ok S len (fun cdv A outer s H vs Q E hr h => hbody f cdv A outer s H vs Q E hr h), b⟩, L.at_⟩
end
def rFld (K : PySem.W.Frag) (f : Str) (x : V) (H : Hp) (Q : VK) : Prop := ∃ a C dx fs v, x = .ref a ∧ H a = some (.ins C dx fs) ∧ Cls K C ∧ NoAttr K C f ∧ fs.lookup f = some v ∧ Q v H
def rSetF (K : PySem.W.Frag) (f : Str) (x y : V) (H : Hp) (R : Hp → Prop) : Prop := ∃ a C dx fs, x = .ref a ∧ H a = some (.ins C dx fs) ∧ Cls K C ∧ NoAttr K C f ∧ fs.length < 1000 ∧ R (upd H a (.ins C dx (putF f y fs)))
def rVM (P : Program) (w : World) (K : PySem.W.Frag) (mg : Str → Option Value) (base : Heap) (k : Nat) (m : Str) (σ : St) (t : TA) (x : V) (H : Hp) (Q : VK) : Prop := ∃ a C dx fs ps sp, x = .ref a ∧ H a = some (.ins C dx fs) ∧ VMeth P w K mg base k C m ps sp ∧ fs.lookup m = none ∧ t σ H fun vs H2 => sp (x :: vs) H2 Q E0
section
variable {σ : St} {H : Hp} {Q : VK} {K : PySem.W.Frag} {ta tv : TE} {t : TA} {f m : Str} {nx bk ct : St → Hp → Prop} {rt : VK} {P : Program} {w : World} {mg : Str → Option Value} {base : Heap} {k : Nat}
theorem r_fld0 (q : ta σ H fun x H1 => rFld K f x H1 Q) : tFld K ta f σ H Q := q
theorem r_setf0 (q : tv σ H fun y H1 => ta σ H1 fun x H2 => rSetF K f x y H2 fun H3 => nx σ H3) : sFld K ta tv f ⟨nx, rt, bk, ct⟩ σ H := q
theorem r_vm0 (q : ta σ H fun x H1 => rVM P w K mg base k m σ t x H1 Q) : tVM P w K mg base k m ta t σ H Q := q
theorem r_make {C : Addr} {sp : Sp} {E : XK} (q : t σ H fun vs H1 => ∀ x dx, H1 x = none → H1 dx = none → dx ≠ x → sp (.ref x :: (vs ++ [])) (upd (upd H1 dx (.own x)) x (.ins C dx [])) (fun v H2 => v = .non ∧ Q (.ref x) H2) E) : tMake C sp [] E t σ H Q := q
end
section
variable {X : Cx}
end
theorem Same.ins {H H' : Hp} (s : Same H H') {a C dx : Addr} {fs : List (Str × V)} (h : H a = some (.ins C dx fs)) : H' a = some (.ins C dx fs) := s _ _ h
end L2

set_option maxRecDepth 100000
set_option maxHeartbeats 4000000
namespace L2
open PySem PySem.Spec PyProof.Rows
inductive Deq (K : PySem.W.Frag) (H : Hp) : Nat → V → V → Bool → Prop where
  | flat {n : Nat} {x y : V} (fx : flatV x = true) (fy : flatV y = true) : Deq K H n x y (eqV x y)
  | same {n : Nat} (a : Addr) : Deq K H n (.ref a) (.ref a) true
  | tup {n : Nat} {a b : Addr} {xs ys : List V} {e : Nat → Bool} (hne : a ≠ b) (ha : SqT K H a xs) (hb : SqT K H b ys) (h : ∀ j, j < xs.length → j < ys.length → Deq K H n (xs.getD j .non) (ys.getD j .non) (e j)) :
      Deq K H (n + 1) (.ref a) (.ref b) ((List.range (min xs.length ys.length)).all e && xs.length == ys.length)
  | lst {n : Nat} {a b : Addr} {xs ys : List V} {e : Nat → Bool} (hne : a ≠ b) (ha : SqL K H a xs) (hb : SqL K H b ys) (hl : xs.length = ys.length) (h : ∀ j, j < xs.length → j < ys.length → Deq K H n (xs.getD j .non) (ys.getD j .non) (e j)) :
      Deq K H (n + 1) (.ref a) (.ref b) ((List.range xs.length).all e)
  | lstn {n : Nat} {a b : Addr} {xs ys : List V} (hne : a ≠ b) (ha : SqL K H a xs) (hb : SqL K H b ys) (hl : xs.length ≠ ys.length) : Deq K H (n + 1) (.ref a) (.ref b) false
section
variable {X : Cx} {pins : List (Addr × Obj)} {σ : St} {H : Hp} {s : Shared}
end
section
variable {X : Cx}
end
section
variable {H : Hp} {Q : VK} {K : PySem.W.Frag} {n : Nat} {p q : Addr} {xs ys : List V}
theorem Deq.self {x : V} (h : flatV x = true ∨ ∃ a, x = .ref a) : Deq K H n x x true := by
  rcases h with h | ⟨a, rfl⟩
  · have := Deq.flat (K := K) (H := H) (n := n) h h
    rw [eqV_refl h] at this
    exact this
  · exact .same a
end
def tFs (ta tb : TE) : TE := fun σ H Q => ta σ H fun x H1 => ∃ z1 : Str, x = .str z1 ∧ z1.length ≤ sizeLine ∧ tb σ H1 fun y H2 => ∃ z2 : Str, y = .str z2 ∧ z1.length + z2.length ≤ sizeLine ∧ ∀ z : Str, z.length = z1.length + z2.length → Q (.str z) H2
def tFv (te : TE) : TE := fun σ H Q => te σ H fun x H1 => ∃ z : Str, x = .str z ∧ z.length ≤ sizeLine ∧ Q (.str z) H1
section
variable {X : Cx} {a b e : Expr} {ta tb te : TE} {pos : Pos}
theorem len_app (x y : Str) : (x ++ y).length = x.length + y.length := strLen_append x y
end
section
variable {σ : St} {H : Hp} {Q : VK} {ta tb te : TE}
theorem r_fv (q : te σ H fun x H1 => ∃ z : Str, x = .str z ∧ z.length ≤ sizeLine ∧ Q (.str z) H1) : tFv te σ H Q := q
theorem r_fs (q : ta σ H fun x H1 => ∃ z1 : Str, x = .str z1 ∧ z1.length ≤ sizeLine ∧ tb σ H1 fun y H2 => ∃ z2 : Str, y = .str z2 ∧ z1.length + z2.length ≤ sizeLine ∧ ∀ z : Str, z.length = z1.length + z2.length → Q (.str z) H2) : tFs ta tb σ H Q := q
end
end L2

set_option maxRecDepth 100000
set_option maxHeartbeats 4000000
namespace L2
open PySem PySem.Spec PyProof.Rows
structure FunD (K : PySem.W.Frag) (x : Str) (st : Stmt) (ds : List Value) (f : Addr) (fd : FuncData) : Prop where
  ex : ∃ (T : Addr) (o : Obj) (n : Nat) (oc : Value) (od : Option Addr) (kV doc pm : Value) (an : Option Addr) (cdv ct : Value) (osl : Array (Option Value)),
    fd = PySem.W.fnOf x x (defArgs st) (defBody st) (defScope st) (.ref T) kV doc pm an cdv ct ∧ K.lookup f = some ⟨oc, od, .func fd, osl⟩ ∧ PySem.W.codeIn K cdv x = true ∧ K.lookup T = some o ∧ o.data = .seq ds.toArray n
  kp : PySem.W.keepIn K (.ref f) = true
structure LaidD (K : PySem.W.Frag) (mg : Str → Option Value) (x : Str) (st : Stmt) (ds : List Value) : Prop where
  ex : ∃ f fd, FunD K x st ds f fd ∧ mg x = some (.ref f)
structure CalD (P : Program) (w : World) (K : PySem.W.Frag) (mg : Str → Option Value) (base : Heap) (k : Nat) (x : Str) (ps : List Str) (sp : Sp) (st : Stmt) (ds : List Value) : Prop where
  ex : ∃ f fd, FnOk P w K mg base CX0 k f fd ps sp ∧ mg x = some (.ref f) ∧ FunD K x st ds f fd
def BnD (x : Str) (st : Stmt) (ds : List Value) (args : Args) (binds : List (Str × Value)) : Prop :=
  ∀ (T : Addr) (kV doc pm : Value) (an : Option Addr) (cdv ct : Value), ∃ k, bindArgs (PySem.W.fnOf x x (defArgs st) (defBody st) (defScope st) (.ref T) kV doc pm an cdv ct) args = seqItems? (.ref T) >>= k ∧ k (some ds.toArray) = pure binds
section
variable {P : Program} {w : World} {K : PySem.W.Frag} {mg : Str → Option Value} {base : Heap} {x : Str} {st : Stmt} {ds : List Value}
theorem FunD.bind {f : Addr} {fd : FuncData} {args : Args} {binds : List (Str × Value)} {s : Shared} (F : FunD K x st ds f fd) (X : K.In s.heap) (h : BnD x st ds args binds) : BindsTo s fd args binds := by
  obtain ⟨T, o, n, oc, od, kV, doc, pm, an, cdv, ct, osl, rfl, lk, hcd, ho, hs⟩ := F.ex
  obtain ⟨k, h1, h2⟩ := h T kV doc pm an cdv ct
  exact PySem.W.binds_K X rfl ho hs h1 h2
theorem LaidD.cal {N ps : List Str} {k : Nat} {sp : Sp} (L : LaidD K mg x st ds) (S : FnScope N ps (defScope st)) (len : ∀ vs H Q E, sp vs H Q E → vs.length = ps.length)
    (hbody : ∀ (f : Addr) (cdv : Value) (A : Around) (outer : List Env) (s : Shared) (H : Hp) (vs : List V) (Q : VK) (E : XK), Room k (A.deeper (envOfC x (defScope st) s.heap.objs.size f cdv)) → sp vs H Q E →
      ∃ t, PSs (cxOf CX0 P w K mg base N x (defScope st) f cdv A outer s H E).nox (defBody st) t ∧ t { nx := fun _ H' => Q .non H', rt := Q } (start N vs) H) : CalD P w K mg base (k + 1) x ps sp st ds := by
  obtain ⟨f, fd, F, m⟩ := L.ex
  refine ⟨f, fd, ?_, m, F⟩
  obtain ⟨T, o, n, oc, od, kV, doc, pm, an, cdv, ct, osl, rfl, lk, hcd, ho, hs⟩ := F.ex
  refine fn_of lk hcd S len fun A outer s H vs Q E hr hsp => ?_
  obtain ⟨t, h, q⟩ := hbody f cdv A outer s H vs Q E hr hsp
  exact ⟨t, h.nox, q⟩
end
section
variable {X : Cx} {k k' : Nat} {x : Str} {ps ks : List Str} {sp : Sp} {p pos : Pos} {e : Expr} {es : List Expr} {kws : List Keyword} {t tk : TA} {st : Stmt} {ds ds' : List Value} {dvs : List V}
theorem r_callD {sp : Sp} {E : XK} {σ : St} {H : Hp} {Q : VK} (q : t σ H fun vs H1 => sp (vs ++ dvs) H1 Q E) : tCall sp dvs E t σ H Q := q
theorem r_callK {sp : Sp} {E : XK} {σ : St} {H : Hp} {Q : VK} {gV : List V → List V → List V} (q : t σ H fun vs H1 => tk σ H1 fun zs H2 => sp (gV vs zs) H2 Q E) : tCallK sp gV E t tk σ H Q := q
theorem r_bm0 {K : PySem.W.Frag} {T : String} {r : V → List V → Hp → VK → Prop} {to : TE} {σ : St} {H : Hp} {Q : VK} (q : to σ H fun x H1 => tyV K T x H1 ∧ r x [] H1 Q) : tBM0 K T r to σ H Q := q
end
end L2

set_option maxRecDepth 100000
set_option maxHeartbeats 4000000
namespace HT
open PySem PyProof.Rows
section
variable {prog : Program} {w : World} {A : Around} {E : Value → Shared → Prop} {s : Shared}
theorem cat_tup0 {t b : Addr} {vs ws : List Value} {Q : Value → Shared → Prop} (ht : IsTup s.heap t vs.toArray) (hb : IsTup s.heap b ws.toArray) (hv : vs = []) (h : Q (.ref b) s) : wpAny (model prog w) A (binaryOp .Add (.ref t) (.ref b)) Q E s := by
  obtain ⟨⟨cls, dd, data, sl⟩, ho, hc, n, hd⟩ := id ht
  obtain ⟨⟨cls2, dd2, data2, sl2⟩, ho2, hc2, n2, hd2⟩ := id hb
  simp only at hc hd hc2 hd2
  subst hc hd hc2 hd2
  exact concat_meets ⟨_, ho, rfl⟩ ⟨_, ho2, rfl⟩ noFill_tuple_add seq_tuple_add PySem.F.slot_tuple_add PySem.F.entry_tuple_add (PySem.F.args_tuple_add_2 _ _)
      (tuple_addW0 t b vs.toArray ws.toArray n n2 dd dd2 sl sl2 (by simp [hv])) ⟨ho, ho2, h⟩
end
end HT
namespace L2
open PySem PySem.Spec PyProof.Rows
def rCatTA (K : PySem.W.Frag) : R2 := fun x y H Q => ∃ a b xs ys, x = .ref a ∧ y = .ref b ∧ SqT K H a xs ∧ SqT K H b ys ∧ xs.length + ys.length ≤ sizeLine ∧
  (xs = [] → Q (.ref b) H) ∧ (xs ≠ [] → ys = [] → Q (.ref a) H) ∧ (xs ≠ [] → ys ≠ [] → ∀ p, H p = none → Q (.ref p) (upd H p (.tup (xs ++ ys))))
section
variable {X : Cx}
theorem op_catTA (K : PySem.W.Frag) (hK : X.K = K := by rfl) : OpR X (binaryOp .Add) (rCatTA K) := by
  subst hK
  intro pins s σ H x y v u Q I rx ry h
  obtain ⟨a, b, xs, ys, e1, e2, ha, hb, hz, q0, q1, q2⟩ := h
  by_cases hx : xs = []
  · subst e1 e2
    cases rx
    cases ry
    obtain ⟨its, r1, p1, _⟩ := I.tuple ha
    obtain ⟨its2, r2, p2, _⟩ := I.tuple hb
    exact HT.cat_tup0 p1 p2 (r1.nil_iff.mpr hx) ⟨.ref b, H, I, rfl, q0 hx⟩
  · exact op_catT pins s σ H x y v u Q I rx ry ⟨a, b, xs, ys, e1, e2, ha, hb, hx, hz, q1 hx, q2 hx⟩
end
section
variable {H : Hp} {Q : VK} {K : PySem.W.Frag}
end
theorem int_len {i : Int} (h : i.natAbs.log2 < 1920) : (Str.ofString (toString i)).length ≤ 1921 := int_text_len_1921 h
end L2

set_option maxRecDepth 100000
set_option maxHeartbeats 4000000
namespace Ce
open PySem L2
def letsG (g : Gt) (f : Int → Int) (op : Bool) (bars wt : Int) : Bool := match g with
  | .plain => true
  | .door _ => op
  | .need k => decide (0 < f k)
  | .bar b => bit bars b.toNat
  | .wade h k => decide (wt ≤ h) || decide (0 < f k)
  | .float h => decide (h ≤ wt)
inductive Wd where
  | go | pull | take | turn | unlock
  deriving DecidableEq
def Wd.str : Wd → Str
  | .go => "go"
  | .pull => "pull"
  | .take => "take"
  | .turn => "turn"
  | .unlock => "unlock"
def Wd.part : Wd → Int
  | .go => 3
  | .pull => 5
  | .take => 4
  | .turn => 6
  | .unlock => 3
structure Sd where
  rm : Int
  tk : Int
  op : Int
  b : Int
  wt : Int
def Sd.vs (s : Sd) : List V := [.int s.rm, .int s.tk, .int s.op, .int s.b, .int s.wt]
def Sd.ok (C : Cl) (s : Sd) : Prop := StOk C s.rm s.tk s.op s.b s.wt
def enterB (x : Way) (rm : Int) : Bool := decide (rm = x.a) || (decide (rm = x.b) && x.back)
def canB (C : Cl) (s : Sd) (i : Nat) : Wd → Bool
  | .go => match C.ways[i]? with
    | some x => enterB x s.rm && letsG x.g (hold C s.tk s.op) (bit s.op i) s.b s.wt
    | none => false
  | .pull => match C.levers[i]? with
    | some x => decide (s.rm = x.1)
    | none => false
  | .take => match C.things[i]? with
    | some x => decide (s.rm = x.1) && !bit s.tk i
    | none => false
  | .turn => match C.wheels[i]? with
    | some x => decide (s.rm = x.1) && !decide (s.wt = x.2)
    | none => false
  | .unlock => match C.ways[i]? with
    | some x => match x.g.dk with
      | some k => (enterB x s.rm && !bit s.op i) && decide (0 < hold C s.tk s.op k)
      | none => false
    | none => false
def doneB (C : Cl) (s : Sd) (i : Nat) : Wd → Sd
  | .go => match C.ways[i]? with
    | some x => { s with rm := if s.rm = x.a then x.b else x.a }
    | none => s
  | .pull => match C.levers[i]? with
    | some x => { s with b := Builtin.bitXor s.b x.2 }
    | none => s
  | .take => { s with tk := s.tk + 2 ^ i }
  | .turn => match C.wheels[i]? with
    | some x => { s with wt := x.2 }
    | none => s
  | .unlock => { s with op := s.op + 2 ^ i }
def Cl.num (C : Cl) : Wd → Nat
  | .go => C.ways.length
  | .pull => C.levers.length
  | .take => C.things.length
  | .turn => C.wheels.length
  | .unlock => C.ways.length
def canD (C : Cl) (s : Sd) (d : Wd) (n : Int) : Bool := !decide (s.rm = C.lst) && (decide (0 ≤ n) && canB C s n.toNat d)
def doneD (C : Cl) (s : Sd) (d : Wd) (n : Int) : Sd := doneB C s n.toNat d
theorem canB_lt {C : Cl} {s : Sd} {i : Nat} {d : Wd} (h : canB C s i d = true) : i < C.num d := by
  cases d <;> simp only [canB] at h
  · cases e : C.ways[i]? with
    | none => rw [e] at h; simp at h
    | some x => exact (List.getElem?_eq_some_iff.mp e).1
  · cases e : C.levers[i]? with
    | none => rw [e] at h; simp at h
    | some x => exact (List.getElem?_eq_some_iff.mp e).1
  · cases e : C.things[i]? with
    | none => rw [e] at h; simp at h
    | some x => exact (List.getElem?_eq_some_iff.mp e).1
  · cases e : C.wheels[i]? with
    | none => rw [e] at h; simp at h
    | some x => exact (List.getElem?_eq_some_iff.mp e).1
  · cases e : C.ways[i]? with
    | none => rw [e] at h; simp at h
    | some x => exact (List.getElem?_eq_some_iff.mp e).1
theorem canD_of {C : Cl} {s : Sd} {d : Wd} {n : Int} (h : canD C s d n = true) : ¬ s.rm = C.lst ∧ ∃ i : Nat, n = (i : Int) ∧ i < C.num d ∧ canB C s i d = true := by
  unfold canD at h
  simp only [Bool.and_eq_true, Bool.not_eq_true', decide_eq_false_iff_not, decide_eq_true_eq] at h
  exact ⟨h.1, n.toNat, by omega, canB_lt h.2.2, h.2.2⟩
theorem go_of {C : Cl} {s : Sd} {i : Nat} (hc : canD C s .go (i : Int) = true) : ∃ x, C.ways[i]? = some x ∧ enterB x s.rm = true ∧ letsG x.g (hold C s.tk s.op) (bit s.op i) s.b s.wt = true ∧ ¬ s.rm = C.lst ∧ doneD C s .go (i : Int) = { s with rm := if s.rm = x.a then x.b else x.a } := by
  obtain ⟨hl, j, e, hi, hb⟩ := canD_of hc
  have e' : i = j := by omega
  subst e'
  have hi' : i < C.ways.length := hi
  have hx : C.ways[i]? = some C.ways[i] := List.getElem?_eq_getElem hi'
  simp only [canB, hx, Bool.and_eq_true] at hb
  exact ⟨C.ways[i], hx, hb.1, hb.2, hl, by unfold doneD; rw [Int.toNat_natCast]; simp [doneB, hi']⟩
structure Walk (C : Cl) (s0 : Sd) (row : List (Wd × Nat)) (sts : List Sd) : Prop where
  len : sts.length = row.length + 1
  fst : sts[0]? = some s0
  go : ∀ i x, row[i]? = some x → ∃ a, sts[i]? = some a ∧ a.ok C ∧ canD C a x.1 (x.2 : Int) = true ∧ sts[i + 1]? = some (doneD C a x.1 (x.2 : Int))
theorem Walk.nil {C : Cl} {s0 : Sd} : Walk C s0 [] [s0] := ⟨rfl, rfl, fun i x h => by simp at h⟩
theorem Walk.snoc {C : Cl} {s0 : Sd} {row : List (Wd × Nat)} {sts : List Sd} (W : Walk C s0 row sts) {cur : Sd} {x : Wd × Nat} (hl : sts[row.length]? = some cur) (ok : cur.ok C) (hc : canD C cur x.1 (x.2 : Int) = true) : Walk C s0 (row ++ [x]) (sts ++ [doneD C cur x.1 (x.2 : Int)]) := by
  refine ⟨by simp [W.len], ?_, fun i y h => ?_⟩
  · rw [List.getElem?_append_left (by rw [W.len]; omega)]; exact W.fst
  · by_cases hi : i < row.length
    · rw [List.getElem?_append_left hi] at h
      obtain ⟨a, h1, h2, h3, h4⟩ := W.go i y h
      refine ⟨a, ?_, h2, h3, ?_⟩
      · rw [List.getElem?_append_left (by rw [W.len]; omega)]; exact h1
      · rw [List.getElem?_append_left (by rw [W.len]; omega)]; exact h4
    · have e : i = row.length := by
        have := (List.getElem?_eq_some_iff.mp h).1
        simp at this
        omega
      subst e
      rw [List.getElem?_append_right (Nat.le_refl _)] at h
      simp at h
      subst h
      refine ⟨cur, ?_, ok, hc, ?_⟩
      · rw [List.getElem?_append_left (by rw [W.len]; omega)]; exact hl
      · rw [List.getElem?_append_right (by rw [W.len]; omega), W.len]
        simp
end Ce

set_option maxRecDepth 100000
set_option maxHeartbeats 4000000
namespace L2
open PySem PySem.Spec PyProof.Rows
section
variable {X : Cx} {o e : Expr} {es : List Expr} {m : Str} {apos pos : Pos} {k k' : Nat} {ta : TE} {t : TA}
end
end L2

set_option maxRecDepth 100000
set_option maxHeartbeats 4000000
namespace L2
open PySem PySem.Spec PyProof.Rows
section
variable {P : Program} {w : World} {H : Hp} {h : Heap} {a : Addr} {o : HO}
theorem ObjOk.there (x : ObjOk P w H h a o) : ∃ u, h.get? a = some u := by
  cases o with
  | lst xs => obtain ⟨_, _, _, _, e⟩ := x; exact ⟨_, e⟩
  | tup xs => obtain ⟨_, _, _, o, e, _⟩ := x; exact ⟨_, e⟩
  | dK kvs => obtain ⟨_, _, _, _, o, _, _, e, _⟩ := x; exact ⟨_, e⟩
  | dT kvs => obtain ⟨_, _, _, _, o, _, _, e, _⟩ := x; exact ⟨_, e⟩
  | set S n => obtain ⟨o, _, _, _, e, _⟩ := x; exact ⟨_, e⟩
  | ins C dx fs => obtain ⟨_, _, _, e, _⟩ := x; exact ⟨_, e⟩
  | own y => obtain ⟨_, e⟩ := x; exact ⟨_, e⟩
  | xd fs => obtain ⟨_, ⟨_, _, _, e, _⟩, _⟩ := x; exact ⟨_, e⟩
  | rng lo hi => obtain ⟨_, _, _, e⟩ := x; exact ⟨_, e⟩
  | frz ob u => obtain ⟨e, _⟩ := x; exact ⟨_, e⟩
  | tbl ps => exact ⟨_, x⟩
  | met f y => exact ⟨_, x⟩
  | ext φ => obtain ⟨_, ⟨_, e⟩, _⟩ := x; exact ⟨_, e⟩
theorem HOk.none_of (x : HOk P w H h) (e : h.get? a = none) : H a = none := by
  cases q : H a with
  | none => rfl
  | some o => obtain ⟨u, eu⟩ := (x a o q).there; rw [e] at eu; cases eu
end
section
variable {X : Cx} {pins : List (Addr × Obj)} {σ : St} {H : Hp} {s : Shared}
theorem Inv.frame_data (I : Inv X pins σ H s) {b : Addr} (hb : b ∈ frs X.stack) : ∃ o, s.heap.get? b = some o ∧ ∀ vs, o.data ≠ .fields vs := (I.stack.mem hb).2
theorem Inv.noted {h5 : Heap} {as : List Addr} (I : Inv X pins σ H s) (up : s.heap.UpToSlots h5) (keep : ∀ b o, s.heap.get? b = some o → b ∉ as → b ∉ frs X.stack → h5.get? b = some o)
    (hf : ∀ b ∈ as, ∀ o, s.heap.get? b = some o → ∃ vs, o.data = .fields vs) (h0 : ∀ b ∈ as, X.s₀.heap.get? b = none) (hH : ∀ b ∈ as, H b = none) (hp : ∀ b ∈ as, ∀ p ∈ X.pn ++ pins, p.1 ≠ b) : Inv X pins σ H { s with heap := h5 } := by
  have n0 : ∀ b o, X.s₀.heap.get? b = some o → b ∉ as := fun b o e hb => by rw [h0 b hb] at e; cases e
  have nl : ∀ b o, X.s₀.heap.get? b = some o → b ∉ X.fs → b ∉ frs X.stack := fun b o e hb hs => by
    rcases List.mem_cons.mp (I.stkSub b hs) with z | z
    · rw [z] at e
      exact absurd (Heap.lt_size e) (Nat.not_lt.mpr I.ok.above)
    · exact hb z
  obtain ⟨m, hn, hl⟩ := id I.loc
  refine ⟨I.ok, I.os, I.bare, ⟨fun b o e n hb hx => ?_, fun b o e n hb hx => ?_, I.base.free, fun b o e hx => ?_, I.base.tups, I.base.frzs, I.base.tbls⟩, ⟨m, up.ns hn, fun i x v e1 e2 e3 => ?_⟩, fun x c e => ?_, I.free, I.freeC, fun p hpp => ?_, fun b ob e => ?_, I.len⟩
  · exact keep b o (I.base.keep b o e n hb hx) (n0 b o e) (nl b o e hb)
  · obtain ⟨sl, e1⟩ := I.base.slot b o e n hb hx
    have hbs : b ∈ frs X.stack := by
      rcases I.ok.stk with z | ⟨z, _⟩
      · rw [z]; exact hb
      · rw [z]
        obtain ⟨env', h1, h2⟩ := List.mem_filterMap.mp hb
        exact List.mem_filterMap.mpr ⟨env', List.mem_cons_of_mem _ h1, h2⟩
    obtain ⟨o2, e2, d2⟩ := I.frame_data hbs
    rw [e1] at e2
    cases e2
    obtain ⟨sl2, e3⟩ := up b _ e1 d2
    exact ⟨sl2, e3⟩
  · obtain ⟨o', e1⟩ := I.base.there b o e hx
    by_cases hb : b ∈ frs X.stack
    · obtain ⟨o2, e2, d2⟩ := I.frame_data hb
      obtain ⟨sl2, e3⟩ := up b _ e2 d2
      exact ⟨_, e3⟩
    · exact ⟨_, keep b _ e1 (n0 b o e) hb⟩
  · obtain ⟨u, r, l⟩ := hl i x v e1 e2 e3
    refine ⟨u, r, ?_⟩
    rcases l with l | ⟨k1, c, k2, oc, k3, k4⟩
    · exact .inl l
    · obtain ⟨sl, k5⟩ := up c oc k3 (by intro vs z; rw [k4] at z; cases z)
      exact .inr ⟨k1, c, k2, _, k5, k4⟩
  · obtain ⟨v, oc, k3, k4⟩ := I.cell x c e
    obtain ⟨sl, k5⟩ := up c oc k3 (by intro vs z; rw [k4] at z; cases z)
    exact ⟨v, _, k5, k4⟩
  · obtain ⟨e, n, ne, nf, d⟩ := I.pin p hpp
    refine ⟨keep _ _ e (fun hb => hp _ hb p hpp rfl) (fun hb => ?_), n, ne, nf, d⟩
    rcases List.mem_cons.mp (I.stkSub _ hb) with z | z
    · exact ne z
    · exact nf z
  · refine (I.hok b ob e).stay (fun c u hc q => keep c u q (fun hb => ?_) (fun hb => ?_)) (fun _ q => q) fun _ _ q => q
    · have := hH c hb
      rcases hc with rfl | hc
      · rw [this] at e; cases e
      · rw [this] at hc; cases hc
    · have := I.stkFree c hb
      rcases hc with rfl | hc
      · rw [this] at e; cases e
      · rw [this] at hc; cases hc
end
structure Fly (h0 : Heap) (a : Addr) (cls : Value) (H : Hp) (h : Heap) : Prop where
  ex : ∃ oe vs T oT ts a0, h.get? a = some oe ∧ (oe.cls = cls ∧ vs[0]? = some a0) ∧ oe.data = .fields vs ∧ vs[1]? = some (.ref T) ∧ T ≠ a ∧ h.get? T = some oT ∧ oT.data = .fields ts ∧ ts[3]? = some .none ∧ h0.get? T = none ∧ H T = none
  new : h0.get? a = none
  free : H a = none
def CXf (P : Program) (w : World) : CXT := fun outer H s E e s' => ∃ a cls H', e = .ref a ∧ s'.os = s.os ∧ AllBare s'.gens ∧ Un (frs outer) [] H H' s.heap s'.heap ∧ HOk P w H' s'.heap ∧ Fly s.heap a cls H' s'.heap ∧ E cls none H'
section
variable {X : Cx} {pins : List (Addr × Obj)} {σ : St} {H H' : Hp} {s s' : Shared} {E : XK}
theorem frs_in (l : List Env) : ∀ env ∈ l, ∀ a, env.frame = some a → a ∈ frs l := fun env he a ha => List.mem_filterMap.mpr ⟨env, he, ha⟩
theorem Inv.zero (I : Inv X pins σ H s) {b : Addr} (e : s.heap.get? b = none) (hx : X.ex = []) : X.s₀.heap.get? b = none := by
  cases q : X.s₀.heap.get? b with
  | none => rfl
  | some o => obtain ⟨o', e'⟩ := I.base.there b o q (by rw [hx]; simp); rw [e] at e'; cases e'
end
section
variable {P : Program} {w : World} {K : PySem.W.Frag} {mg : Str → Option Value} {base : Heap} {N : List Str} {qual : Str} {scope : Scope} {f : Addr} {cd : Value} {A : Around} {outer : List Env} {s0 : Shared} {H0 : Hp} {E : XK}
theorem raise_xe {pins : List (Addr × Obj)} {σ : St} {H : Hp} {s : Shared} {h' : Heap} {e : Addr} {cls : Value} {args : List Value} (I : Inv (cxOf (CXf P w) P w K mg base N qual scope f cd A outer s0 H0 E) pins σ H s)
    (hx : Heap.MadeExcOf s.heap h' e cls args) (hE : E cls none H) : (cxOf (CXf P w) P w K mg base N qual scope f cd A outer s0 H0 E).xe (.ref e) { s with heap := h' } := by
  have st : (PySem.W.hideAll s.heap (frs (envOfC qual scope s0.heap.objs.size f cd :: outer))).StaysIn s.heap := fun b o q => PySem.W.of_hideAll _ q
  show wpAny _ _ (leaving _ (.ref e)) _ _ _
  refine wpAny_leaves_madeW (base := PySem.W.hideAll s.heap (frs (envOfC qual scope s0.heap.objs.size f cd :: outer))) (h := s.heap) I.ok.frames rfl st (PySem.W.funFrames_hide I.stack (frs_in _)) hx fun h2 t fl tup ht up => ?_
  obtain ⟨f1, f2, f3, oe, vs, T, oT, ts, k1, k2, k3, k4, k5, k6, k7, k8, k9⟩ := fl
  have up2 : s.heap.UpToSlots h2 := fun b o q n => up b o (hx.keeps b o q) n
  have keep : ∀ b o, s.heap.get? b = some o → b ∉ ([] : List Addr) → b ∉ frs (envOfC qual scope s0.heap.objs.size f cd :: outer) → h2.get? b = some o := fun b o q _ hb => f1 b o (PySem.W.hideAll_get _ q hb)
  have J := I.noted (as := []) up2 keep (fun b hb => by simp at hb) (fun b hb => by simp at hb) (fun b hb => by simp at hb) (fun b hb => by simp at hb)
  have hT : s.heap.get? T = none := by
    cases q : s.heap.get? T with
    | none => rfl
    | some o =>
      by_cases hb : T ∈ frs (envOfC qual scope s0.heap.objs.size f cd :: outer)
      · obtain ⟨o2, e2, d2⟩ := I.frame_data hb
        obtain ⟨sl, e3⟩ := up2 T o2 e2 d2
        rw [k7] at e3
        cases e3
        exact absurd k8 (d2 ts)
      · have := PySem.W.hideAll_get _ q hb
        rw [k5] at this; cases this
  exact ⟨e, cls, H, rfl, J.os, J.bare, J.base, J.hok, ⟨⟨oe, vs, T, oT, ts, _, k1, k2, k3, k4, k6, k7, k8, k9, I.zero hT rfl, I.hok.none_of hT⟩, I.zero hx.new rfl, I.hok.none_of hx.new⟩, hE⟩
theorem pass_xe : Passes (CXf P w) (cxOf (CXf P w) P w K mg base N qual scope f cd A outer s0 H0 E) E := by
  intro pins σ H s e s' I h
  obtain ⟨a, cls, H', rfl, os, bare, un, hok, fly, hE⟩ := h
  have J : Inv (cxOf (CXf P w) P w K mg base N qual scope f cd A outer s0 H0 E) pins σ H' s' := I.call' os un hok bare fun b z => absurd z (by simp)
  obtain ⟨oe, vs, T, oT, ts, a0, k1, k2, k3, k4, k6, k7, k8, k9, hT0, hTH⟩ := fly.ex
  have st : (PySem.W.hideAll s'.heap (a :: T :: frs (envOfC qual scope s0.heap.objs.size f cd :: outer))).StaysIn s'.heap := fun b o q => PySem.W.of_hideAll _ q
  show wpAny _ _ (leaving _ (.ref a)) _ _ _
  refine wpAny_leaves_onW (base := PySem.W.hideAll s'.heap (a :: T :: frs (envOfC qual scope s0.heap.objs.size f cd :: outer))) I.ok.frames rfl (cls := cls) (a0 := a0)
    ⟨st, PySem.W.hideAll_none _ List.mem_cons_self, PySem.W.funFrames_hide J.stack (fun env he b hb => List.mem_cons_of_mem _ (List.mem_cons_of_mem _ (frs_in _ env he b hb))), oe, vs, T, oT, ts, k1, k2, k3, k4, PySem.W.hideAll_none _ (List.mem_cons_of_mem _ List.mem_cons_self), k6, k7, k8, k9⟩ fun h2 fl up => ?_
  obtain ⟨f1, f2, f3, oe2, vs2, T2, oT2, ts2, j1, j2, j3, j4, j5, j6, j7, j8, j9⟩ := fl
  have keep : ∀ b o, s'.heap.get? b = some o → b ∉ ([a, T] : List Addr) → b ∉ frs (envOfC qual scope s0.heap.objs.size f cd :: outer) → h2.get? b = some o := fun b o q hb hc => f1 b o (PySem.W.hideAll_get _ q fun z => by
    rcases List.mem_cons.mp z with z | z
    · exact hb (by rw [z]; simp)
    · rcases List.mem_cons.mp z with z | z
      · exact hb (by rw [z]; simp)
      · exact hc z)
  have two : ∀ {p : Addr → Prop}, p a → p T → ∀ b ∈ ([a, T] : List Addr), p b := fun h1 h2 b hb => by
    rcases List.mem_cons.mp hb with rfl | hb
    · exact h1
    · rw [List.mem_singleton.mp hb]; exact h2
  have Z := J.noted (as := [a, T]) up keep (two (fun o q => by rw [k1] at q; cases q; exact ⟨_, k3⟩) (fun o q => by rw [k7] at q; cases q; exact ⟨_, k8⟩)) (two (I.zero fly.new rfl) (I.zero hT0 rfl)) (two fly.free hTH)
    (two (fun p hp z => by have := (I.pin p hp).1; rw [z, fly.new] at this; cases this) (fun p hp z => by have := (I.pin p hp).1; rw [z, hT0] at this; cases this))
  have hT2 : s0.heap.get? T2 = none ∧ H' T2 = none := by
    by_cases eT : T2 = T
    · rw [eT]; exact ⟨I.zero hT0 rfl, hTH⟩
    have hn : s'.heap.get? T2 = none := by
      cases q : s'.heap.get? T2 with
      | none => rfl
      | some o =>
        by_cases hb : T2 ∈ frs (envOfC qual scope s0.heap.objs.size f cd :: outer)
        · obtain ⟨o2, e2, d2⟩ := J.frame_data hb
          obtain ⟨sl, e3⟩ := up T2 o2 e2 d2
          rw [j7] at e3
          cases e3
          exact absurd j8 (d2 ts2)
        · have := PySem.W.hideAll_get (l := a :: T :: frs (envOfC qual scope s0.heap.objs.size f cd :: outer)) q (fun z => by
            rcases List.mem_cons.mp z with z | z
            · exact j6 z
            · rcases List.mem_cons.mp z with z | z
              · exact eT z
              · exact hb z)
          rw [j5] at this; cases this
    exact ⟨J.zero hn rfl, J.hok.none_of hn⟩
  exact ⟨a, cls, H', rfl, Z.os, Z.bare, Z.base, Z.hok, ⟨⟨oe2, vs2, T2, oT2, ts2, a0, j1, j2, j3, j4, j6, j7, j8, j9, hT2.1, hT2.2⟩, I.zero fly.new rfl, fly.free⟩, hE⟩
end
end L2

set_option maxRecDepth 100000
set_option maxHeartbeats 4000000
namespace L2
open PySem PySem.Spec PyProof.Rows
theorem exc_obj {K : PySem.W.Frag} {h : Heap} {C : Addr} {bmB : List Value} {newId : String} (X : K.In h) (q : PySem.W.excIn K C bmB newId = true) :
    ∃ bm N nm qn bs hd sn sub ab col dd k0 k1 k2 k3 k5 mN, h.get? C = some (excClassObj nm qn C N bs bm hd sn sub ab col dd k0 k1 k2 k3 k5 newId) ∧ h.Ns N mN ∧ mN "__init__" = none ∧ OwnTail h bmB bm := by
  unfold PySem.W.excIn at q
  split at q
  case h_2 => cases q
  case h_1 dd cd sl ho =>
    split at q
    case h_2 => cases q
    case h_1 C' bm k0 k1 k2 k3 n k5 hm hs =>
      rw [Bool.and_eq_true, Bool.and_eq_true, Bool.and_eq_true, Bool.and_eq_true, Bool.and_eq_true] at q
      obtain ⟨⟨⟨⟨⟨q1, q2⟩, q3⟩, q4⟩, q5⟩, q6⟩ := q
      have e1 : C' = C := by simpa using q1
      have e2 : n = newId := by simpa using q2
      have e3 : cd.hasDel = false := by simpa using q3
      have e6 : PySem.W.nsIn K cd.ns "__init__" = some none := by simpa using q6
      obtain ⟨a1, a2, a3, a4, a5, a6, a7, a8, a9, a10, a11⟩ := cd
      dsimp only at hm e3 e6 q4 q5
      have esl : sl = #[k0, k1, k2, k3, some (.builtin n), k5] := by
        cases sl
        rename_i l
        dsimp only at hs
        rw [hs]
      subst e1 e2 esl hm e3
      exact ⟨bm, a4, a1, a5, a2, a6, a7, a8, a9, a10, dd, k0, k1, k2, k3, k5, _, X _ _ ho, .of_isNs (PySem.W.isNs_of_in X q5), PySem.W.nsMap_none_of_in X q5 e6, PySem.W.tail_of_in X q4⟩
structure ExcC (K : PySem.W.Frag) (C : Addr) : Prop where
  ex : ∃ (newId initId : String) (bmB : List Value), ExcBaseFacts "ValueError" newId initId bmB ∧ PySem.W.excIn K C bmB newId = true ∧ bmB.contains (.type "BaseException") = true
def Raises (X : Cx) (E : XK) : Prop := ∀ (pins : List (Addr × Obj)) (σ : St) (H : Hp) (s : Shared) (h' : Heap) (e : Addr) (cls : Value) (args : List Value), Inv X pins σ H s → Heap.MadeExcOf s.heap h' e cls args → E cls none H → X.xe (.ref e) { s with heap := h' }
def tRaise (C : Addr) (E : XK) (t : TA) : TS := fun _ σ H => t σ H fun vs H1 => vs.length ≤ sizeLine ∧ E (.ref C) none H1
section
variable {X : Cx} {E : XK} {x : Str} {C : Addr} {e : Expr} {es : List Expr} {t : TA} {np cpos pos : Pos}
theorem ps_raise (hR : Raises X E) (hc : X.calm = true) (hg : Gl X x) (hm : X.mg x = some (.ref C)) (q : ExcC X.K C) (ha : PA X (e :: es) t) (hd : (x == ("__debug__" : Str)) = false := by decide)
    (he : starEach (e :: es) X.env = (false, eval e X.env) :: starEach es X.env := by rfl) (hpl : (backTo cpos (starEach (e :: es) X.env)).any (·.1) = false := by rfl) : PS X (.Raise (some (.Call (.Name x np) (e :: es) [] cpos)) none pos) (tRaise C E t) := by
  intro pins s σ H D I h
  obtain ⟨newId, initId, bmB, F, qi, hb⟩ := q.ex
  obtain ⟨bm, N, nm, qn, bs, hdd, sn, sub, ab, col, dd, k0, k1, k2, k3, k5, mN, hC, hN, hni, TL⟩ := exc_obj I.ok.mod.kin qi
  refine wpAny_Raise_call_subT (C := C) (nm := nm) (q := qn) (N := N) (bs := bs) (bm := bm) (hdct := hdd) (sn := sn) (sub := sub) (ab := ab) (col := col) (dd := dd) (k0 := k0) (k1 := k1) (k2 := k2) (k3 := k3) (k5 := k5) (mN := mN) F (TL.hasType hb) (I.ok.hd hc) hpl hni (ld_glob I hg hm ⟨rfl, ?_⟩ hd)
  have hq := ha cpos pins s σ H _ I h
  rw [he] at hq ⊢
  refine Calls.evalArgs_plain (thn hq fun us s1 ⟨vs, H1, I1, r, hl, hE⟩ => ?_)
  exact ⟨rfl, by rw [← r.length]; exact hl, I1.bk _ _ hC, hN.keeps I1.bk, TL.keeps I1.bk, fun h' ex hx => hR pins σ H1 s1 h' ex _ _ I1 hx hE⟩
end

structure FlyX (X : Cx) (pins : List (Addr × Obj)) (a : Addr) (cls : Value) (H : Hp) (h : Heap) : Prop where
  ex : ∃ oe vs T oT ts a0, h.get? a = some oe ∧ (oe.cls = cls ∧ vs[0]? = some a0) ∧ oe.data = .fields vs ∧ vs[1]? = some (.ref T) ∧ T ≠ a ∧ h.get? T = some oT ∧ oT.data = .fields ts ∧ ts[3]? = some .none ∧ X.s₀.heap.get? T = none ∧ H T = none ∧ ∀ p ∈ X.pn ++ pins, p.1 ≠ T
  new : X.s₀.heap.get? a = none
  free : H a = none
  pn : ∀ p ∈ X.pn ++ pins, p.1 ≠ a
def XP (X : Cx) (pins : List (Addr × Obj)) (σ : St) (Ex : Value → Hp → Prop) (e : Value) (s' : Shared) : Prop := ∃ a cls H', e = .ref a ∧ Inv X pins σ H' s' ∧ FlyX X pins a cls H' s'.heap ∧ Ex cls H'
theorem xp_of {X : Cx} {pins : List (Addr × Obj)} {σ : St} {H : Hp} {s s' : Shared} {E : XK} {e : Value} (I : Inv X pins σ H s) (hx : X.ex = []) (h : CXf X.prog X.w X.stack H s E e s') : XP X pins σ (fun cls H' => E cls none H') e s' := by
  obtain ⟨a, cls, H', rfl, os, bare, un, hok, fly, hE⟩ := h
  have J : Inv X pins σ H' s' := I.call' os un hok bare fun b z => absurd z (by simp)
  obtain ⟨oe, vs, T, oT, ts, a0, k1, k2, k3, k4, k6, k7, k8, k9, hT0, hTH⟩ := fly.ex
  exact ⟨a, cls, H', rfl, J, ⟨⟨oe, vs, T, oT, ts, a0, k1, k2, k3, k4, k6, k7, k8, k9, I.zero hT0 hx, hTH, fun p hp z => by have := (I.pin p hp).1; rw [z, hT0] at this; cases this⟩, I.zero fly.new hx, fly.free, fun p hp z => by have := (I.pin p hp).1; rw [z, fly.new] at this; cases this⟩, hE⟩
abbrev TEx := St → Hp → VK → (Value → Hp → Prop) → Prop
def PEx (X : Cx) (e : Expr) (t : TEx) : Prop :=
  ∀ (pins : List (Addr × Obj)) (s : Shared) (σ : St) (H : Hp) (Q : VK) (Ex : Value → Hp → Prop), Inv X pins σ H s → t σ H Q Ex → wpAny (model X.prog X.w) X.A (eval e X.env) (EP X pins σ Q) (XP X pins σ Ex) s
abbrev TSx := Ends → (St → Value → Hp → Prop) → St → Hp → Prop
def XS (X : Cx) (pins : List (Addr × Obj)) (Ex : St → Value → Hp → Prop) (e : Value) (s' : Shared) : Prop := ∃ σ, XP X pins σ (Ex σ) e s'
def PSx (X : Cx) (st : Stmt) (t : TSx) : Prop :=
  ∀ (pins : List (Addr × Obj)) (s : Shared) (σ : St) (H : Hp) (D : Ends) (Ex : St → Value → Hp → Prop), Inv X pins σ H s → t D Ex σ H → wpAny (model X.prog X.w) X.A (exec st X.env) (SP X pins D) (XS X pins Ex) s
def PSsx (X : Cx) (st : List Stmt) (t : TSx) : Prop :=
  ∀ (pins : List (Addr × Obj)) (s : Shared) (σ : St) (H : Hp) (D : Ends) (Ex : St → Value → Hp → Prop), Inv X pins σ H s → t D Ex σ H → wpAny (model X.prog X.w) X.A (execs st X.env) (SP X pins D) (XS X pins Ex) s
def xCall (sp : Sp) (dvs : List V) (t : TA) : TEx := fun σ H Q Ex => t σ H fun vs H1 => sp (vs ++ dvs) H1 Q fun cls _ H' => Ex cls H'
def xDrop (te : TEx) : TSx := fun D Ex σ H => te σ H (fun _ H1 => D.nx σ H1) (Ex σ)
section
variable {X : Cx} {k : Nat} {f : Addr} {fd : FuncData} {ps : List Str} {sp : Sp} {dvs : List V} {ds : List Value} {x : Str} {p pos : Pos} {e : Expr} {es : List Expr} {t : TA}
theorem run_fnX {pins : List (Addr × Obj)} {σ : St} {H : Hp} {s : Shared} {Q : VK} {E : XK} {us : List Value} {vs : List V} (F : FnOk X.prog X.w X.K X.mg X.base (CXf X.prog X.w) k f fd ps sp) (hr : Room k X.A) (hb : Binds X.K fd ps ds) (hd : Vals dvs ds) (hx : X.ex = [])
    (I : Inv X pins σ H s) (r : Vals vs us) (h : sp (vs ++ dvs) H Q E) : wpAny (model X.prog X.w) X.A (call (.ref f) us) (EP X pins σ Q) (XP X pins σ fun cls H' => E cls none H') s := by
  have r2 : Vals (vs ++ dvs) (us ++ ds) := r.append hd
  have hl : (us ++ ds).length = ps.length := by rw [← r2.length]; exact F.len _ _ _ _ h
  refine wpAny_call (codeAny_mono (F.run X.A X.stack s H ⟨us, []⟩ (us ++ ds) (vs ++ dvs) Q E hr I.env0 (hb s us I.kIn hl) r2 h) fun r s' hq => ?_)
  cases r with
  | error e => exact xp_of I hx hq
  | ok fl =>
    cases fl with
    | ret u => exact I.after hq
    | next => exact False.elim hq
    | brk => exact False.elim hq
    | cont => exact False.elim hq
theorem pex_call (F : FnOk X.prog X.w X.K X.mg X.base (CXf X.prog X.w) k f fd ps sp) (hr : Room k X.A) (hg : Gl X x) (hm : X.mg x = some (.ref f)) (hk : PySem.W.keepIn X.K (.ref f) = true) (hb : Binds X.K fd ps ds) (hd : Vals dvs ds) (hx : X.ex = [])
    (ha : PA X.nox (e :: es) t) (hdb : (x == ("__debug__" : Str)) = false := by decide) (he : starEach (e :: es) X.env = (false, eval e X.env) :: starEach es X.env := by rfl) (hpl : (backTo pos (starEach es X.env)).any (·.1) = false := by rfl) :
    PEx X (.Call (.Name x p) (e :: es) [] pos) (xCall sp dvs t) := by
  intro pins s σ H Q Ex I h
  refine wpAny_Call_Name_kw (ld_glob I hg hm ?_ hdb)
  refine PySem.W.callWith_K (h₀ := X.base) I.ok.mod.kin hk (wpAny_mono (ha pos pins s σ H _ (I.wish _) h) (fun us s1 ⟨vs, H1, I1, r, q⟩ => ⟨I1.kIn, ?_⟩) fun _ _ z => False.elim z) he hpl
  exact run_fnX F hr hb hd hx I1.unwish r q
theorem psx_expr {te : TEx} (he : PEx X e te) (hs : swapsWith e none pos.line X.env = pure false := by rfl) : PSx X (.Expr e pos) (xDrop te) := by
  intro pins s σ H D Ex I h
  exact wpAny_Expr_any (wpAny_mono (he pins s σ H _ _ I h) (fun v s1 ⟨x, H1, I1, r1, q1⟩ => ⟨σ, H1, I1, q1⟩) fun _ _ z => ⟨σ, z⟩) I.quiet hs
theorem pssx_one {st : Stmt} {t : TSx} (h1 : PSx X st t) : PSsx X [st] t := by
  intro pins s σ H D Ex I h
  refine wpAny_execs_cons (thn (h1 pins s σ H D Ex I h) fun f s1 q => ?_)
  cases f with
  | next => exact wpAny_execs_nil q
  | ret v => exact q
  | brk => exact q
  | cont => exact q
end
abbrev Cx.marked (X : Cx) (v : Value) : Cx := { X with A := X.A.mark (some v), calm := false, xe := fun _ _ => False }
section
variable {X : Cx} {pins : List (Addr × Obj)} {σ : St} {H : Hp} {s : Shared} {v : Value}
theorem Cx.Ok.marked (ok : X.Ok) (v : Value) : (X.marked v).Ok :=
  ⟨ok.mod, ok.kind, ok.glob, ok.blt, ok.above, ok.inj, ok.has, ok.cab, fun z => Bool.noConfusion z, ok.frames, ok.stk, ok.exf, ok.bs, ok.bsz, ok.noex, ok.exfs, ok.funs, ok.frf⟩
theorem Inv.marked (I : Inv X pins σ H s) (v : Value) : Inv (X.marked v) pins σ H s := ⟨I.ok.marked v, I.os, I.bare, I.base, I.loc, I.cell, I.free, I.freeC, I.pin, I.hok, I.len⟩
theorem Inv.unmarked (ok : X.Ok) (I : Inv (X.marked v) pins σ H s) : Inv X pins σ H s := ⟨ok, I.os, I.bare, I.base, I.loc, I.cell, I.free, I.freeC, I.pin, I.hok, I.len⟩
theorem SP.unmarked {D : Ends} {f : Flow} {s' : Shared} (ok : X.Ok) (h : SP (X.marked v) pins D f s') : SP X pins D f s' := by
  cases f with
  | next => obtain ⟨σ', H', I, q⟩ := h; exact ⟨σ', H', I.unmarked ok, q⟩
  | brk => obtain ⟨σ', H', I, q⟩ := h; exact ⟨σ', H', I.unmarked ok, q⟩
  | cont => obtain ⟨σ', H', I, q⟩ := h; exact ⟨σ', H', I.unmarked ok, q⟩
  | ret u => obtain ⟨v, σ', H', I, r, q⟩ := h; exact ⟨v, σ', H', I.unmarked ok, r, q⟩
end
end L2

set_option maxRecDepth 100000
set_option maxHeartbeats 4000000
namespace L2
open PySem PySem.Spec PyProof.Rows
def tJoin : List TE → Nat → TE
  | [], n => fun _ H Q => ∀ z : Str, z.length = n → Q (.str z) H
  | t :: ts, n => fun σ H Q => t σ H fun x H1 => ∃ z : Str, x = .str z ∧ n + z.length ≤ sizeLine ∧ tJoin ts (n + z.length) σ H1 Q
section
variable {X : Cx} {pos : Pos} {e : Expr} {te : TE}
theorem join_go : ∀ {es : List Expr} {ts : List TE}, Paired (PE X) es ts → ∀ (acc : Str) (pins : List (Addr × Obj)) (s : Shared) (σ : St) (H : Hp) (Q : VK), acc.length ≤ sizeLine → Inv X pins σ H s → tJoin ts acc.length σ H Q → wpAny (model X.prog X.w) X.A (joinParts acc (evalEach es X.env)) (EP X pins σ Q) X.xe s
  | _, _, .nil, acc, pins, s, σ, H, Q, hz, I, h => joinParts_nilE (joinParts_nil ⟨.str acc, H, I.tok _, ⟨_, rfl⟩, h acc rfl⟩ hz)
  | _, _, .cons p r, acc, pins, s, σ, H, Q, hz, I, h => by
    refine joinParts_consE (joinParts_cons (thn (p pins s σ H _ I h) fun v s1 ⟨x, H1, I1, rx, z, ez, hl, q⟩ => ?_))
    subst ez
    obtain ⟨t, rfl⟩ := rx
    have el : (acc ++ z).length = acc.length + z.length := len_app acc z
    exact ⟨by rw [el]; exact hl, join_go r (acc ++ z) pins s1 σ H1 Q (by rw [el]; exact hl) I1 (by rw [el]; exact q)⟩
theorem empty_len : Str.empty.length = 0 := by decide
theorem pe_join {a b : Expr} {es : List Expr} {ts : List TE} (h : Paired (PE X) (a :: b :: es) ts) : PE X (.JoinedStr (a :: b :: es) pos) (tJoin ts 0) := by
  intro pins s σ H Q I hw
  refine JoinedStr_many (join_go h Str.empty pins s σ H Q (by decide) I ?_)
  rw [empty_len]
  exact hw
def tFm (te : TE) : TE := fun σ H Q => te σ H fun x H1 => (∃ i, x = .int i ∧ i.natAbs.log2 < 1920 ∧ ∀ z : Str, z.length ≤ 1921 → Q (.str z) H1) ∨ ∃ y : Str, x = .str y ∧ y.length ≤ sizeLine ∧ Q (.str y) H1
theorem pe_fm (he : PE X e te) : PE X (.FormattedValue e (-1) none pos) (tFm te) := by
  intro pins s σ H Q I h
  refine FormattedValue_plain (thn (he pins s σ H _ I h) fun v s1 ⟨x, H1, I1, rx, q⟩ => ?_)
  rcases q with ⟨i, rfl, hi, q⟩ | ⟨y, rfl, hy, q⟩
  · obtain ⟨t, rfl⟩ := rx
    exact formatField_int_small hi ⟨.str _, H1, I1.tok _, ⟨_, rfl⟩, q _ (int_len hi)⟩
  · obtain ⟨t, rfl⟩ := rx
    exact formatField_str (fun t' tk => ⟨.str y, H1, I1.tok _, ⟨_, rfl⟩, q⟩) hy
def tFr (te : TE) : TE := fun σ H Q => te σ H fun x H1 => ∃ i, x = .int i ∧ i.natAbs.log2 < 1920 ∧ ∀ z : Str, z.length ≤ 1921 → Q (.str z) H1
theorem pe_fr (he : PE X e te) : PE X (.FormattedValue e 114 none pos) (tFr te) := by
  intro pins s σ H Q I h
  refine wpAny_FormattedValue_repr (thn (he pins s σ H _ I h) fun v s1 ⟨x, H1, I1, rx, i, ei, hi, q⟩ => ?_)
  subst ei
  obtain ⟨t, rfl⟩ := rx
  refine pyReprObj_int hi (formatField_str (fun t' tk => ⟨.str _, H1, I1.tok _, ⟨_, rfl⟩, q _ (int_len hi)⟩) (int_text_fits hi))
end
section
variable {X : Cx} {pos : Pos} {e : Expr} {te : TE}
end
end L2

set_option maxRecDepth 100000
set_option maxHeartbeats 4000000
namespace L2
open PySem PySem.Spec PyProof.Rows
structure Caught (X : Cx) (pins : List (Addr × Obj)) (a : Addr) (cls : Value) (σ : St) (H : Hp) (s : Shared) : Prop where
  inv : Inv X pins σ H s
  fly : FlyX X pins a cls H s.heap
section
variable {X : Cx} {pins : List (Addr × Obj)} {a : Addr} {cls : Value} {σ : St} {H : Hp} {s : Shared} {h' : Heap}
theorem Caught.opened (c : Caught X pins a cls σ H s) (hx : X.ex = []) : ∃ base a0, Heap.FlyingW base X.stack a cls a0 s.heap ∧ ∀ h5, Heap.FlyingW base X.stack a cls a0 h5 → s.heap.UpToSlots h5 → Caught X pins a cls σ H { s with heap := h5 } := by
  obtain ⟨J, fl⟩ := c
  obtain ⟨oe, vs, T, oT, ts', a0, j1, j2, j3, j4, j6, j7, j8, j9, hT0, hTH, hTp⟩ := fl.ex
  have st : (PySem.W.hideAll s.heap (a :: T :: frs X.stack)).StaysIn s.heap := fun b o w => PySem.W.of_hideAll _ w
  have two : ∀ {p : Addr → Prop}, p a → p T → ∀ b ∈ ([a, T] : List Addr), p b := fun h1 h2 b hb => by
    rcases List.mem_cons.mp hb with rfl | hb
    · exact h1
    · rw [List.mem_singleton.mp hb]; exact h2
  have ff := PySem.W.funFrames_hide (as := a :: T :: frs X.stack) J.stack (fun env he b hb => List.mem_cons_of_mem _ (List.mem_cons_of_mem _ (frs_in _ env he b hb)))
  refine ⟨_, a0, ⟨st, PySem.W.hideAll_none _ List.mem_cons_self, ff, oe, vs, T, oT, ts', j1, j2, j3, j4, PySem.W.hideAll_none _ (List.mem_cons_of_mem _ List.mem_cons_self), j6, j7, j8, j9⟩, fun h5 f up => ?_⟩
  obtain ⟨f1, f2, f3, oe2, vs2, T2, oT2, ts2, i1, i2, i3, i4, i5, i6, i7, i8, i9⟩ := f
  have Z : Inv X pins σ H { s with heap := h5 } := by
    refine J.noted (as := [a, T]) up (fun b o w hb hc => f1 b o (PySem.W.hideAll_get _ w fun y => ?_)) (two (fun o w => by rw [j1] at w; cases w; exact ⟨_, j3⟩) (fun o w => by rw [j7] at w; cases w; exact ⟨_, j8⟩)) (two fl.new hT0) (two fl.free hTH) (two fl.pn hTp)
    rcases List.mem_cons.mp y with y | y
    · exact hb (by rw [y]; simp)
    · rcases List.mem_cons.mp y with y | y
      · exact hb (by rw [y]; simp)
      · exact hc y
  have hT2 : X.s₀.heap.get? T2 = none ∧ H T2 = none ∧ ∀ p ∈ X.pn ++ pins, p.1 ≠ T2 := by
    by_cases eT : T2 = T
    · rw [eT]; exact ⟨hT0, hTH, hTp⟩
    have hn : s.heap.get? T2 = none := by
      cases q : s.heap.get? T2 with
      | none => rfl
      | some o =>
        by_cases hb : T2 ∈ frs X.stack
        · obtain ⟨o2, e2, d2⟩ := J.frame_data hb
          obtain ⟨sl, e3⟩ := up T2 o2 e2 d2
          rw [i7] at e3
          cases e3
          exact absurd i8 (d2 ts2)
        · have := PySem.W.hideAll_get (l := a :: T :: frs X.stack) q (fun z => by
            rcases List.mem_cons.mp z with z | z
            · exact i6 z
            · rcases List.mem_cons.mp z with z | z
              · exact eT z
              · exact hb z)
          rw [i5] at this; cases this
    exact ⟨J.zero hn hx, J.hok.none_of hn, fun p hp z => by have := (J.pin p hp).1; rw [z, hn] at this; cases this⟩
  exact ⟨Z, ⟨⟨oe2, vs2, T2, oT2, ts2, a0, i1, i2, i3, i4, i6, i7, i8, i9, hT2.1, hT2.2.1, hT2.2.2⟩, fl.new, fl.free, fl.pn⟩⟩
theorem Caught.kept {t' : Nat} (c : Caught X pins a cls σ H s) (k : ∀ b u, s.heap.get? b = some u → h'.get? b = some u) : Caught X pins a cls σ H { s with heap := h', toks := t' } := by
  obtain ⟨J, fl⟩ := c
  obtain ⟨oe, vs, T, oT, ts', a0, j1, j2, j3, j4, j6, j7, j8, j9, hT0, hTH, hTp⟩ := fl.ex
  exact ⟨J.kept k, ⟨⟨oe, vs, T, oT, ts', a0, k _ _ j1, j2, j3, j4, j6, k _ _ j7, j8, j9, hT0, hTH, hTp⟩, fl.new, fl.free, fl.pn⟩⟩
theorem Caught.type {M : Model} (c : Caught X pins a cls σ H s) : PySem.W.Looks M s.heap (typeOf (.ref a)) cls := by
  obtain ⟨oe, vs, T, oT, ts', a0, j1, j2, _⟩ := c.fly.ex
  exact j2.1 ▸ (PySem.W.Looks.ld j1).andThen .now
end
abbrev TH := Value → TS
def PH (X : Cx) (hs : List ExceptHandler) (t : TH) : Prop :=
  ∀ (pins : List (Addr × Obj)) (s : Shared) (σ : St) (H : Hp) (D : Ends) (a : Addr) (cls : Value), Caught X pins a cls σ H s → t cls D σ H → wpAny (model X.prog X.w) X.A (handleBy (.ref a) X.env hs) (SP X pins D) X.xe s
def tTryH (tb : TSx) (th : TH) : TS := fun D σ H => tb D (fun σ' cls H' => th cls D σ' H') σ H
theorem ps_tryH {X : Cx} {body : List Stmt} {h0 : ExceptHandler} {hs : List ExceptHandler} {tb : TSx} {th : TH} {pos : Pos} (hst : X.stack = X.env :: X.outer) (hfr : X.env.frame = some X.env.locals) (hx : X.ex = [])
    (hb : PSsx X body tb) (hh : PH X (h0 :: hs) th) : PS X (.Try body (h0 :: hs) [] [] pos) (tTryH tb th) := by
  intro pins s σ H D I h
  refine wpAny_Try_except (wpAny_mono (hb pins s σ H D _ I h) (fun f s1 z => ?_) (fun e s1 z => ?_))
  · cases f with
    | next => exact wpAny_execs_nil z
    | ret v => exact z
    | brk => exact z
    | cont => exact z
  · obtain ⟨σ', a, cls, H', rfl, J, fl, z⟩ := z
    obtain ⟨base, a0, fly, back⟩ := (Caught.mk J fl).opened hx
    rw [hst] at fly back
    refine wpAny_looks_onW (by rw [← hst]; exact I.ok.frames) hfr fly fun h4 held up4 => ?_
    refine wpAny_landsW held fun h5 fly5 up5 => ?_
    exact hh pins _ σ' H' D a cls (back h5 fly5 (up4.trans up5)) z
section
variable {M : Model} {K : PySem.W.Frag}
end
section
variable {X : Cx} {pins : List (Addr × Obj)} {σ : St} {H : Hp} {s : Shared} {A : Around} {E : Value → Shared → Prop}
end
section
variable {X : Cx}
end
section
variable {X : Cx} {pins : List (Addr × Obj)} {a : Addr} {cls : Value} {σ : St} {H : Hp} {s : Shared}
theorem Caught.track (c : Caught X pins a cls σ H s) : ∃ oe, oe.cls = cls ∧ Inv X pins σ (upd H a (.frz oe (.own a))) s := by
  obtain ⟨I, fl⟩ := c
  obtain ⟨oe, vs, T, oT, ts', a0, j1, j2, j3, _⟩ := fl.ex
  have same : ∀ {b : Addr} {o : HO}, H b = some o → upd H a (.frz oe (.own a)) b = some o := fun {b o} e => by
    rw [upd_ne (fun z => by rw [z, fl.free] at e; cases e)]; exact e
  have none' : ∀ {b : Addr}, b ≠ a → H b = none → upd H a (.frz oe (.own a)) b = none := fun {b} n e => by rw [upd_ne n]; exact e
  obtain ⟨m, hn, hl⟩ := id I.loc
  refine ⟨oe, j2.1, ⟨I.ok, I.os, I.bare, ⟨I.base.keep, I.base.slot, fun b o e n hx => none' (fun z => by rw [z, fl.new] at e; cases e) (I.base.free b o e n hx), I.base.there, fun b xs e => same (I.base.tups b xs e), fun b o u e => same (I.base.frzs b o u e), fun b ps e => ?_⟩, I.loc, I.cell, none' (fun z => ?_) I.free, fun x c e => none' (fun z => ?_) (I.freeC x c e), fun p hp => ?_, fun b o e => ?_, I.len⟩⟩
  · obtain ⟨more, e⟩ := I.base.tbls b ps e
    exact ⟨more, same e⟩
  · obtain ⟨o, es, ep, ho, hd, _⟩ := hn
    rw [z, j1] at ho
    cases ho
    rw [j3] at hd; cases hd
  · obtain ⟨v, oc, k3, k4⟩ := I.cell x c e
    rw [z, j1] at k3
    cases k3
    rw [j3] at k4; cases k4
  · obtain ⟨e, n, ne, nf, d⟩ := I.pin p hp
    exact ⟨e, none' (fl.pn p hp) n, ne, nf, d⟩
  · by_cases z : b = a
    · subst z
      rw [upd_same] at e
      cases e
      exact ⟨j1, ⟨_, j1⟩⟩
    · rw [upd_ne z] at e
      exact (I.hok b o e).stay (fun _ _ _ q => q) (fun _ q => same q) fun _ _ q => same q
theorem Inv.gone {i : Nat} {n : Str} {h' : Heap} {t' : Nat} {m : Str → Option Value} {v : Option Value} (I : Inv X pins σ H s) (hN : X.N.Nodup) (hi : X.N[i]? = some n) (hn0 : s.heap.Ns X.env.locals m) (hn : h'.Ns X.env.locals (fun x => if x = n then v else m x)) (hs : Heap.SameBut X.env.locals s.heap h') :
    Inv X pins (σ.set i none) H { s with heap := h', toks := t' } := by
  obtain ⟨m1, hn1, hl⟩ := id I.loc
  have hm : m1 = m := by
    obtain ⟨o1, es1, ep1, k1, k2, _, k4⟩ := hn1
    obtain ⟨o2, es2, ep2, l1, l2, _, l4⟩ := hn0
    rw [k1] at l1
    cases l1
    rw [k2] at l2
    cases l2
    exact funext fun x => (k4 x).symm.trans (l4 x)
  subst hm
  have hiσ : i < σ.length := by rw [I.len]; exact (List.getElem?_eq_some_iff.mp hi).1
  refine ⟨I.ok, I.os, I.bare, ⟨fun b o e n hb hx => ?_, fun b o e n hb hx => ?_, I.base.free, fun b o e hx => ?_, I.base.tups, I.base.frzs, I.base.tbls⟩, ⟨_, hn, fun j y v' e1 e2 e3 => ?_⟩, fun y c e => ?_, I.free, I.freeC, fun p hp => ?_, fun b ob e => ?_, by simpa using I.len⟩
  · exact (hs.2 b (Nat.ne_of_lt (Nat.lt_of_lt_of_le (Heap.lt_size e) I.ok.above))).trans (I.base.keep b o e n hb hx)
  · obtain ⟨sl, e1⟩ := I.base.slot b o e n hb hx
    exact ⟨sl, (hs.2 b (Nat.ne_of_lt (Nat.lt_of_lt_of_le (Heap.lt_size e) I.ok.above))).trans e1⟩
  · obtain ⟨o', e1⟩ := I.base.there b o e hx
    exact ⟨o', (hs.2 b (Nat.ne_of_lt (Nat.lt_of_lt_of_le (Heap.lt_size e) I.ok.above))).trans e1⟩
  · by_cases hj : j = i
    · subst hj
      rw [List.getElem?_set_self hiσ] at e2
      cases e2
    · rw [List.getElem?_set_ne (Ne.symm hj)] at e2
      obtain ⟨u', r', q⟩ := hl j y v' e1 e2 e3
      refine ⟨u', r', ?_⟩
      rcases q with ⟨k, e⟩ | ⟨k, c, e, z⟩
      · refine .inl ⟨k, ?_⟩
        have : y ≠ n := fun e => hj (nodup_ix hN e1 (e ▸ hi))
        simp [this, e]
      · exact .inr ⟨k, c, e, z.sameBut hs (I.cne y c e)⟩
  · obtain ⟨w', z⟩ := I.cell y c e
    exact ⟨w', z.sameBut hs (I.cne y c e)⟩
  · obtain ⟨e, n, ne, nf, d⟩ := I.pin p hp
    exact ⟨(hs.2 p.1 ne).trans e, n, ne, nf, d⟩
  · refine (I.hok b ob e).stay (fun c w' hc q => (hs.2 c ?_).trans q) (fun _ q => q) fun _ _ q => q
    rintro rfl
    rcases hc with rfl | hc
    · rw [I.free] at e; cases e
    · rw [I.free] at hc; cases hc
end
def Ends.lose (D : Ends) (i : Nat) : Ends := { nx := fun σ H => D.nx (σ.set i none) H, rt := D.rt, bk := fun σ H => D.bk (σ.set i none) H, ct := fun σ H => D.ct (σ.set i none) H }
def hAs (K : PySem.W.Frag) (C : Addr) (i : Nat) (t : TS) : TH := fun cls D σ H => PySem.W.exmOne K cls (.ref C) = some true ∧ ∀ (a : Addr) (oe : Obj), oe.cls = cls → H a = none → t (D.lose i) (σ.set i (some (.ref a))) (upd H a (.frz oe (.own a)))
theorem ph_as {X : Cx} {x n : Str} {C : Addr} {i : Nat} {b0 : Stmt} {suite : List Stmt} {np pos : Pos} {rest : List ExceptHandler} {t : TS} (K : PySem.W.Frag) (hx : X.ex = []) (hg : Gl X x) (hm : X.mg x = some (.ref C)) (hN : X.N.Nodup) (hi : X.N[i]? = some n) (hl : X.env.scope.names.lookup n = some .local) (hk : X.env.kindOf n = some .local)
    (hs : ∀ v, PSs (X.marked v) (b0 :: suite) t) (hd : (x == ("__debug__" : Str)) = false := by decide) (hK : X.K = K := by rfl) :
    PH X (.ExceptHandler (some (.Name x np)) (some n) (b0 :: suite) pos :: rest) (hAs K C i t) := by
  subst hK
  intro pins s σ H D a cls c ⟨h1, h2⟩
  refine wpAny_handleBy_cons (codeAny_handlers_test (ld_glob (X := X.marked (.ref a)) (c.inv.marked _) hg hm ?_ hd)) (by intro y; cases y)
  refine (PySem.W.exm_one c.inv.kIn c.type h1).here ?_
  refine codeAny_handlers_suite_as ?_
  obtain ⟨base, a0, fly, back⟩ := c.opened hx
  refine lands_againW fly fun h6 fly6 up6 => ?_
  have c6 := back h6 fly6 up6
  obtain ⟨oe, ho, I6⟩ := c6.track
  refine store_ok (X := X.marked (.ref a)) (I6.marked _) hN hi (.inl hl) (v := .ref a) rfl (fun s7 I7 => ?_) (.inr hl)
  refine wpAny_mono (hs (.ref a) pins s7 _ _ _ I7 (h2 a oe ho c.fly.free)) (fun f s8 y => ?_) fun _ _ y => False.elim y
  have y := y.unmarked c.inv.ok
  have lose : ∀ {σ' : St} {H' : Hp} {Q : Unit → Shared → Prop}, Inv X pins σ' H' s8 → (∀ s9, Inv X pins (σ'.set i none) H' s9 → Q () s9) → wpAny (model X.prog X.w) X.A (do bindName X.env n .none; unbindBehindTheSuite X.env n pos) Q X.xe s8 := fun {σ' H' Q} J q => by
    obtain ⟨m, hn, _⟩ := id J.loc
    exact wpAny_nameGoes_keeps hk hn (by rw [J.ok.kind]; rfl) fun h' v hn' hs' => q _ (J.gone hN hi hn hn' hs')
  cases f with
  | next => obtain ⟨σ', H', J, q⟩ := y; exact lose J fun s9 J9 => ⟨_, _, J9, q⟩
  | brk => obtain ⟨σ', H', J, q⟩ := y; exact lose J fun s9 J9 => ⟨_, _, J9, q⟩
  | cont => obtain ⟨σ', H', J, q⟩ := y; exact lose J fun s9 J9 => ⟨_, _, J9, q⟩
  | ret u => obtain ⟨v, σ', H', J, r, q⟩ := y; exact lose J fun s9 J9 => ⟨v, _, _, J9, r, q⟩
section
variable {K : PySem.W.Frag}
open PySem.W in
theorem isi_yes {M : Program} {w : World} {A : Around} {E : Value → Shared → Prop} {Q : Value → Shared → Prop} {s : Shared} {x t c : Value} (X : K.In s.heap) (LT : ∀ M, PySem.W.Looks M s.heap (typeOf x) t) (e : PySem.W.kitOne K t c = some true) (hx : x ≠ .builtin "__main__.__loader__#opaque") (h : Q (.bool true) s) :
    wpAny (model M w) A (call (.builtin "isinstance") [x, c]) Q E s := by
  obtain ⟨h0, g, d, tt, os⟩ := s
  refine call_isinstance_of ?_ hx
  have LT := LT (model M w)
  unfold kitOne at e
  unfold Builtin.«isinstance.nested»
  refine wpAny_bind (LT.at ?_)
  by_cases q : (t == c) = true
  · rw [if_pos q]
    repeat (first | refine wpAny_pure ?_ | refine wpAny_rule ?_ | refine wpAny_bind ?_)
    exact h
  · rw [if_neg q] at e
    rw [if_neg q]
    obtain ⟨hty, his, hsub⟩ := kit_cls (M := model M w) X e
    have LI : Looks (model M w) h0 (isInstance x c) true := LT.andThen hsub
    refine wpAny_bind (hty.at ?_)
    rw [if_pos (by decide)]
    k_delta "plainIsInstance"
    refine wpAny_bind (wpAny_bind (his.at ?_))
    simp only [Bool.not_true, Bool.false_eq_true, if_false]
    refine wpAny_bind (LI.at ?_)
    simp only [if_true]
    exact wpAny_pure (wpAny_pure h)
end
end L2

set_option maxRecDepth 100000
set_option maxHeartbeats 4000000
namespace L2
open PySem PySem.Spec PyProof.Rows
structure CalX (P : Program) (w : World) (K : PySem.W.Frag) (mg : Str → Option Value) (base : Heap) (k : Nat) (x : Str) (ps : List Str) (sp : Sp) : Prop where
  ex : ∃ f fd, FnOk P w K mg base (CXf P w) k f fd ps sp ∧ mg x = some (.ref f) ∧ PySem.W.keepIn K (.ref f) = true ∧ Binds K fd ps []
structure CalDX (P : Program) (w : World) (K : PySem.W.Frag) (mg : Str → Option Value) (base : Heap) (k : Nat) (x : Str) (ps : List Str) (sp : Sp) (st : Stmt) (ds : List Value) : Prop where
  ex : ∃ f fd, FnOk P w K mg base (CXf P w) k f fd ps sp ∧ mg x = some (.ref f) ∧ FunD K x st ds f fd
section
variable {P : Program} {w : World} {K : PySem.W.Frag} {mg : Str → Option Value} {base : Heap}
theorem Laid.calX {x : Str} {st : Stmt} {N ps : List Str} {k : Nat} {sp : Sp} (L : Laid K mg x st ps) (S : FnScope N ps (defScope st)) (len : ∀ vs H Q E, sp vs H Q E → vs.length = ps.length)
    (hbody : ∀ (f : Addr) (cdv : Value) (A : Around) (outer : List Env) (s : Shared) (H : Hp) (vs : List V) (Q : VK) (E : XK), Room k (A.deeper (envOfC x (defScope st) s.heap.objs.size f cdv)) → sp vs H Q E →
      ∃ t, PSs (cxOf (CXf P w) P w K mg base N x (defScope st) f cdv A outer s H E) (defBody st) t ∧ t { nx := fun _ H' => Q .non H', rt := Q } (start N vs) H) : CalX P w K mg base (k + 1) x ps sp := by
  obtain ⟨f, fd, F, m, b⟩ := L.ex
  refine ⟨f, fd, ?_, m, F.kp, b⟩
  obtain ⟨oc, od, kV, doc, pm, an, cdv, ct, osl, rfl, lk, hcd⟩ := F.ex
  exact fn_of lk hcd S len fun A outer s H vs Q E hr hsp => hbody f cdv A outer s H vs Q E hr hsp
theorem LaidD.calX {x : Str} {st : Stmt} {ds : List Value} {N ps : List Str} {k : Nat} {sp : Sp} (L : LaidD K mg x st ds) (S : FnScope N ps (defScope st)) (len : ∀ vs H Q E, sp vs H Q E → vs.length = ps.length)
    (hbody : ∀ (f : Addr) (cdv : Value) (A : Around) (outer : List Env) (s : Shared) (H : Hp) (vs : List V) (Q : VK) (E : XK), Room k (A.deeper (envOfC x (defScope st) s.heap.objs.size f cdv)) → sp vs H Q E →
      ∃ t, PSs (cxOf (CXf P w) P w K mg base N x (defScope st) f cdv A outer s H E) (defBody st) t ∧ t { nx := fun _ H' => Q .non H', rt := Q } (start N vs) H) : CalDX P w K mg base (k + 1) x ps sp st ds := by
  obtain ⟨f, fd, F, m⟩ := L.ex
  refine ⟨f, fd, ?_, m, F⟩
  obtain ⟨T, o, n, oc, od, kV, doc, pm, an, cdv, ct, osl, rfl, lk, hcd, ho, hs⟩ := F.ex
  exact fn_of lk hcd S len fun A outer s H vs Q E hr hsp => hbody f cdv A outer s H vs Q E hr hsp
theorem CalX.imp {k : Nat} {x : Str} {ps : List Str} {sp sp' : Sp} (c : CalX P w K mg base k x ps sp) (h : ∀ vs H Q E, sp' vs H Q E → sp vs H Q E) : CalX P w K mg base k x ps sp' := by
  obtain ⟨f, fd, F, r⟩ := c.ex
  exact ⟨f, fd, F.imp h, r⟩
end
section
variable {X : Cx} {k k' : Nat} {x : Str} {ps : List Str} {sp : Sp} {p pos : Pos} {e : Expr} {es : List Expr} {t : TA} {E : XK} {st : Stmt} {ds ds' : List Value} {dvs : List V}
theorem pe_calX (c : CalX X.prog X.w X.K X.mg X.base k x ps sp) (hx : Passes (CXf X.prog X.w) X E) (hr : Room k' X.A) (hk : k ≤ k') (hg : Gl X x) (ha : PA X (e :: es) t) (hdb : (x == ("__debug__" : Str)) = false := by decide) (he : starEach (e :: es) X.env = (false, eval e X.env) :: starEach es X.env := by rfl)
    (hpl : (backTo pos (starEach es X.env)).any (·.1) = false := by rfl) : PE X (.Call (.Name x p) (e :: es) [] pos) (tCall sp [] E t) := by
  obtain ⟨f, fd, F, m, kp, b⟩ := c.ex
  exact pe_call F (hr.mono hk) hg m kp b .nil hx ha hdb he hpl
theorem pex_calX (c : CalX X.prog X.w X.K X.mg X.base k x ps sp) (hX : X.ex = []) (hr : Room k' X.A) (hk : k ≤ k') (hg : Gl X x) (ha : PA X.nox (e :: es) t) (hdb : (x == ("__debug__" : Str)) = false := by decide) (he : starEach (e :: es) X.env = (false, eval e X.env) :: starEach es X.env := by rfl)
    (hpl : (backTo pos (starEach es X.env)).any (·.1) = false := by rfl) : PEx X (.Call (.Name x p) (e :: es) [] pos) (xCall sp [] t) := by
  obtain ⟨f, fd, F, m, kp, b⟩ := c.ex
  exact pex_call F (hr.mono hk) hg m kp b .nil hX ha hdb he hpl
theorem pe_nox {te : TE} (h : PE X.nox e te) : PE X e te := fun pins s σ H Q I q => by
  refine wpAny_mono (h pins s σ H Q (I.wish _) q) (fun v s1 ⟨y, H1, I1, r1, q1⟩ => ⟨y, H1, I1.unwish, r1, q1⟩) fun _ _ z => False.elim z
theorem r_raise {C : Addr} {D : Ends} {σ : St} {H : Hp} (q : t σ H fun vs H1 => vs.length ≤ sizeLine ∧ E (.ref C) none H1) : tRaise C E t D σ H := q
end
section
variable {P : Program} {w : World} {K : PySem.W.Frag} {mg : Str → Option Value} {base : Heap} {N : List Str} {qual : Str} {scope : Scope} {f : Addr} {cd : Value} {A : Around} {outer : List Env} {s0 : Shared} {H0 : Hp} {E : XK}
theorem raises_xe : Raises (cxOf (CXf P w) P w K mg base N qual scope f cd A outer s0 H0 E) E := fun pins σ H s h' e cls args I hx hE => raise_xe I hx hE
end
section
variable {X : Cx}
theorem pass_no : Passes (CXf X.prog X.w) X E0 := fun _ _ _ _ _ _ _ h => by obtain ⟨a, cls, H', _, _, _, _, _, _, hE⟩ := h; exact hE.elim
end
theorem bt_ValueError : bootBuiltins "ValueError" = some (.type "ValueError") := by decide +kernel
def plainE : Expr → Bool
  | .Starred .. => false
  | _ => true
theorem starEach_plain {e : Expr} {es : List Expr} {env : Env} (h : plainE e = true) : starEach (e :: es) env = (false, eval e env) :: starEach es env := by
  cases e <;> first | rfl | cases h
end L2

set_option maxRecDepth 100000
set_option maxHeartbeats 4000000
namespace L2
open PySem PySem.Spec PySem.Calls PyProof.Rows PySem.W Builtin Builtin.ObjectAttr Builtin.Getset_descriptor
structure ExcT (K : PySem.W.Frag) (C : Addr) : Prop where
  ga : PySem.W.findIn K (.ref C) "__getattribute__" = some (some (.builtin "BaseException.__getattribute__"))
  gh : PySem.W.findIn K (.ref C) "__getattr__" = some none
  ca : PySem.W.findIn K (.ref C) "__class__" = some (some (.builtin "object.__class__"))
  mo : PySem.W.mroIn K C (.type "object") = some true
  mb : PySem.W.mroIn K C (.type "BaseException") = some true
section
variable {prog : Program} {w : World} {A : Around} {E : Value → Shared → Prop} {h : Heap} {g : Array GenState} {d : PySem.Drawn} {t : Nat} {os : OsState} {K : PySem.W.Frag} {x C : Addr}
theorem xc_get {R : Result → Shared → Prop} {tp : Value} (X : K.In h) (L : ∀ M, Looks M h (typeOf (.ref x)) (.ref C)) (q : ExcT K C) (hq : R (.ok (.ret (.ref C))) ⟨h, g, d, t, os⟩) :
    codeAny (model prog w) A (.call (.builtin "getset_descriptor.__get__") ⟨[.builtin "object.__class__", .ref x, tp], []⟩) R ⟨h, g, d, t, os⟩ := by
  have L0 := L (model prog w)
  have L1 := looks_mroIn (M := model prog w) X q.mo
  refine codeAny_call_builtin KF.slot_gs.plain KF.entry_gs (KF.slot_gs.check _ _ _ _ _ _ _ _ KF.type_class (KF.args_gs _ _ _) ?_)
  unfold Builtin.«getset_descriptor.__get__» descrGet
  rw [dga_obj]
  refine wpAny_bind (wpAny_pure ?_)
  unfold descrGetter descrCheckInstance descrNameAndClass isInstance
  simp only [KF.owner_class]
  repeat lk
  refine ⟨Code.quiet_builtin _ (by decide +kernel), codeAny_builtin KF.entry_class ?_⟩
  unfold Builtin.«object.__class__» shownTypeOf
  repeat lk
  exact hq
theorem xc_entry {tk : Tok} {Q : Fin → Shared → Prop} (X : K.In h) (L : ∀ M, Looks M h (typeOf (.ref x)) (.ref C)) (q : ExcT K C) (hq : Q (.done (.ret (.ref C))) ⟨h, g, d, t, os⟩) :
    wpAny (model prog w) A (Builtin.«object.__getattribute__» ⟨[.ref x, .str "__class__" tk], []⟩) Q E ⟨h, g, d, t, os⟩ := by
  have L0 := L (model prog w)
  have L3 := looks_findIn (M := model prog w) X q.ca
  have f5 := F.typeOf_object_class
  have hT5 : (⟨h, g, d, t, os⟩ : Shared).TypeIs (.builtin "object.__class__") "getset_descriptor" := F.typeOf_object_class
  have f6 := F.slot_gs_get.lookup
  have f7 := F.slot_gs_set.lookup
  repeat (any_goals (first | assumption | with_reducible refine L0.at ?_ | with_reducible refine L3.at ?_ | wp_step))
  refine xc_get X L q ?_
  repeat (any_goals (first | assumption | wp_step))
theorem xc_check {M : Model} {nameV : Value} {Q : Unit → Shared → Prop} (X : K.In h) (L : ∀ M, Looks M h (typeOf (.ref x)) (.ref C)) (q : ExcT K C) (hq : Q () ⟨h, g, d, t, os⟩) : wpAny M A (checkBuiltinCall "BaseException.__getattribute__" ⟨[.ref x, nameV], []⟩) Q E ⟨h, g, d, t, os⟩ := by
  have hk : builtinKind "BaseException.__getattribute__" = some .slot := by decide +kernel
  have hsplit : splitId "BaseException.__getattribute__" = some ("BaseException", "__getattribute__") := by decide +kernel
  have ha := F.args_bexc_ga (.ref x) nameV
  have L0 := L M
  have L1 := looks_mroIn (M := M) X q.mb
  simp only [checkBuiltinCall, hk, hsplit]
  refine wpAny_bind ?_
  · unfold isInstance
    repeat (first | with_reducible refine L0.at ?_ | with_reducible refine L1.at ?_ | wp_step)
    exact hq
theorem xc_call {tk : Tok} {R : Result → Shared → Prop} (X : K.In h) (L : ∀ M, Looks M h (typeOf (.ref x)) (.ref C)) (q : ExcT K C) (hq : R (.ok (.ret (.ref C))) ⟨h, g, d, t, os⟩) :
    codeAny (model prog w) A (.call (.builtin "BaseException.__getattribute__") ⟨[.ref x, .str "__class__" tk], []⟩) R ⟨h, g, d, t, os⟩ :=
  codeAny_call_builtin F.attr_ValueError.ga.plain F.entry_bexc_ga (xc_check X L q (xc_entry X L q hq))
theorem xc_by {tk : Tok} {Q : Value → Shared → Prop} (X : K.In h) (L : ∀ M, Looks M h (typeOf (.ref x)) (.ref C)) (q : ExcT K C) (hq : Q (.ref C) ⟨h, g, d, t, os⟩) :
    wpAny (model prog w) A (getAttrBy (.ref x) (.str "__class__" tk) false) Q E ⟨h, g, d, t, os⟩ := by
  have f3 := F.attr_ValueError.ga.bind (.ref x)
  have hx2 : (Value.builtin "BaseException.__getattribute__" == Value.builtin "object.__getattribute__") = false := by decide +kernel
  have hx1 : (onTheHeap (Value.ref C) && Value.builtin "BaseException.__getattribute__" == Value.builtin "object.__getattribute__") = false := by rw [hx2]; rfl
  have L0 := L (model prog w)
  have L3 := looks_findIn (M := model prog w) X q.ga
  have L4 := looks_findIn (M := model prog w) X q.gh
  repeat (any_goals (first | assumption | with_reducible refine L0.at ?_ | with_reducible refine L3.at ?_ | with_reducible refine L4.at ?_ | wp_step))
  refine xc_call X L q ?_
  repeat (any_goals (first | assumption | wp_step))
theorem xc_attr {Q : Option Value → Shared → Prop} (X : K.In h) (L : ∀ M, Looks M h (typeOf (.ref x)) (.ref C)) (q : ExcT K C) (hq : Q (some (.ref C)) ⟨h, g, d, t + 1, os⟩) : wpAny (model prog w) A (getAttr? (.ref x) "__class__") Q E ⟨h, g, d, t, os⟩ := by
  unfold getAttr? getAttrBy?
  repeat (any_goals (first | assumption | with_reducible apply xc_by X L q | wp_step))
theorem isi_any {Q : Value → Shared → Prop} {c : Value} {b : Bool} (X : K.In h) (L : ∀ M, Looks M h (typeOf (.ref x)) (.ref C)) (q : ExcT K C) (e : PySem.W.kitOne K (.ref C) c = some b) (hq : ∀ t', Q (.bool b) ⟨h, g, d, t', os⟩) :
    wpAny (model prog w) A (call (.builtin "isinstance") [.ref x, c]) Q E ⟨h, g, d, t, os⟩ := by
  cases b with
  | true => exact isi_yes X L e (by intro z; cases z) (hq t)
  | false =>
    refine call_isinstance_of ?_ (by intro z; cases z)
    have LT := L (model prog w)
    unfold kitOne at e
    unfold Builtin.«isinstance.nested»
    refine wpAny_bind (LT.at ?_)
    by_cases z : ((Value.ref C) == c) = true
    · rw [if_pos z] at e; cases e
    · rw [if_neg z] at e
      rw [if_neg z]
      obtain ⟨hty, his, hsub⟩ := kit_cls (M := model prog w) X e
      have LI : Looks (model prog w) h (isInstance (.ref x) c) false := LT.andThen hsub
      have hisC : Looks (model prog w) h (isType (.ref C)) true := by
        have hm := q.mo
        unfold mroIn at hm
        cases hc : clsIn K C with
        | none => rw [hc] at hm; cases hm
        | some cd =>
          unfold clsIn at hc
          split at hc
          · rename_i c' d' cd' sl' ho
            intro A' Q' E' s' k q
            unfold isType loadHead
            exact wpAny_bind (wpAny_loadPart (k _ _ (X _ _ ho)) (wpAny_pure q))
          · cases hc
      refine wpAny_bind (hty.at ?_)
      rw [if_pos (by decide)]
      k_delta "plainIsInstance"
      refine wpAny_bind (wpAny_bind (his.at ?_))
      simp only [Bool.not_true, Bool.false_eq_true, if_false]
      refine wpAny_bind (LI.at ?_)
      simp only [Bool.false_eq_true, if_false]
      refine wpAny_bind (xc_attr X L q ?_)
      refine wpAny_bind (hisC.at ?_)
      simp only [Bool.not_true, Bool.false_eq_true, if_false]
      refine wpAny_bind (wpAny_rule ?_)
      refine hsub.at ?_
      first
        | exact wpAny_pure (hq _)
        | exact wpAny_pure (wpAny_pure (hq _))
        | exact wpAny_bind (wpAny_pure (wpAny_pure (hq _)))
end
def rIsiY (K : PySem.W.Frag) : List V → Hp → VK → Prop := fun xs H Q => ∃ a oe u C c cv b, xs = [.ref a, c] ∧ RelV c cv ∧ H a = some (.frz oe u) ∧ oe.cls = .ref C ∧ ExcT K C ∧ PySem.W.kitOne K (.ref C) cv = some b ∧ (∀ t, c ≠ .int t) ∧ (∀ t, c ≠ .str t) ∧ (∀ t, c ≠ .byt t) ∧ (∀ t, c ≠ .flt t) ∧ Q (.bl b) H
theorem call_isiY {X : Cx} : CallR X (.builtin "isinstance") (rIsiY X.K) := by
  intro pins s σ H xs us Q I r h
  obtain ⟨a, oe, uo, C, c, cv, b, rfl, rc, ea, ec, xt, e, n1, n2, n3, n4, q⟩ := h
  obtain ⟨u, v, rfl, rx, ry⟩ := vals2 r
  cases (show u = Value.ref a from rx)
  have ev : v = cv := by
    cases c with
    | non => exact (show v = .none from ry).trans (show cv = .none from rc).symm
    | bl b => exact (show v = .bool b from ry).trans (show cv = .bool b from rc).symm
    | int i => exact absurd rfl (n1 i)
    | str i => exact absurd rfl (n2 i)
    | byt i => exact absurd rfl (n3 i)
    | flt i => exact absurd rfl (n4 i)
    | ref b => exact (show v = .ref b from ry).trans (show cv = .ref b from rc).symm
    | ty n => exact (show v = .type n from ry).trans (show cv = .type n from rc).symm
  subst ev
  obtain ⟨ho, _⟩ := (show ObjOk X.prog X.w H s.heap a (.frz oe uo) from I.hok a _ ea)
  have L : ∀ M, PySem.W.Looks M s.heap (typeOf (.ref a)) (.ref C) := fun M => by rw [← ec]; exact (PySem.W.Looks.ld ho).andThen .now
  obtain ⟨h0, g, d, t, os⟩ := s
  exact isi_any I.kIn L xt e fun t' => ⟨.bl b, H, I.tok t', rfl, q⟩
theorem isiYK {X : Cx} (K : PySem.W.Frag) (hK : X.K = K := by rfl) : CallR X (.builtin "isinstance") (rIsiY K) := by subst hK; exact call_isiY
theorem r_isY {K : PySem.W.Frag} {H : Hp} {Q : VK} {a C D : Addr} {oe : Obj} {u : HO} {b : Bool} (h : H a = some (.frz oe u)) (ec : oe.cls = .ref C) (xt : ExcT K C) (e : PySem.W.kitOne K (.ref C) (.ref D) = some b) (q : Q (.bl b) H) : rIsiY K [.ref a, .ref D] H Q := ⟨a, oe, u, C, _, _, b, rfl, rfl, h, ec, xt, e, nofun, nofun, nofun, nofun, q⟩
theorem r_isYT {K : PySem.W.Frag} {H : Hp} {Q : VK} {a C : Addr} {T : String} {oe : Obj} {u : HO} {b : Bool} (h : H a = some (.frz oe u)) (ec : oe.cls = .ref C) (xt : ExcT K C) (e : PySem.W.kitOne K (.ref C) (.type T) = some b) (q : Q (.bl b) H) : rIsiY K [.ref a, .ty T] H Q := ⟨a, oe, u, C, _, _, b, rfl, rfl, h, ec, xt, e, nofun, nofun, nofun, nofun, q⟩
section
variable {X : Cx}
end
end L2

set_option maxRecDepth 100000
set_option maxHeartbeats 4000000
namespace L2
open PySem PySem.Spec PyProof.Rows
section
variable {X : Cx}
end
namespace RevT
section
variable {prog : Program} {w : World} {A : Around} {E : Value → Shared → Prop} {s : Shared} {J : Addr} {fp wr : List Addr} {G : Array GenState → Array GenState → Prop} {n : Nat} {P : Nat → Value → Prop} {St : Nat → Shared → Prop}
end
section
variable {prog : Program} {w : World} {A : Around} {E : Value → Shared → Prop} {s : Shared}
end
end RevT
section
variable {X : Cx} {e : Expr} {te : TE}
end
end L2

set_option maxRecDepth 100000
set_option maxHeartbeats 4000000
namespace L2
open PySem PySem.Spec PyProof.Rows
namespace MaxD
section
variable {prog : Program} {w : World} {A : Around} {R : Result → Shared → Prop} {J : Addr} {fp wr : List Addr} {G : Array GenState → Array GenState → Prop} {n : Nat} {P : Nat → Value → Prop} {St : Nat → Shared → Prop} {kw : List (Str × Value)}
theorem loop (Wk : WalksS prog w A.in1 J fp wr G n P St) (bt : Nat → Nat → Bool) (cm : CmpOf prog w A.in1 .Gt P bt) (B : Addr) (nf : B ∉ fp) :
    ∀ (k j : Nat) (s : Shared) (vb : Value) (c : Nat), n - (j + 1) = k → j + 1 ≤ n → St (j + 1) s → P (argBest bt j) vb →
    s.heap.get? B = some { cls := .type "list", dict := none, data := .seq #[vb, vb] c, slots := #[] } →
    (∀ v s', P (argBest bt (n - 1)) v → Moved (B :: wr) G s s' → R (.ok (.ret v)) s') → codeAny (model prog w) A (.builtin "max.loop" ⟨[.ref J, .none, .ref B], kw⟩) R s := by
  have nw : B ∉ wr := fun z => nf (Wk.sub _ z)
  have su : ∀ b ∈ wr, b ∈ B :: wr := fun b hb => List.mem_cons_of_mem _ hb
  have nm : (toString "max" ++ toString ".loop" : String) = "max.loop" := by decide
  have nB : ∀ {b : Addr}, b ∉ B :: wr → B ≠ b := fun hb z => hb (by rw [z]; exact List.mem_cons_self)
  intro k
  induction k with
  | zero =>
    intro j s vb c hk hj st pb at_ fin
    have hin : j + 1 = n := by omega
    refine codeAny_builtin F.entry_max_loop (by
      rw [Around.under_plainId F.plain_max_loop _]
      show wpAny _ A.in1 (seqItems? (.ref B) >>= _) _ _ s
      refine wpAny_bind (wpAny_seqItems at_ rfl ?_)
      show wpAny _ A.in1 (tryCatch (pyNext (.ref J)) _ >>= _) _ _ s
      refine wpAny_bind (wpAny_tryCatch (Wk.done s _ _ (hin ▸ st) fun s' mv => ?_))
      have at2 := mv.heap B _ nw at_
      show wpAny _ A.in1 (updateSeq B (fun _ => #[]) >>= _) _ _ _
      refine wpAny_bind (wpAny_updateSeq at2 rfl (wpAny_bind (wpAny_letGo (wpAny_pure ?_))))
      exact fin vb _ (by rw [← hin]; exact pb) ((mv.mono su).then_heap (tk := s'.toks) (Nat.le_refl _) fun b o hb e => (Heap.get?_update_other _ _ (nB hb)).trans e))
  | succ k ih =>
    intro j s vb c hk hj st pb at_ fin
    have hlt : j + 1 < n := by omega
    refine codeAny_builtin F.entry_max_loop (by
      rw [Around.under_plainId F.plain_max_loop _]
      show wpAny _ A.in1 (seqItems? (.ref B) >>= _) _ _ s
      refine wpAny_bind (wpAny_seqItems at_ rfl ?_)
      show wpAny _ A.in1 (tryCatch (pyNext (.ref J)) _ >>= _) _ _ s
      refine wpAny_bind (wpAny_tryCatch (Wk.item (j + 1) s _ _ hlt st fun v s' pv st' mv => ?_))
      have at2 := mv.heap B _ nw at_
      show wpAny _ A.in1 (tryCatch (holding [v, v] (richCompare .Gt v vb >>= _)) _ >>= _) _ _ _
      refine wpAny_bind (wpAny_tryCatch (wpAny_holding (wpAny_bind (cm (j + 1) (argBest bt j) v vb _ _ _ pv pb ?_))))
      refine wpAny_bind (wpAny_holding (wpAny_truthy_bool (wpAny_bind (wpAny_letGo (wpAny_pure ?_)))))
      cases hb : bt (j + 1) (argBest bt j) with
      | true =>
        simp only [if_true]
        refine wpAny_bind (wpAny_updateSeq at2 rfl (wpAny_bind (wpAny_letGo ?_)))
        rw [nm]
        refine wpAny_pure ⟨plainId_quiet F.plain_max_loop _, ih (j + 1) _ v _ (by omega) hlt (Wk.frame _ s' _ s'.toks st' (Nat.le_refl _) fun b hbf o e => (Heap.get?_update_other _ _ (fun z : B = b => nf (by rw [z]; exact hbf))).trans e) (by simp only [argBest, hb, if_true]; exact pv) (Heap.get?_update_self _ at2 rfl)
          fun v' s'' pv' mv' => fin v' s'' pv' (Moved.trans Wk.gtrans ((mv.mono su).then_heap (Nat.le_refl _) fun b o hb e => (Heap.get?_update_other _ _ (nB hb)).trans e) mv')⟩
      | false =>
        simp only [Bool.false_eq_true, if_false]
        refine wpAny_bind (wpAny_letGo ?_)
        rw [nm]
        exact wpAny_pure ⟨plainId_quiet F.plain_max_loop _, ih (j + 1) _ vb c (by omega) hlt st' (by simp only [argBest, hb, Bool.false_eq_true, if_false]; exact pb) at2 fun v' s'' pv' mv' => fin v' s'' pv' (Moved.trans Wk.gtrans (mv.mono su) mv')⟩)
theorem first {d : Value} {nmd : Str} (Wk : WalksS prog w A.in1 J fp wr G n P St) (bt : Nat → Nat → Bool) (cm : CmpOf prog w A.in1 .Gt P bt) (B : Addr) (nf : B ∉ fp) {s : Shared} {c : Nat} (st : St 0 s)
    (at_ : s.heap.get? B = some { cls := .type "list", dict := none, data := .seq #[] c, slots := #[] })
    (fin0 : n = 0 → ∀ s', Moved (B :: wr) G s s' → R (.ok (.ret d)) s') (fin : 0 < n → ∀ v s', P (argBest bt (n - 1)) v → Moved (B :: wr) G s s' → R (.ok (.ret v)) s') :
    codeAny (model prog w) A (.builtin "max.loop" ⟨[.ref J, .none, .ref B], [(nmd, d)]⟩) R s := by
  have nw : B ∉ wr := fun z => nf (Wk.sub _ z)
  have su : ∀ b ∈ wr, b ∈ B :: wr := fun b hb => List.mem_cons_of_mem _ hb
  have nm : (toString "max" ++ toString ".loop" : String) = "max.loop" := by decide
  have nB : ∀ {b : Addr}, b ∉ B :: wr → B ≠ b := fun hb z => hb (by rw [z]; exact List.mem_cons_self)
  refine codeAny_builtin F.entry_max_loop (by
    rw [Around.under_plainId F.plain_max_loop _]
    show wpAny _ A.in1 (seqItems? (.ref B) >>= _) _ _ s
    refine wpAny_bind (wpAny_seqItems at_ rfl ?_)
    show wpAny _ A.in1 (tryCatch (pyNext (.ref J)) _ >>= _) _ _ s
    by_cases hn : n = 0
    · refine wpAny_bind (wpAny_tryCatch (Wk.done s _ _ (hn ▸ st) fun s' mv => ?_))
      show wpAny _ A.in1 (rule _ >>= _) _ _ _
      exact wpAny_bind (wpAny_rule (wpAny_pure (fin0 hn s' (mv.mono su))))
    · refine wpAny_bind (wpAny_tryCatch (Wk.item 0 s _ _ (by omega) st fun v s' pv st' mv => ?_))
      have at2 := mv.heap B _ nw at_
      show wpAny _ A.in1 (updateSeq B (fun _ => #[v, v]) >>= _) _ _ _
      refine wpAny_bind (wpAny_updateSeq at2 rfl ?_)
      rw [nm]
      exact wpAny_pure ⟨plainId_quiet F.plain_max_loop _, loop Wk bt cm B nf _ 0 _ v _ rfl (by omega) (Wk.frame _ s' _ s'.toks st' (Nat.le_refl _) fun b hbf o e => (Heap.get?_update_other _ _ (fun z : B = b => nf (by rw [z]; exact hbf))).trans e) pv (Heap.get?_update_self _ at2 rfl) fun v' s'' pv' mv' => fin (by omega) v' s'' pv' (Moved.trans Wk.gtrans ((mv.mono su).then_heap (Nat.le_refl _) fun b o hb e => (Heap.get?_update_other _ _ (nB hb)).trans e) mv')⟩)
theorem tree_kw {id : String} {b : Builtin} {args : List Value} {E : Value → Shared → Prop} {s : Shared} {Q : Value → Shared → Prop} (hk : builtinKind id = none) (hp : plainId id = true) (hb : entryFor table id = some b) (ha : argsOk id ⟨args, kw⟩)
    (hc : wpAny (model prog w) A.in1 (b ⟨args, kw⟩) (fun fin s' => match fin with
      | .done f => (match (Except.ok f : Result) with | .ok (.ret v) => Q v s' | .ok _ => False | .error e => E e s')
      | .again c' => c'.quiet = true ∧ codeAny (model prog w) A c' (fun r s' => match r with | .ok (.ret v) => Q v s' | .ok _ => False | .error e => E e s') s') E s) :
    wpAny (model prog w) A (call (.builtin id) args kw) Q E s := by
  refine wpAny_call (codeAny_call_builtin hp hb ?_)
  simp only [checkBuiltinCall, hk]
  cases sg : Manifest.signature? id with
  | none => exact wpAny_pure hc
  | some sig =>
    simp only [argsOk, sg] at ha
    have e2 : Bind.checkArgs id sig ⟨args, kw⟩ = pure () := ha
    show wpAny _ A.in1 (Bind.checkArgs id sig ⟨args, kw⟩) _ _ s
    rw [e2]
    exact wpAny_pure hc
end
theorem args_maxD (a d : Value) : argsOk "max" ⟨[a], [(Str.ofString "default", d)]⟩ := by unfold argsOk; kernel_rfl
section
variable {prog : Program} {w : World} {A : Around} {E : Value → Shared → Prop} {s : Shared} {l : Addr} {xs : Array (Int × Tok)}
theorem call {d : Value} {Q : Value → Shared → Prop} (hh : A.handled = none) (hl : s.heap.IsList l (intItems xs))
    (h0 : xs.size = 0 → ∀ h' tk, (∀ b o, s.heap.get? b = some o → h'.get? b = some o) → Q d { s with heap := h', toks := tk })
    (h : 0 < xs.size → ∀ v h' tk, (intItems xs)[argBest (fun i j => decide (numAt xs i > numAt xs j)) (xs.size - 1)]? = some v → (∀ b o, s.heap.get? b = some o → h'.get? b = some o) → Q v { s with heap := h', toks := tk }) :
    wpAny (model prog w) A (PySem.call (.builtin "max") [.ref l] [(Str.ofString "default", d)]) Q E s := by
  have nm : (toString "max" ++ toString ".loop" : String) = "max.loop" := by decide
  refine tree_kw F.kind_max F.plain_max F.entry_max (args_maxD _ _) ?_
  show wpAny _ A.in1 (Builtin.Builtins.bindParams "max" ["key", "default"] 0 ⟨[], [(Str.ofString "default", d)]⟩ >>= _) _ _ s
  refine wpAny_bind (wpAny_of_eq (show Builtin.Builtins.bindParams "max" ["key", "default"] 0 ⟨[], [(Str.ofString "default", d)]⟩ = pure [none, some d] from rfl) ?_)
  refine wpAny_bind (wpAny_pure ?_)
  refine wpAny_bind (iter_intList hl fun s₂ e st hfp hlI => ?_)
  subst e
  refine wpAny_bind (wpAny_newObj_type ?_)
  rw [nm]
  have Wk := (Walks.list (prog := prog) (w := w) (A := A.in1) hh s.heap.objs.size l hlI (intItems xs)).toS
  have nf : (s.heap.push { cls := .type "list_iterator", data := .fields #[.ref l, .int 0 0] }).objs.size ∉ [s.heap.objs.size, l] := fun z => absurd (hfp _ z) (Nat.lt_irrefl _)
  have en : (intItems xs).size = xs.size := by simp [intItems]
  have out : ∀ s' : Shared, Moved [s.heap.objs.size] (fun a b => b = a) { s with heap := s.heap.push { cls := .type "list_iterator", data := .fields #[.ref l, .int 0 0] } } s' → ∃ h' tk, s' = { s with heap := h', toks := tk } ∧ ∀ b o, s.heap.get? b = some o → h'.get? b = some o := fun s' mv => by
    obtain ⟨m1, m2, m3, m4, m5⟩ := mv
    obtain ⟨h9, g9, d9, t9, o9⟩ := s'
    obtain ⟨h8, g8, d8, t8, o8⟩ := s
    dsimp only at m1 m2 m3 m4
    subst m2 m3 m4
    exact ⟨h9, t9, rfl, old_kept m1⟩
  refine wpAny_pure ⟨plainId_quiet F.plain_max_loop _, first (nmd := Str.ofString "default") Wk (fun i j => decide (numAt xs i > numAt xs j)) (CmpOf.ints_gt (numAt xs) (fun _ _ => intItems_at)) _ nf (Wk.frame 0 _ _ s.toks st (Nat.le_refl _) fun b _ o e => Heap.get?_push_of_some _ e) (Heap.get?_push_size _ rfl) (fun z s' mv => ?_) (fun z v s' pv mv => ?_)⟩
  · obtain ⟨h', tk, rfl, k⟩ := out s' (Moved.drop_new (tk := s.toks) mv (Nat.le_refl _))
    exact h0 (by omega) h' tk k
  · obtain ⟨h', tk, rfl, k⟩ := out s' (Moved.drop_new (tk := s.toks) mv (Nat.le_refl _))
    exact h (by omega) v h' tk (by rw [en] at pv; exact pv) k
end
end MaxD
section
variable {X : Cx} {e ed : Expr} {te td : TE}
end
section
variable {X : Cx}
end
mutual
inductive Shw (H : Hp) : V → PyData → Prop
  | str (z : Str) : Shw H (.str z) (.str z)
  | tup {p : Addr} {xs : List V} {ds : List PyData} (h : H p = some (.tup xs)) (a : ShwAll H xs ds) : Shw H (.ref p) (.tuple ds)
inductive ShwAll (H : Hp) : List V → List PyData → Prop
  | nil : ShwAll H [] []
  | cons {x : V} {xs : List V} {d : PyData} {ds : List PyData} (a : Shw H x d) (b : ShwAll H xs ds) : ShwAll H (x :: xs) (d :: ds)
end
section
variable {X : Cx} {pins : List (Addr × Obj)} {σ : St} {H : Hp} {s : Shared}
mutual
theorem Shw.reads (I : Inv X pins σ H s) : ∀ {x : V} {d : PyData}, Shw H x d → ∀ {u : Value}, RelV x u → Reads s.heap u d []
  | _, _, .str z, u, r => by obtain ⟨t, rfl⟩ := r; exact .str z t
  | _, _, .tup h a, u, r => by
    cases r
    obtain ⟨_, its, rv, o, ho, hc, n, hd⟩ := (show ObjOk X.prog X.w H s.heap _ (.tup _) from I.hok _ _ h)
    exact .tuple ho hc hd (by simpa using a.reads I rv)
theorem ShwAll.reads (I : Inv X pins σ H s) : ∀ {xs : List V} {ds : List PyData}, ShwAll H xs ds → ∀ {us : List Value}, Vals xs us → ReadsAll s.heap us ds []
  | _, _, .nil, us, r => by cases r; exact .nil
  | _, _, .cons a b, us, r => by
    cases r with
    | cons r1 r2 => exact ReadsAll.cons (as := []) (bs := []) (a.reads I r1) (b.reads I r2)
end
end
end L2

set_option maxRecDepth 100000
set_option maxHeartbeats 4000000
namespace L2
open PySem PySem.Spec PyProof.Rows
open AutoSeq1 (wpAny_loadPart')
namespace Tix
end Tix
section
variable {X : Cx}
end
end L2

set_option maxRecDepth 100000
set_option maxHeartbeats 4000000
namespace Pn
inductive Pl where
  | nd
  | one (w : Nat) (t : Pl)
  | two (w : Nat) (a b : Pl)
def Pl.dp : Pl → Nat
  | .nd => 0
  | .one _ t => t.dp + 1
  | .two _ a b => max a.dp b.dp + 1
def cP : Nat → Int
  | 0 => 1
  | d + 1 => 1 + 3 * cP d + 3 * cP d * cP d
def num : Nat → Pl → Int
  | _, .nd => 0
  | d, .one w t => 1 + (w : Int) * cP (d - 1) + num (d - 1) t
  | d, .two w a b => 1 + 3 * cP (d - 1) + (((w : Int) * cP (d - 1) + num (d - 1) a) * cP (d - 1) + num (d - 1) b)
def un : Nat → Int → Pl
  | 0, _ => .nd
  | d + 1, n => if n = 0 then .nd else if n - 1 < 3 * cP d then .one ((n - 1) / cP d).toNat (un d ((n - 1) % cP d))
    else .two ((n - 1 - 3 * cP d) / (cP d * cP d)).toNat (un d ((n - 1 - 3 * cP d) / cP d % cP d)) (un d ((n - 1 - 3 * cP d) % cP d))
open PySem L2
def w1 (w : Nat) : Str := if w = 0 then "walk" else if w = 1 then "drop" else "spare"
def w2 (w : Nat) : Str := if w = 0 then "lock" else if w = 1 then "door" else "bar"
def Pl.sz : Pl → Nat
  | .nd => 0
  | .one _ t => t.sz + 1
  | .two _ a b => a.sz + b.sz + 1
def Pl.kids : Pl → List Pl
  | .nd => []
  | .one _ t => [t]
  | .two _ a b => [a, b]
def Pl.word : Pl → Str
  | .nd => "end"
  | .one w _ => w1 w
  | .two w _ _ => w2 w
def Pl.is (H : Hp) : Pl → V → Prop
  | .nd, v => ∃ p, v = .ref p ∧ H p = some (.tup [.str "end"])
  | .one w t, v => ∃ p u, v = .ref p ∧ H p = some (.tup [.str (w1 w), u]) ∧ t.is H u
  | .two w a b, v => ∃ p u1 u2, v = .ref p ∧ H p = some (.tup [.str (w2 w), u1, u2]) ∧ a.is H u1 ∧ b.is H u2
theorem Pl.mono {H H' : Hp} (s : TSame H H') : ∀ {t : Pl} {v : V}, t.is H v → t.is H' v
  | .nd, _, ⟨p, e, h⟩ => ⟨p, e, s _ _ h⟩
  | .one _ _, _, ⟨p, u, e, h, a⟩ => ⟨p, u, e, s _ _ h, Pl.mono s a⟩
  | .two _ _ _, _, ⟨p, u1, u2, e, h, a, b⟩ => ⟨p, u1, u2, e, s _ _ h, Pl.mono s a, Pl.mono s b⟩
theorem Pl.opened {H : Hp} : ∀ {t : Pl} {v : V}, t.is H v → ∃ p us, v = .ref p ∧ H p = some (.tup (.str t.word :: us)) ∧ us.length = t.kids.length ∧ ∀ (i : Nat) (u : V), us[i]? = some u → ∃ k : Pl, t.kids[i]? = some k ∧ k.is H u
  | .nd, _, ⟨p, e, h⟩ => ⟨p, [], e, h, rfl, fun i u z => by simp at z⟩
  | .one _ t, _, ⟨p, u, e, h, a⟩ => ⟨p, [u], e, h, rfl, fun i v z => by
      match i, z with
      | 0, z => cases z; exact ⟨t, rfl, a⟩⟩
  | .two _ x y, _, ⟨p, u1, u2, e, h, a, b⟩ => ⟨p, [u1, u2], e, h, rfl, fun i v z => by
      match i, z with
      | 0, z => cases z; exact ⟨x, rfl, a⟩
      | 1, z => cases z; exact ⟨y, rfl, b⟩⟩
end Pn

set_option maxRecDepth 100000
set_option maxHeartbeats 4000000
namespace Pn
end Pn
namespace L2
open PySem PySem.Spec PyProof.Rows
open Builtin.Int (intBits)
section
variable {X : Cx}
end
theorem bits_in {x : Int} : ∀ l : List Int, x ∈ l → intBits x ≤ PySem.W.WData.weightAll (l.map PySem.W.WData.int)
  | [], h => by cases h
  | y :: l, h => by
    rw [List.map_cons, PySem.W.WData.weightAll]
    rcases List.mem_cons.mp h with rfl | h
    · have : PySem.W.WData.weight (.int x) = intBits x := by rw [PySem.W.WData.weight]; rfl
      omega
    · have := bits_in l h
      omega
theorem bits_of {ns : List Int} (h : PySem.W.WData.layableAll [.list (ns.map .int)] = true) : ∀ x ∈ ns, intBits x ≤ 1048576 := by
  intro x hx
  have h1 : PySem.W.WData.layable (.list (ns.map .int)) = true := by simpa [PySem.W.WData.layableAll] using h
  have h2 := of_decide_eq_true (Bool.and_eq_true_iff.mp h1).2
  have h3 : PySem.W.WData.weight (.list (ns.map .int)) = PySem.W.WData.weightAll (ns.map .int) := by rw [PySem.W.WData.weight]
  have := bits_in ns hx
  omega
open PySem PySem.W PySem.Calls PyProof.Rows Att in
/-- walk_of, where the promise may use that a script's numbers have bounded bits -/
theorem walk_ofB {l : PySem.W.OpenLaw} {n k : Nat} {q : Program} {loose : List Str} {XP : (Str → Option Value) → Heap → Prop} {YP : World → Heap → Prop} {d : DefRec} {K : Params → PySem.W.Frag} {CX : World → CXT} {sp : World → Sp} {x : Str}
    (hn : l.most = some n) (hn2 : n ≤ sizeLine) (hdf : d.params.defaults = []) (hr : Room k callerA)
    (hY : ∀ (w : World) (h : Heap), YP w h → (K w.params).In h)
    (F : ∀ (w : World) (mg : Str → Option Value) (fa : Addr) (h : Heap), (K w.params).In h → h.Ns mainGlobals mg → mg d.name = some (.ref fa) →
      ∃ fd : FuncData, (∀ (s : Shared) (u : Value), BindsTo s fd ⟨[u], []⟩ [(x, u)]) ∧
        ∀ base : Heap, (K w.params).In base → base.Ns mainGlobals mg → FnOk l.prog w (K w.params) mg base (CX w) k fa fd [x] (sp w))
    (hsp : ∀ (w : World) (H : Hp) (a : Addr) (ns : List Int), ns.length ≤ n → (∀ x ∈ ns, Builtin.Int.intBits x ≤ 1048576) → Only H → SqL (K w.params) H a (ns.map V.int) → sp w [.ref a] H (fun v _ => v = .bl true) fun _ _ _ => False)
    (hCX : ∀ (w : World) (H : Hp) (s : Shared) (e : Value) (s' : Shared), CX w [] H s (fun _ _ _ => False) e s' → False) :
    PySem.W.WalkO q loose XP YP l.row.toRowW d [] (fun f vs => PySem.call f vs) := by
  intro w s₀ s₁ mg mb G Y fa o pm cd doc dV kV ho hd hcd hD hmg hg args vals as hpre hlay hrd hwl hlo
  obtain rfl : dV = .none := Dflts.none hD hdf
  obtain rfl : kV = .none := Dflts.noKw hD
  obtain ⟨a, vs, ns, rfl, rfl, hobj, hints, hlen⟩ := script_of hn hpre hwl
  have hbits := bits_of hlay
  have KX := hY w _ Y
  obtain ⟨fd, hb, hF⟩ := F w mg fa _ KX G.T.g hmg
  have call : codeAny (model l.prog w) callerA (.call (.ref fa) ⟨[.ref a], []⟩) (fun r s' => r = .ok (.ret (.bool true)) ∧ OldK s₁.heap s'.heap ∧ s'.os = s₁.os ∧ AllBare s'.gens) s₁ :=
    law_call KX G.T.g G.T.b G.T.builtins G.T.nolimit hg hobj hints (Nat.le_trans hlen hn2) hr hF hb (fun H hO hS => hsp w H a ns hlen hbits hO hS) fun H e s' => hCX w H s₁ e s'
  refine enter_call (codeAny_mono call fun r s' hq => ?_)
  obtain ⟨rfl, h2, h3, h4⟩ := hq
  exact ⟨.inl ⟨.bool true, .bool true, [], rfl, fun _ => rfl, .bool true, post_true l _, fun _ => ⟨List.Pairwise.nil, fun _ hm => (nomatch hm)⟩⟩, h2, h3, h4⟩
end L2

set_option maxRecDepth 100000
set_option maxHeartbeats 4000000
namespace L2
open PySem PySem.Spec PyProof.Rows
section
variable {X : Cx} {e : Expr} {te : TE}
theorem bt_set : bootBuiltins "set" = some (.type "set") := by decide +kernel
def dif (ns : List Int) : Nat := (firstMet (fun i => ns.getD i 0) ns.length).length
def tLenSet (K : PySem.W.Frag) (te : TE) : TE := fun σ H Q => te σ H fun v H1 => ∃ a ns, v = .ref a ∧ SqL K H1 a (ns.map V.int) ∧ ns.length ≤ 50 ∧ Q (.int (dif ns)) H1
theorem pe_lenSet {p1 p2 pos1 pos2 : Pos} (K : PySem.W.Frag) (hc : X.calm = true) (hg1 : Gl X "len") (hm1 : X.mg "len" = none) (hg2 : Gl X "set") (hm2 : X.mg "set" = none) (he : PE X e te) (hp : plainE e = true := by rfl) (hK : X.K = K := by rfl) :
    PE X (.Call (.Name "len" p1) [.Call (.Name "set" p2) [e] [] pos2] [] pos1) (tLenSet K te) := by
  subst hK
  intro pins s σ H Q I h
  refine wpAny_Call_Name_kw (ld_blt I hg1 hm1 bt_len ?_ (by decide) (by decide))
  refine PyProof.Rows.callWith_builtin1 ?_ rfl rfl
  show wpAny _ _ (spliced [(false, eval (.Call (.Name "set" p2) [e] [] pos2) X.env)]) _ _ s
  refine Calls.spliced_cons ?_
  refine wpAny_Call_Name_kw (ld_blt I hg2 hm2 bt_set ?_ (by decide) (by decide))
  refine PyProof.Rows.callWith_type1 ?_ (starEach_plain hp) rfl
  rw [starEach_plain hp]
  show wpAny _ _ (spliced [(false, eval e X.env)]) _ _ s
  refine Calls.spliced_cons (thn (he pins s σ H _ I h) fun u s1 ⟨x, H1, I1, r1, p, ns, hx, hq, hl, q⟩ => ?_)
  subst hx
  cases r1
  refine Calls.spliced_nil ?_
  obtain ⟨its, rv, pl, hz⟩ := I1.list hq
  have hi := intsAre_of rv
  have hn := rv.length
  rw [List.length_map] at hn
  have hsb : 100 < scanBound := by decide +kernel
  refine PySem.call_set_list (ns := ns) (I1.ok.hd hc) pl.isList (by simpa using hi) (by rw [List.size_toArray]; omega) fun h' tk hS k => ?_
  refine Calls.spliced_nil ?_
  have ez : its.toArray.size = ns.length := by rw [List.size_toArray, hn]
  rw [ez] at hS
  have hd := firstMet_length_le (fun i => ns.getD i 0) ns.length
  have I2 : Inv X pins σ H1 { s1 with heap := h', toks := tk } := I1.kept fun b o z => k b o (Heap.lt_size z) z
  obtain ⟨o, es, ep, tb, ho, rest⟩ := hS
  obtain ⟨hex, hd', _, _, _, hf, hn'⟩ := rest
  refine call_len_set ho hex hd' hf (by omega) ?_
  exact ⟨.int (dif ns), H1, I2.tok _, ⟨_, by rw [hn']; rfl⟩, q⟩
end
theorem fold_dif : ∀ (l a : List Int), (l.foldl step_dedup a).length ≤ a.length + l.length ∧ ((l.foldl step_dedup a).length = a.length + l.length ↔ l.Nodup ∧ ∀ x ∈ l, x ∉ a)
  | [], a => ⟨Nat.le_refl _, by simp⟩
  | y :: l, a => by
    rw [List.foldl_cons]
    obtain ⟨h1, h2⟩ := fold_dif l (step_dedup a y)
    by_cases hy : y ∈ a
    · have e : step_dedup a y = a := by
        unfold step_dedup
        rw [if_pos (List.any_eq_true.mpr ⟨y, hy, by simp⟩)]
      rw [e] at h1 h2 ⊢
      refine ⟨by rw [List.length_cons]; omega, ⟨fun z => ?_, fun z => absurd hy (z.2 y (by simp))⟩⟩
      rw [List.length_cons] at z
      omega
    · have e : step_dedup a y = a ++ [y] := by
        unfold step_dedup
        rw [if_neg]
        intro z
        obtain ⟨x, hx, ex⟩ := List.any_eq_true.mp z
        have ex' : x = y := by simpa using ex
        exact hy (ex' ▸ hx)
      rw [e] at h1 h2 ⊢
      rw [List.length_append, List.length_singleton] at h1 h2
      rw [List.length_cons]
      refine ⟨by omega, ?_⟩
      rw [show a.length + (l.length + 1) = a.length + 1 + l.length by omega, h2, List.nodup_cons]
      constructor
      · rintro ⟨n, k⟩
        refine ⟨⟨fun z => k y z (by simp), n⟩, fun x hx => ?_⟩
        rcases List.mem_cons.mp hx with rfl | hx
        · exact hy
        · exact fun z => k x hx (List.mem_append_left _ z)
      · rintro ⟨⟨n1, n2⟩, k⟩
        refine ⟨n2, fun x hx z => ?_⟩
        rcases List.mem_append.mp z with z | z
        · exact k x (List.mem_cons_of_mem _ hx) z
        · exact n1 ((List.mem_singleton.mp z) ▸ hx)
theorem dif_eq {ns : List Int} : dif ns = ns.length ↔ ns.Nodup := by
  have e : (List.range ns.length).map (fun i => ns.getD i 0) = ns := by
    refine List.ext_getElem (by simp) fun i h1 h2 => ?_
    simp [List.getD, h2]
  have h := (fold_dif ns []).2
  unfold dif firstMet
  rw [e]
  simpa using h
end L2

set_option maxRecDepth 100000
set_option maxHeartbeats 4000000
namespace PySem
open Sem (wp)
section
variable {prog : Program} {w : World} {A : Around} {E : Value → Shared → Prop} {s : Shared}

theorem zipM_item {z TI TO i1 i2 t1 t2 : Addr} {k : Nat} {xs ys : Array Value} {x y a b : Value} {Q : Value → Shared → Prop} (D : ZipApart z TI TO i1 i2 t1 t2) (Z0 : IsZip s.heap z TI TO .none) (PI0 : IsPair s.heap TI (.ref i1) (.ref i2)) (PO0 : IsPair s.heap TO a b)
    (w1 : s.heap.IsListIter i1 t1 k) (w2 : s.heap.IsTupleIter i2 t2 k) (p1 : s.heap.IsList t1 xs) (p2 : s.heap.IsTuple t2 ys) (ex : xs[k]? = some x) (ey : ys[k]? = some y)
    (fin : ∀ h', IsZip h' z TI TO (rawInt s.heap.objs.size) → IsPair h' TO x y → h'.IsListIter i1 t1 (k + 1) → h'.IsTupleIter i2 t2 (k + 1) → IsPair h' s.heap.objs.size x y →
      (∀ c o, c ≠ z → c ≠ TO → c ≠ i1 → c ≠ i2 → s.heap.get? c = some o → h'.get? c = some o) → Q (.ref s.heap.objs.size) { s with heap := h' }) :
    wpAny (model prog w) A (Builtin.«zip.__next__» ⟨[.ref z], []⟩) (fun fn s' => ∃ v, fn = .done (.ret v) ∧ Q v s') E s := by
  show wpAny _ _ (field (.ref z) 2 >>= _) _ _ _
  refine wpAny_bind (wpAny_field Z0 rfl (x := .bool false) rfl ?_)
  show wpAny _ _ (field (.ref z) 3 >>= _) _ _ _
  refine wpAny_bind (wpAny_field Z0 rfl (x := .ref TI) rfl (wpAny_bind (wpAny_seqItems PI0 rfl ?_)))
  show wpAny _ _ (Builtin.SmallTypes.ownedTupleIsFree (.ref z) >>= _) _ _ _
  refine wpAny_bind ?_
  unfold Builtin.SmallTypes.ownedTupleIsFree
  refine wpAny_bind (wpAny_field Z0 rfl (x := .none) rfl (wpAny_pure ?_))
  simp only [if_true]
  refine wpAny_bind (wpAny_rule (wpAny_bind (wpAny_field Z0 rfl (x := .ref TO) rfl ?_)))
  refine wpAny_bind (wpAny_setField_rec Z0 (by simp) fun g1 Z1 b1 => ?_)
  replace Z1 : IsZip g1 z TI TO .ellipsis := Z1
  refine wpAny_bind ?_
  simp only [List.zipIdx_cons, List.zipIdx_nil, List.forIn_cons, List.forIn_nil]
  refine wpAny_bind (wpAny_bind (wpAny_onRaise ?_))
  show wpAny _ _ (Builtin.SmallTypes.nextOf (.ref i1) >>= _) _ _ _
  refine wpAny_bind (wpAny_nextOf_list_item (w1.extBut b1.extBut D.i1z) (p1.extBut b1.extBut D.l1z) ex fun g2 v1 b2 => wpAny_pure ?_)
  have PO2 : IsPair g2 TO a b := b2.extBut _ _ D.TOi1 (b1.extBut _ _ D.TOz PO0)
  refine wpAny_bind (wpAny_seqItems PO2 rfl (wpAny_bind (wpAny_updateSeq_pair PO2 fun g3 PO3 b3 => ?_)))
  replace PO3 : IsPair g3 TO x b := PO3
  refine wpAny_bind (wpAny_letGo (wpAny_pure (wpAny_bind (wpAny_bind (wpAny_onRaise ?_)))))
  show wpAny _ _ (Builtin.SmallTypes.nextOf (.ref i2) >>= _) _ _ _
  have w2' : g3.IsTupleIter i2 t2 k := ((w2.extBut b1.extBut D.i2z).extBut b2.extBut D.i12.symm).extBut b3.extBut D.TOi2.symm
  have p2' : g3.IsTuple t2 ys := ((p2.extBut b1.extBut D.l2z).extBut b2.extBut D.l2i1).extBut b3.extBut D.l2TO
  refine wpAny_bind (nextOf_tup w2' p2' ey fun g4 v2 b4 => wpAny_pure ?_)
  have PO4 : IsPair g4 TO x b := b4.extBut _ _ D.TOi2 PO3
  refine wpAny_bind (wpAny_seqItems PO4 rfl (wpAny_bind (wpAny_updateSeq_pair PO4 fun g5 PO5 b5 => ?_)))
  replace PO5 : IsPair g5 TO x y := PO5
  refine wpAny_bind (wpAny_letGo (wpAny_pure (wpAny_pure ?_)))
  refine wpAny_bind (wpAny_seqItems PO5 rfl (wpAny_bind (wpAny_newTuple ?_)))
  have e5 : g5.objs.size = s.heap.objs.size := by rw [b5.1, b4.1, b3.1, b2.1, b1.1]
  have Z5 : IsZip g5 z TI TO .ellipsis := b5.extBut _ _ D.TOz.symm (b4.extBut _ _ D.i2z.symm (b3.extBut _ _ D.TOz.symm (b2.extBut _ _ D.i1z.symm Z1)))
  have k5 : ∀ c o, c ≠ z → c ≠ TO → c ≠ i1 → c ≠ i2 → s.heap.get? c = some o → g5.get? c = some o := fun c o c1 c2 c3 c4 q => b5.extBut _ _ c2 (b4.extBut _ _ c4 (b3.extBut _ _ c2 (b2.extBut _ _ c3 (b1.extBut _ _ c1 q))))
  have u1 : g5.IsListIter i1 t1 (k + 1) := ((v1.extBut b3.extBut D.TOi1.symm).extBut b4.extBut D.i12).extBut b5.extBut D.TOi1.symm
  have u2 : g5.IsTupleIter i2 t2 (k + 1) := v2.extBut b5.extBut D.TOi2.symm
  have lz : z < g5.objs.size := Heap.lt_size Z5
  show wpAny _ _ (Builtin.SmallTypes.ownedTupleHandOut (.ref z) (.ref g5.objs.size) >>= _) _ _ _
  refine wpAny_bind ?_
  unfold Builtin.SmallTypes.ownedTupleHandOut
  have Z6 : IsZip (g5.push { cls := .type "tuple", data := .seq #[x, y] }) z TI TO .ellipsis := Heap.get?_push_of_some _ Z5
  refine wpAny_bind (wpAny_setField_rec Z6 (by simp) fun g7 Z7 b7 => ?_)
  replace Z7 : IsZip g7 z TI TO (rawInt g5.objs.size) := Z7
  refine wpAny_setField_rec Z7 (by simp) fun g8 Z8 b8 => ?_
  replace Z8 : IsZip g8 z TI TO (rawInt g5.objs.size) := Z8
  have up : ∀ c o, c ≠ z → g5.get? c = some o → g8.get? c = some o := fun c o c1 q => b8.extBut _ _ c1 (b7.extBut _ _ c1 (Heap.get?_push_of_some _ q))
  have T8 : IsPair g8 g5.objs.size x y := b8.extBut _ _ (Nat.ne_of_gt lz) (b7.extBut _ _ (Nat.ne_of_gt lz) (Heap.get?_push_size _ rfl))
  rw [e5] at Z8 T8
  refine wpAny_pure ⟨_, rfl, ?_⟩
  show Q (.ref g5.objs.size) _
  rw [e5]
  exact fin g8 Z8 (up _ _ D.TOz PO5) (u1.at fun o q => up _ o D.i1z q) (u2.at2 fun o q => up _ o D.i2z q) T8 fun c o c1 c2 c3 c4 q => up c o c1 (k5 c o c1 c2 c3 c4 q)

theorem zipM_end {z TI TO i1 i2 t1 t2 : Addr} {k : Nat} {xs ys : Array Value} {a b : Value} {Q : Fin → Shared → Prop} (hh : A.handled = none) (D : ZipApart z TI TO i1 i2 t1 t2) (Z0 : IsZip s.heap z TI TO .none) (PI0 : IsPair s.heap TI (.ref i1) (.ref i2)) (PO0 : IsPair s.heap TO a b)
    (w1 : s.heap.IsListIter i1 t1 k) (w2 : s.heap.IsTupleIter i2 t2 k) (p1 : s.heap.IsList t1 xs) (p2 : s.heap.IsTuple t2 ys) (over : xs[k]? = none ∨ ys[k]? = none)
    (fin : ∀ h' e, (∀ c o, c ≠ z → c ≠ TO → c ≠ i1 → c ≠ i2 → s.heap.get? c = some o → h'.get? c = some o) → (∃ o, h'.get? e = some o ∧ o.cls = .type "StopIteration") → E (.ref e) { s with heap := h' }) :
    wpAny (model prog w) A (Builtin.«zip.__next__» ⟨[.ref z], []⟩) Q E s := by
  show wpAny _ _ (field (.ref z) 2 >>= _) _ _ _
  refine wpAny_bind (wpAny_field Z0 rfl (x := .bool false) rfl ?_)
  show wpAny _ _ (field (.ref z) 3 >>= _) _ _ _
  refine wpAny_bind (wpAny_field Z0 rfl (x := .ref TI) rfl (wpAny_bind (wpAny_seqItems PI0 rfl ?_)))
  show wpAny _ _ (Builtin.SmallTypes.ownedTupleIsFree (.ref z) >>= _) _ _ _
  refine wpAny_bind ?_
  unfold Builtin.SmallTypes.ownedTupleIsFree
  refine wpAny_bind (wpAny_field Z0 rfl (x := .none) rfl (wpAny_pure ?_))
  simp only [if_true]
  refine wpAny_bind (wpAny_rule (wpAny_bind (wpAny_field Z0 rfl (x := .ref TO) rfl ?_)))
  refine wpAny_bind (wpAny_setField_rec Z0 (by simp) fun g1 Z1 b1 => ?_)
  replace Z1 : IsZip g1 z TI TO .ellipsis := Z1
  refine wpAny_bind ?_
  simp only [List.zipIdx_cons, List.zipIdx_nil, List.forIn_cons, List.forIn_nil]
  refine wpAny_bind (wpAny_bind (wpAny_onRaise ?_))
  show wpAny _ _ (Builtin.SmallTypes.nextOf (.ref i1) >>= _) _ _ _
  cases ex : xs[k]? with
  | none =>
    refine wpAny_bind (wpAny_nextOf_list_end hh (w1.extBut b1.extBut D.i1z) (p1.extBut b1.extBut D.l1z) ex fun g2 e b2 ee => ?_)
    obtain ⟨oe, he, ce⟩ := ee
    have Z2 : IsZip g2 z TI TO .ellipsis := b2 _ _ D.i1z.symm Z1
    have nz : e ≠ z := fun q => by subst q; rw [Z2] at he; cases he; simp at ce
    exact wpAny_setField_rec Z2 (by simp) fun g3 _ b3 => fin g3 e (fun c o c1 _ c3 _ q => b3.extBut _ _ c1 (b2 _ _ c3 (b1.extBut _ _ c1 q))) ⟨oe, b3.extBut _ _ nz he, ce⟩
  | some x =>
    have ey : ys[k]? = none := by rcases over with q | q; rw [ex] at q; cases q; exact q
    refine wpAny_bind (wpAny_nextOf_list_item (w1.extBut b1.extBut D.i1z) (p1.extBut b1.extBut D.l1z) ex fun g2 v1 b2 => wpAny_pure ?_)
    have PO2 : IsPair g2 TO a b := b2.extBut _ _ D.TOi1 (b1.extBut _ _ D.TOz PO0)
    refine wpAny_bind (wpAny_seqItems PO2 rfl (wpAny_bind (wpAny_updateSeq_pair PO2 fun g3 PO3 b3 => ?_)))
    refine wpAny_bind (wpAny_letGo (wpAny_pure (wpAny_bind (wpAny_bind (wpAny_onRaise ?_)))))
    show wpAny _ _ (Builtin.SmallTypes.nextOf (.ref i2) >>= _) _ _ _
    have w2' : g3.IsTupleIter i2 t2 k := ((w2.extBut b1.extBut D.i2z).extBut b2.extBut D.i12.symm).extBut b3.extBut D.TOi2.symm
    have p2' : g3.IsTuple t2 ys := ((p2.extBut b1.extBut D.l2z).extBut b2.extBut D.l2i1).extBut b3.extBut D.l2TO
    refine wpAny_bind (nextOf_tup_end hh w2' p2' ey fun g4 e b4 ee => ?_)
    obtain ⟨oe, he, ce⟩ := ee
    have Z4 : IsZip g4 z TI TO .ellipsis := b4 _ _ D.i2z.symm (b3.extBut _ _ D.TOz.symm (b2.extBut _ _ D.i1z.symm Z1))
    have nz : e ≠ z := fun q => by subst q; rw [Z4] at he; cases he; simp at ce
    exact wpAny_setField_rec Z4 (by simp) fun g5 _ b5 => fin g5 e (fun c o c1 c2 c3 c4 q => b5.extBut _ _ c1 (b4 _ _ c4 (b3.extBut _ _ c2 (b2.extBut _ _ c3 (b1.extBut _ _ c1 q))))) ⟨oe, b5.extBut _ _ nz he, ce⟩

theorem next_zipM {z TI TO i1 i2 t1 t2 : Addr} {k : Nat} {xs ys : Array Value} {x y a b : Value} {Q : Option Value → Shared → Prop} (D : ZipApart z TI TO i1 i2 t1 t2) (Z0 : IsZip s.heap z TI TO .none) (PI0 : IsPair s.heap TI (.ref i1) (.ref i2)) (PO0 : IsPair s.heap TO a b)
    (w1 : s.heap.IsListIter i1 t1 k) (w2 : s.heap.IsTupleIter i2 t2 k) (p1 : s.heap.IsList t1 xs) (p2 : s.heap.IsTuple t2 ys) (ex : xs[k]? = some x) (ey : ys[k]? = some y)
    (fin : ∀ h', IsZip h' z TI TO (rawInt s.heap.objs.size) → IsPair h' TO x y → h'.IsListIter i1 t1 (k + 1) → h'.IsTupleIter i2 t2 (k + 1) → IsPair h' s.heap.objs.size x y →
      (∀ c o, c ≠ z → c ≠ TO → c ≠ i1 → c ≠ i2 → s.heap.get? c = some o → h'.get? c = some o) → Q (some (.ref s.heap.objs.size)) { s with heap := h' }) :
    wpAny (model prog w) A (pyNext (.ref z)) Q E s := by
  have ty : s.TypeIs (.ref z) "zip" := ⟨_, Z0, rfl⟩
  unfold pyNext
  exact wpAny_bind (wpAny_attempt (wpAny_callSpecial?_slot (name := Str.ofString "__next__") ty F.slot_zip_next (wpAny_call_entry F.slot_zip_next ty F.entry_zip_next
    (zipM_item D Z0 PI0 PO0 w1 w2 p1 p2 ex ey fun h' a1 a2 a3 a4 a5 a6 => wpAny_pure (fin h' a1 a2 a3 a4 a5 a6)) (F.args_zip_next_1 _))))
theorem next_zipM_end {z TI TO i1 i2 t1 t2 : Addr} {k : Nat} {xs ys : Array Value} {a b : Value} {Q : Option Value → Shared → Prop} (hh : A.handled = none) (D : ZipApart z TI TO i1 i2 t1 t2) (Z0 : IsZip s.heap z TI TO .none) (PI0 : IsPair s.heap TI (.ref i1) (.ref i2)) (PO0 : IsPair s.heap TO a b)
    (w1 : s.heap.IsListIter i1 t1 k) (w2 : s.heap.IsTupleIter i2 t2 k) (p1 : s.heap.IsList t1 xs) (p2 : s.heap.IsTuple t2 ys) (over : xs[k]? = none ∨ ys[k]? = none)
    (fin : ∀ h', (∀ c o, c ≠ z → c ≠ TO → c ≠ i1 → c ≠ i2 → s.heap.get? c = some o → h'.get? c = some o) → Q none { s with heap := h' }) : wpAny (model prog w) A (pyNext (.ref z)) Q E s := by
  have ty : s.TypeIs (.ref z) "zip" := ⟨_, Z0, rfl⟩
  unfold pyNext
  refine wpAny_bind (wpAny_attempt (wpAny_callSpecial?_slot (name := Str.ofString "__next__") ty F.slot_zip_next (wpAny_call_entry F.slot_zip_next ty F.entry_zip_next (zipM_end hh D Z0 PI0 PO0 w1 w2 p1 p2 over fun h' e hk he => ?_) (F.args_zip_next_1 _))))
  obtain ⟨o, ho, hc⟩ := he
  exact wpAny_bind (wpAny_isInstance (T := "StopIteration") (b := true) ⟨o, ho, hc⟩ isSubtype_stop (wpAny_pure (fin _ hk)))
end

abbrev zM1 (h : Heap) (t1 : Addr) : Heap := h.push { cls := .type "list_iterator", data := .fields #[.ref t1, .int 0 0] }
abbrev zM2 (h : Heap) (t1 t2 : Addr) : Heap := (zM1 h t1).push { cls := .type "tuple_iterator", data := .fields #[.ref t2, .int 0 0] }
abbrev zM3 (h : Heap) (t1 t2 : Addr) : Heap := (zM2 h t1 t2).push { cls := .type "tuple", data := .seq #[.ref h.objs.size, .ref (zM1 h t1).objs.size] }
abbrev zM4 (h : Heap) (t1 t2 : Addr) : Heap := (zM3 h t1 t2).push { cls := .type "tuple", data := .seq #[.none, .none] }
abbrev zM5 (h : Heap) (t1 t2 : Addr) : Heap := (zM4 h t1 t2).push { cls := .type "zip", data := .fields #[.none, .bool false, .bool false, .ref (zM2 h t1 t2).objs.size, .ref (zM3 h t1 t2).objs.size] }
theorem meets_zip_newM (t1 t2 : Addr) (xs ys : Array Value) :
    Meets (Builtin.«zip.__new__» ⟨[.type "zip", .ref t1, .ref t2], []⟩) (fun _ R s => s.heap.IsList t1 xs ∧ s.heap.IsTuple t2 ys ∧ R (.ok (.ret (.ref (zM4 s.heap t1 t2).objs.size))) { s with heap := zM5 s.heap t1 t2 }) :=
  .of_wp fun prog w A R s h => by
    obtain ⟨hp, g, d, tk, os⟩ := s; obtain ⟨q1, q2, h⟩ := h
    have hsub := sub_zip
    have T1 : Heap.IsList (Shared.heap ⟨hp, g, d, tk, os⟩) t1 xs := q1
    have T2 : Heap.IsTuple (Shared.heap ⟨hp.push { cls := .type "list_iterator", data := .fields #[.ref t1, .int 0 0] }, g, d, tk, os⟩) t2 ys := Heap.IsTuple.push q2 _
    wp_walk using wpAny_pyIter_list T1, wpAny_pyIter_tuple T2
    exact ⟨_, rfl, h⟩
section
variable {prog : Program} {w : World} {A : Around} {E : Value → Shared → Prop} {s : Shared}
theorem call_zipM {t1 t2 : Addr} {xs ys : Array Value} {Q : Value → Shared → Prop} (q1 : s.heap.IsList t1 xs) (q2 : s.heap.IsTuple t2 ys)
    (h : ∀ h', IsZip h' (s.heap.objs.size + 4) (s.heap.objs.size + 2) (s.heap.objs.size + 3) .none → IsPair h' (s.heap.objs.size + 2) (.ref s.heap.objs.size) (.ref (s.heap.objs.size + 1)) →
      IsPair h' (s.heap.objs.size + 3) .none .none → h'.IsListIter s.heap.objs.size t1 0 → h'.IsTupleIter (s.heap.objs.size + 1) t2 0 →
      (∀ c o, s.heap.get? c = some o → h'.get? c = some o) → Q (.ref (s.heap.objs.size + 4)) { s with heap := h' }) :
    wpAny (model prog w) A (call (.type "zip") [.ref t1, .ref t2]) Q E s := by
  refine callType_new F.called_zip (by decide) (F.typeCall_zip_2 _ _) (F.newCall_zip_2 _ _) (fun obj => F.args_object_init_3 obj _ _) F.entry_zip_new (meets_zip_newM t1 t2 xs ys) ⟨q1, q2, ?_⟩
  have z1 : (zM1 s.heap t1).objs.size = s.heap.objs.size + 1 := Heap.size_push ..
  have z2 : (zM2 s.heap t1 t2).objs.size = s.heap.objs.size + 2 := by rw [Heap.size_push, z1]
  have z3 : (zM3 s.heap t1 t2).objs.size = s.heap.objs.size + 3 := by rw [Heap.size_push, z2]
  have z4 : (zM4 s.heap t1 t2).objs.size = s.heap.objs.size + 4 := by rw [Heap.size_push, z3]
  have g5 : (zM5 s.heap t1 t2).get? (zM4 s.heap t1 t2).objs.size = some _ := Heap.get?_push_size _ rfl
  have g4 : (zM5 s.heap t1 t2).get? (zM3 s.heap t1 t2).objs.size = some _ := Heap.get?_push_of_some _ (Heap.get?_push_size _ rfl)
  have g3 : (zM5 s.heap t1 t2).get? (zM2 s.heap t1 t2).objs.size = some _ := Heap.get?_push_of_some _ (Heap.get?_push_of_some _ (Heap.get?_push_size _ rfl))
  have g2 : (zM5 s.heap t1 t2).get? (zM1 s.heap t1).objs.size = some _ := Heap.get?_push_of_some _ (Heap.get?_push_of_some _ (Heap.get?_push_of_some _ (Heap.get?_push_size _ rfl)))
  have g1 : (zM5 s.heap t1 t2).get? s.heap.objs.size = some _ := Heap.get?_push_of_some _ (Heap.get?_push_of_some _ (Heap.get?_push_of_some _ (Heap.get?_push_of_some _ (Heap.get?_push_size _ rfl))))
  show _ ∧ _
  rw [z2, z3, z4] at g5
  rw [z1, z2] at g3
  rw [z3] at g4
  rw [z1] at g2
  rw [z4]
  exact ⟨⟨_, g5, rfl⟩, h _ g5 g3 g4 ⟨_, g1, rfl, rfl⟩ ⟨_, g2, rfl, rfl⟩ fun c o q => Heap.get?_push_of_some _ (Heap.get?_push_of_some _ (Heap.get?_push_of_some _ (Heap.get?_push_of_some _ (Heap.get?_push_of_some _ q))))⟩
end
end PySem

namespace L2
open PySem PySem.Spec PyProof.Rows
def ItzM (K : PySem.W.Frag) (a b : Addr) : It :=
  ⟨fun i H => ∃ xs ys x y, SqL K H a xs ∧ SqT K H b ys ∧ xs[i]? = some x ∧ ys[i]? = some y, fun i H v H' => ∃ T, H T = none ∧ v = .ref T ∧ ∀ xs ys x y, SqL K H a xs → SqT K H b ys → xs[i]? = some x → ys[i]? = some y → H' = upd H T (.tup [x, y]),
    fun i H => ∃ xs ys, SqL K H a xs ∧ SqT K H b ys ∧ (xs.length ≤ i ∨ ys.length ≤ i)⟩
theorem turn_zipM {P : Program} {w : World} {K : PySem.W.Frag} {elts : List Expr} {k : Nat} {tp : Pos} (a b z TI TO i1 i2 : Addr) (D : ZipApart z TI TO i1 i2 a b) :
    Turn P w K (.Tuple elts k tp) (ItzM K a b) [z, TI, TO, i1, i2] z (fun i h => IsZip h z TI TO .none ∧ IsPair h TI (.ref i1) (.ref i2) ∧ (∃ u v, IsPair h TO u v) ∧ h.IsListIter i1 a i ∧ h.IsTupleIter i2 b i) where
  mem := by simp
  obj := fun i h st c hc => by
    obtain ⟨q1, q2, ⟨u, v, q3⟩, ⟨o4, q4, _, d4⟩, ⟨o5, q5, _, d5⟩⟩ := st
    simp only [List.mem_cons, List.not_mem_nil, or_false] at hc
    rcases hc with rfl | rfl | rfl | rfl | rfl
    · exact ⟨_, q1, fun v z => by cases z⟩
    · exact ⟨_, q2, fun v z => by cases z⟩
    · exact ⟨_, q3, fun v z => by cases z⟩
    · exact ⟨_, q4, fun v z => by rw [d4] at z; cases z⟩
    · exact ⟨_, q5, fun v z => by rw [d5] at z; cases z⟩
  keep := fun i h h' st kk => by
    obtain ⟨q1, q2, ⟨u, v, q3⟩, q4, q5⟩ := st
    exact ⟨kk z (by simp) _ q1, kk TI (by simp) _ q2, ⟨u, v, kk TO (by simp) _ q3⟩, q4.at fun o q => kk i1 (by simp) o q, q5.at2 fun o q => kk i2 (by simp) o q⟩
  item := by
    intro X hP hw hK hc i pins s σ H E I hf st hg
    subst hP hw hK
    obtain ⟨xs, ys, x, y, hqa, hqb, hx, hy⟩ := hg
    obtain ⟨q1, q2, ⟨u0, v0, q3⟩, q4, q5⟩ := st
    obtain ⟨ia, ra, pa, hza⟩ := I.list hqa
    obtain ⟨ib, rb, pb, hzb⟩ := I.tuple hqb
    have pa : s.heap.IsList a ia.toArray := pa.isList
    have pb : s.heap.IsTuple b ib.toArray := pb
    obtain ⟨u, hu, ru⟩ := ra.get hx
    obtain ⟨v, hv, rv⟩ := rb.get hy
    refine next_zipM D q1 q2 q3 q4 q5 pa pb (x := u) (y := v) (by simpa using hu) (by simpa using hv) fun h' a1 a2 a3 a4 a5 kk => ?_
    have kf : ∀ c o, c ∉ [z, TI, TO, i1, i2] → s.heap.get? c = some o → h'.get? c = some o := fun c o hcc q => kk c o (fun e => hcc (by simp [e])) (fun e => hcc (by simp [e])) (fun e => hcc (by simp [e])) (fun e => hcc (by simp [e])) q
    have ne : ∀ c ∈ [z, TI, TO, i1, i2], c ≠ s.heap.objs.size := fun c hcc => by
      obtain ⟨o4, e4, _⟩ := q4
      obtain ⟨o5, e5, _⟩ := q5
      simp only [List.mem_cons, List.not_mem_nil, or_false] at hcc
      rcases hcc with rfl | rfl | rfl | rfl | rfl
      · exact Nat.ne_of_lt (Heap.lt_size q1)
      · exact Nat.ne_of_lt (Heap.lt_size q2)
      · exact Nat.ne_of_lt (Heap.lt_size q3)
      · exact Nat.ne_of_lt (Heap.lt_size e4)
      · exact Nat.ne_of_lt (Heap.lt_size e5)
    have I1 : Inv X pins σ (upd H s.heap.objs.size (.tup [x, y])) { s with heap := h', toks := s.toks } := I.yields (vals := [u, v]) hf kf (Nat.le_refl _) ⟨_, a5, rfl, _, rfl⟩ (.cons ru (.cons rv .nil)) (by show 2 ≤ sizeLine; decide)
    have hf1 := fp_upd (o := .tup [x, y]) hf ne
    refine ⟨_, rfl, wpAny_letOwnedTupleGo_zip a1 fun h'' Z2 sb => ?_⟩
    have I2 : Inv X pins σ (upd H s.heap.objs.size (.tup [x, y])) { s with heap := h'', toks := s.toks } := I1.turnedL (t' := s.toks) hf1 fun c o hcc q => (sb.2 c fun e => hcc (by simp [e])).trans q
    refine ⟨.ref s.heap.objs.size, _, I2, rfl, ⟨_, I.hok.fresh (Nat.le_refl _), rfl, fun xs' ys' x' y' hxs hys hx' hy' => ?_⟩, ⟨Z2, sb.extBut _ _ D.TIz (kk _ _ D.TIz D.TITO D.TIi1 D.TIi2 q2), ⟨u, v, sb.extBut _ _ D.TOz a2⟩, a3.extBut sb.extBut D.i1z, a4.extBut sb.extBut D.i2z⟩, fun c hcc => (hf1 c hcc).1⟩
    have e1 := I.list_inj hxs hqa
    have e2 := I.tuple_inj hys hqb
    subst e1 e2
    rw [hx] at hx'; rw [hy] at hy'
    rw [Option.some.inj hx', Option.some.inj hy']
  done := by
    intro X hP hw hK hc i pins s σ H E I hf st hg
    subst hP hw hK
    obtain ⟨xs, ys, hqa, hqb, over⟩ := hg
    obtain ⟨q1, q2, ⟨u0, v0, q3⟩, q4, q5⟩ := st
    obtain ⟨ia, ra, pa, hza⟩ := I.list hqa
    obtain ⟨ib, rb, pb, hzb⟩ := I.tuple hqb
    have la := ra.length
    have lb := rb.length
    refine next_zipM_end (I.ok.hd hc) D q1 q2 q3 q4 q5 pa.isList (show s.heap.IsTuple b ib.toArray from pb) ?_ fun h' kk => ⟨rfl, I.turnedL (t' := s.toks) hf fun c o hcc q => kk c o (fun e => hcc (by simp [e])) (fun e => hcc (by simp [e])) (fun e => hcc (by simp [e])) (fun e => hcc (by simp [e])) q⟩
    rcases over with q | q
    · exact .inl (by simp; omega)
    · exact .inr (by simp; omega)
  self := fun _ _ _ _ _ st h => wpAny_pyIter_zip st.1 h

section
variable {X : Cx} {elts : List Expr} {k : Nat} {tp : Pos}
def iZipM (K : PySem.W.Frag) (ta : TA) : TI := fun σ H R => ta σ H fun vs H1 => ∃ a b, vs = [.ref a, .ref b] ∧ (∃ xs, SqL K H1 a xs) ∧ (∃ ys, SqT K H1 b ys) ∧ R (ItzM K a b) H1
theorem pi_zipM {a b : Expr} {ta : TA} {p pos : Pos} (hg : Gl X "zip") (hm : X.mg "zip" = none) (ha : PA X [a, b] ta) (hs : starEach [a, b] X.env = [(false, eval a X.env), (false, eval b X.env)] := by rfl) (hs2 : starEach [b] X.env = [(false, eval b X.env)] := by rfl) :
    PI X (.Tuple elts k tp) (.Call (.Name "zip" p) [a, b] [] pos) (iZipM X.K ta) := by
  intro pins s σ H R I h
  refine Call_ (ld_blt I hg hm boot_zip (PyProof.Rows.callWith_type1 (thn (ha pos pins s σ H _ I h) fun us s1 ⟨vs, H1, I1, r1, q1⟩ => ?_) (by rw [hs, hs2]) (by rw [hs2]; rfl)))
  obtain ⟨t1, t2, e, ⟨xs, hqa⟩, ⟨ys, hqb⟩, q⟩ := q1
  subst e
  obtain ⟨u, v, rfl, rx, ry⟩ := vals2 r1
  cases rx
  cases ry
  obtain ⟨ia, ra, pa, hza⟩ := I1.list hqa
  obtain ⟨ib, rb, pb, hzb⟩ := I1.tuple hqb
  have pa : s1.heap.IsList t1 ia.toArray := pa.isList
  have pb : s1.heap.IsTuple t2 ib.toArray := pb
  have l1 : t1 < s1.heap.objs.size := by obtain ⟨o, q, _⟩ := pa; exact Heap.lt_size q
  have l2 : t2 < s1.heap.objs.size := by obtain ⟨o, q, _⟩ := pb; exact Heap.lt_size q
  refine call_zipM pa pb fun h' a1 a2 a3 a4 a5 kk => wpAny_pyIter_zip a1 ?_
  refine ⟨_, [s1.heap.objs.size + 4, s1.heap.objs.size + 2, s1.heap.objs.size + 3, s1.heap.objs.size, s1.heap.objs.size + 1], _, _, H1, rfl, I1.kept (t' := s1.toks) kk, turn_zipM t1 t2 _ _ _ _ _ (zipApart_new l1 l2), ⟨a1, a2, ⟨_, _, a3⟩, a4, a5⟩, fun c hc => ?_, q⟩
  have up : ∀ n, FpOk X pins H1 (s1.heap.objs.size + n) := fun n => I1.fpOk (Nat.le_add_right _ _) (I1.hok.fresh (Nat.le_add_right _ _))
  simp only [List.mem_cons, List.not_mem_nil, or_false] at hc
  rcases hc with rfl | rfl | rfl | rfl | rfl
  · exact up 4
  · exact up 2
  · exact up 3
  · exact up 0
  · exact up 1
theorem pi_zipMK {a b : Expr} {t : TA} {p pos : Pos} (K : PySem.W.Frag) (hg : Gl X "zip") (hm : X.mg "zip" = none) (ha : PA X [a, b] t) (h : X.K = K := by rfl) (hs : starEach [a, b] X.env = [(false, eval a X.env), (false, eval b X.env)] := by rfl) (hs2 : starEach [b] X.env = [(false, eval b X.env)] := by rfl) :
    PI X (.Tuple elts k tp) (.Call (.Name "zip" p) [a, b] [] pos) (iZipM K t) := by subst h; exact pi_zipM hg hm ha hs hs2
end
theorem comp_zipM {K : PySem.W.Frag} {a b : Addr} {g : TG} {tc : TT} {te : TE} {R : Hp → Prop} {σ : St} {H : Hp} {D : Addr} (xs ys : List V) (hl : xs.length = ys.length) (Pv : Nat → St → Hp → Prop) (h0 : Pv 0 σ H) (hx : ∀ i σ H, Pv i σ H → SqL K H a xs) (hy : ∀ i σ H, Pv i σ H → SqT K H b ys)
    (go : ∀ i x y σ H T, xs[i]? = some x → ys[i]? = some y → Pv i σ H → H T = none → g (.ref T) σ (upd H T (.tup [x, y])) fun σ3 H3 => tc σ3 H3 fun b H4 =>
      if b = true then te σ3 H4 fun y H5 => ∃ ys, H5 D = some (.lst ys) ∧ ys.length < sizeLine ∧ Pv (i + 1) σ3 (upd H5 D (.lst (ys ++ [y]))) else Pv (i + 1) σ3 H4) (stop : ∀ σ H, Pv xs.length σ H → R H) : CompG (ItzM K a b) g tc te R D σ H :=
  comp_by xs.length Pv h0 (fun i σ H hi p => ⟨⟨xs, ys, xs[i], ys[i], hx i σ H p, hy i σ H p, by simp [hi], by simp [show i < ys.length by omega]⟩, fun x H' ⟨T, e1, e2, e3⟩ => by
    subst e2
    rw [e3 xs ys xs[i] ys[i] (hx i σ H p) (hy i σ H p) (by simp [hi]) (by simp [show i < ys.length by omega])]
    exact go i _ _ σ H T (by simp [hi]) (by simp [show i < ys.length by omega]) p e1⟩) fun σ H p => ⟨⟨xs, ys, hx _ σ H p, hy _ σ H p, .inl (Nat.le_refl _)⟩, stop σ H p⟩
end L2

set_option maxRecDepth 100000
set_option maxHeartbeats 4000000
namespace Mine
open PySem L2
def top (i : Nat) : Stmt := PySem.Challenge.pw_delve_k55_cellars_dealt.main.body.getD i (.Pass ⟨0, 0, 0, 0⟩)
abbrev s_within : Stmt := top 13
abbrev s_changed : Stmt := top 14
abbrev s_dealt : Stmt := top 20
abbrev s_check_kinds : Stmt := top 21
abbrev s_check_places : Stmt := top 22
abbrev s_check_dealing : Stmt := top 23
abbrev s_kinds_of : Stmt := top 24
abbrev s__law_cell : Stmt := top 26
abbrev s__law_gate : Stmt := top 27
abbrev s__law_cellar : Stmt := top 28
abbrev s__law_dealing : Stmt := top 29
abbrev s__law_no_deal : Stmt := top 30
abbrev s__law_rooms : Stmt := top 31
abbrev s__law_refused : Stmt := top 32
abbrev s__law_wrong : Stmt := top 33
abbrev s__law_alike : Stmt := top 34
abbrev s_law : Stmt := top 35
theorem sc_within : FnScope ["number", "least", "most"] ["number", "least", "most"] (defScope s_within) := ⟨rfl, rfl, rfl, by decide +kernel, rfl, by decide +kernel, by decide +kernel⟩
theorem sc_changed : FnScope ["parts", "place", "part"] ["parts", "place", "part"] (defScope s_changed) := ⟨rfl, rfl, rfl, by decide +kernel, rfl, by decide +kernel, by decide +kernel⟩
theorem sc_dealt : FnScope ["cellar", "places", "dealing", "things"] ["cellar", "places", "dealing"] (defScope s_dealt) := ⟨rfl, rfl, rfl, by decide +kernel, rfl, by decide +kernel, by decide +kernel⟩
theorem sc_check_kinds : FnScope ["kinds", "kind"] ["kinds"] (defScope s_check_kinds) := ⟨rfl, rfl, rfl, by decide +kernel, rfl, by decide +kernel, by decide +kernel⟩
theorem sc_check_places : FnScope ["cellar", "places", "room"] ["cellar", "places"] (defScope s_check_places) := ⟨rfl, rfl, rfl, by decide +kernel, rfl, by decide +kernel, by decide +kernel⟩
theorem sc_check_dealing : FnScope ["dealing"] ["dealing"] (defScope s_check_dealing) := ⟨rfl, rfl, rfl, by decide +kernel, rfl, by decide +kernel, by decide +kernel⟩
theorem sc_kinds_of : FnScope ["dealing"] ["dealing"] (defScope s_kinds_of) := ⟨rfl, rfl, rfl, by decide +kernel, rfl, by decide +kernel, by decide +kernel⟩
theorem sc__law_cell : FnScope ["_law_script", "_law_k"] ["_law_script", "_law_k"] (defScope s__law_cell) := ⟨rfl, rfl, rfl, by decide +kernel, rfl, by decide +kernel, by decide +kernel⟩
theorem sc__law_gate : FnScope ["_law_cell_here", "_law_kind", "_law_some"] ["_law_cell_here"] (defScope s__law_gate) := ⟨rfl, rfl, rfl, by decide +kernel, rfl, by decide +kernel, by decide +kernel⟩
theorem sc__law_cellar : FnScope ["_law_script", "_law_cell_here", "_law_rooms_here", "_law_lists", "_law_k", "_law_room", "_law_other", "_law_ways", "_law_things", "_law_levers", "_law_wheels", "_law_ends", "_law_more"] ["_law_script"] (defScope s__law_cellar) := ⟨rfl, rfl, rfl, by decide +kernel, rfl, by decide +kernel, by decide +kernel⟩
theorem sc__law_dealing : FnScope ["_law_script", "_law_first", "_law_size", "_law_few", "_law_found", "_law_k", "_law_cell_here"] ["_law_script", "_law_first", "_law_size"] (defScope s__law_dealing) := ⟨rfl, rfl, rfl, by decide +kernel, rfl, by decide +kernel, by decide +kernel⟩
theorem sc__law_no_deal : FnScope ["_law_caught", "_law_some"] ["_law_caught"] (defScope s__law_no_deal) := ⟨rfl, rfl, rfl, by decide +kernel, rfl, by decide +kernel, by decide +kernel⟩
theorem sc__law_rooms : FnScope ["_law_one", "_law_cell_here", "_law_left", "_law_found", "_law_k"] ["_law_one", "_law_cell_here"] (defScope s__law_rooms) := ⟨rfl, rfl, rfl, by decide +kernel, rfl, by decide +kernel, by decide +kernel⟩
theorem sc__law_refused : FnScope ["_law_one", "_law_rooms_here", "_law_dealing_here", "_law_caught", "e"] ["_law_one", "_law_rooms_here", "_law_dealing_here"] (defScope s__law_refused) := ⟨rfl, rfl, rfl, by decide +kernel, rfl, by decide +kernel, by decide +kernel⟩
theorem sc__law_wrong : FnScope ["_law_one", "_law_rooms_here", "_law_dealing_here", "_law_cell_here", "_law_way", "_law_at", "_law_other"] ["_law_one", "_law_rooms_here", "_law_dealing_here", "_law_cell_here"] (defScope s__law_wrong) := ⟨rfl, rfl, rfl, by decide +kernel, rfl, by decide +kernel, by decide +kernel⟩
theorem sc__law_alike : FnScope ["_law_found", "_law_due", "_law_k"] ["_law_found", "_law_due"] (defScope s__law_alike) := ⟨rfl, rfl, rfl, by decide +kernel, rfl, by decide +kernel, by decide +kernel⟩
theorem sc_law : FnScope ["_law_script", "_law_one", "_law_rooms_here", "_law_dealing_here", "_law_things", "_law_due", "_law_handed", "_law_k", "_law_wrong_here"] ["_law_script"] (defScope s_law) := ⟨rfl, rfl, rfl, by decide +kernel, rfl, by decide +kernel, by decide +kernel⟩
structure Txt (mg : Str → Option Value) : Prop where
  n_ValueError : mg "ValueError" = none
  n_bool : mg "bool" = none
  n_int : mg "int" = none
  n_isinstance : mg "isinstance" = none
  n_len : mg "len" = none
  n_list : mg "list" = none
  n_max : mg "max" = none
  n_min : mg "min" = none
  n_range : mg "range" = none
  n_set : mg "set" = none
  n_str : mg "str" = none
  n_tuple : mg "tuple" = none
  n_zip : mg "zip" = none
  e_LAST_KIND : ∃ t, mg "LAST_KIND" = some (.int 11 t)
  e_MOST_KINDS : ∃ t, mg "MOST_KINDS" = some (.int 8 t)
  e_MOST_PLACES : ∃ t, mg "MOST_PLACES" = some (.int 14 t)
  e_ROOMS : ∃ t, mg "ROOMS" = some (.int 0 t)
  e_THINGS : ∃ t, mg "THINGS" = some (.int 4 t)
structure Xs where
  DelveError : Addr
  NoCellar : Addr
  NoDeal : Addr
  NoDeed : Addr
  NoPlan : Addr
  NoRow : Addr
  NoText : Addr
  Shut : Addr
  TooMany : Addr
  Wide : Addr
structure Tx (K : PySem.W.Frag) (mg : Str → Option Value) (xs : Xs) : Prop where
  at_DelveError : mg "DelveError" = some (.ref xs.DelveError)
  at_NoCellar : mg "NoCellar" = some (.ref xs.NoCellar)
  at_NoDeal : mg "NoDeal" = some (.ref xs.NoDeal)
  at_NoDeed : mg "NoDeed" = some (.ref xs.NoDeed)
  at_NoPlan : mg "NoPlan" = some (.ref xs.NoPlan)
  at_NoRow : mg "NoRow" = some (.ref xs.NoRow)
  at_NoText : mg "NoText" = some (.ref xs.NoText)
  at_Shut : mg "Shut" = some (.ref xs.Shut)
  at_TooMany : mg "TooMany" = some (.ref xs.TooMany)
  at_Wide : mg "Wide" = some (.ref xs.Wide)
  ex_NoDeal : ExcC K xs.NoDeal
  mo_NoDeal_0 : PySem.W.exmOne K (.ref xs.NoDeal) (.ref xs.DelveError) = some true
  is_NoDeal_NoCellar : PySem.W.kitOne K (.ref xs.NoDeal) (.ref xs.NoCellar) = some false
  is_NoDeal_NoDeal : PySem.W.kitOne K (.ref xs.NoDeal) (.ref xs.NoDeal) = some true
  is_NoDeal_NoDeed : PySem.W.kitOne K (.ref xs.NoDeal) (.ref xs.NoDeed) = some false
  is_NoDeal_NoPlan : PySem.W.kitOne K (.ref xs.NoDeal) (.ref xs.NoPlan) = some false
  is_NoDeal_NoRow : PySem.W.kitOne K (.ref xs.NoDeal) (.ref xs.NoRow) = some false
  is_NoDeal_NoText : PySem.W.kitOne K (.ref xs.NoDeal) (.ref xs.NoText) = some false
  is_NoDeal_Shut : PySem.W.kitOne K (.ref xs.NoDeal) (.ref xs.Shut) = some false
  is_NoDeal_TooMany : PySem.W.kitOne K (.ref xs.NoDeal) (.ref xs.TooMany) = some false
  is_NoDeal_ValueError : PySem.W.kitOne K (.ref xs.NoDeal) (.type "ValueError") = some true
  is_NoDeal_Wide : PySem.W.kitOne K (.ref xs.NoDeal) (.ref xs.Wide) = some false
  xt_NoDeal : ExcT K xs.NoDeal
-- ROOM 9
local macro_rules | `(tactic| walk_at "ne") => `(tactic| refine ifd (fun h => absurd h (by decide +kernel)) (fun _ => ?_))
local macro_rules | `(tactic| walk_at "eq") => `(tactic| refine ifd (fun _ => ?_) (fun h => absurd rfl h))
local macro_rules | `(tactic| walk_at "at") => `(tactic| first | rfl | exact atI0 | exact atI_off (by assumption) | exact atI_nat (by assumption) | assumption)
local macro_rules | `(tactic| walk_at "hp") => `(tactic| first | with_reducible assumption | with_reducible exact upd_same | ((with_reducible apply up_keep); (rotate_left; (with_reducible assumption)); walk_at "hp") | exact upd_same)
local macro_rules | `(tactic| walk_at "sq") => `(tactic| first | with_reducible assumption | ((with_reducible apply SqT.of); walk_at "hp") | ((with_reducible apply SqL.of); walk_at "hp") | ((with_reducible refine' Same.seq ?s ?h); (case h => with_reducible assumption); (case s => walk_at "sm")) | ((with_reducible refine' Same.tup ?s ?h); (case h => with_reducible assumption); (case s => walk_at "sm")))
local macro_rules | `(tactic| walk_at "sm") => `(tactic| first | with_reducible assumption | with_reducible exact Same.refl _ | ((with_reducible refine Same.trans ?_ (Same.upd (by assumption))); walk_at "sm"))
local macro_rules | `(tactic| walk_at "side") => `(tactic| first | assumption | omega | (exact ⟨by omega, by omega⟩) | (exact Or.inl ⟨by omega, by omega⟩) | (exact Or.inr ⟨by omega, by omega⟩) | (exact ⟨by omega, by omega, by omega⟩) | (exact ⟨by omega, by omega, by decide⟩) | (exact ⟨⟨by omega, by omega⟩, by omega, by omega⟩))
local macro_rules | `(tactic| walk_at "rd1") => `(tactic| first | ((with_reducible refine' r_var ?h ?_); (case h => rfl)) | with_reducible refine' r_op ?_ | with_reducible refine' r_c ?_ | with_reducible refine' r_cons ?_ | with_reducible refine' r_nil ?_ | with_reducible refine' r_seq ?_ | with_reducible refine' r_asg ?_ | with_reducible refine' r_name ?_ | with_reducible refine' r_call ?_ | with_reducible refine' r_cb ?_ | with_reducible refine' r_I0 ?_ | with_reducible refine' r_test ?_ | with_reducible refine' r_bl ?_ | with_reducible refine' r_B ?_ | with_reducible refine' r_ifS ?_ | with_reducible refine' r_ret ?_ | with_reducible refine' r_eqI ?_ | with_reducible refine' r_eqS ?_ | with_reducible refine' r_eqB ?_ | with_reducible refine' r_neI ?_ | with_reducible refine' r_neS ?_ | with_reducible refine' r_neB ?_ | with_reducible refine' r_and ?_ | with_reducible refine' r_or ?_ | with_reducible refine' r_not ?_ | with_reducible refine' r_un ?_ | with_reducible refine' r_U ?_ | with_reducible refine' r_isN ?_ | with_reducible refine' r_notN ?_ | with_reducible refine' r_andV ?_ | with_reducible refine' r_orV ?_ | with_reducible refine' r_notV ?_ | with_reducible refine' r_if ?_ | with_reducible refine' r_tup ?_ | with_reducible refine' r_lst ?_ | with_reducible refine' r_sl ?_ | with_reducible refine' r_np ?_ | with_reducible refine' r_pt ?_ | with_reducible refine' r_int ?_ | with_reducible refine' r_fld0 ?_ | with_reducible refine' r_setf0 ?_ | with_reducible refine' r_vm0 ?_ | with_reducible refine' r_make ?_ | with_reducible refine' r_chain ?_ | with_reducible refine' r_max2 ?_ | with_reducible refine' r_min2 ?_ | with_reducible refine' r_inti ?_ | with_reducible refine' r_intb ?_ | with_reducible refine' r_strs ?_ | with_reducible refine' r_next ?_ | with_reducible refine' r_drop ?_ | with_reducible refine' r_sub ?_ | with_reducible refine' r_augS ?_ | with_reducible refine' r_ipI ?_ | with_reducible refine' r_gc ?_ | with_reducible refine' r_gn ?_ | with_reducible refine' r_retN ?_ | with_reducible refine' r_bm ?_ | with_reducible refine' r_bm0 ?_ | with_reducible refine' r_for ?_ | with_reducible refine' r_rng1 ?_ | with_reducible refine' r_rng2 ?_ | with_reducible refine' r_comp ?_ | with_reducible refine' r_yes ?_ | with_reducible refine' r_iL ?_ | with_reducible refine' r_iT ?_ | with_reducible refine' r_eL ?_ | with_reducible refine' r_eT ?_ | with_reducible refine' iteT ?_ | with_reducible refine' iteF ?_ | with_reducible refine' ifnT ?_ | with_reducible refine' ifnF ?_ | with_reducible refine' r_fs ?_ | with_reducible refine' r_fv ?_ | with_reducible refine' r_callD ?_ | with_reducible refine' r_callK ?_ | with_reducible refine' r_isi_ii ?_ | with_reducible refine' r_isi_ib ?_ | with_reducible refine' r_isi_bb ?_ | with_reducible refine' r_isi_bi ?_ | with_reducible refine' r_isi_ss ?_ | with_reducible refine' r_isi_sb ?_ | with_reducible refine' r_isi_si ?_ | with_reducible refine' r_isi_st ?_ | with_reducible refine' r_isi_it ?_ | with_reducible refine' r_isi_bt ?_ | with_reducible refine' r_isi_is ?_ | with_reducible refine' r_isi_bs ?_ | with_reducible refine' r_isi_nl ?_ | with_reducible refine' r_notT0 ?_ | ((with_reducible refine' r_I ?h ?_); (case h => walk_at "side")) | ((with_reducible refine' r_al ?h ?_); (case h => rfl)) | ((with_reducible refine' r_aug ?h ?_); (case h => rfl)) | ((with_reducible refine' r_ixT ?h ?e ?_); (case h => walk_at "sq"); (case e => walk_at "at")) | ((with_reducible refine' r_ixL ?h ?e ?_); (case h => walk_at "sq"); (case e => walk_at "at")) | ((with_reducible refine' r_ixU ?h ?e ?_); (case h => assumption); (case e => walk_at "at")) | ((with_reducible refine' r_lenT ?h ?_); (case h => walk_at "sq")) | ((with_reducible refine' r_lenL ?h ?_); (case h => walk_at "sq")) | ((with_reducible refine' r_lenU ?h ?_); (case h => assumption)) | ((with_reducible refine' r_refT ?h ?_); (case h => walk_at "sq")) | ((with_reducible refine' r_refL ?h ?_); (case h => walk_at "sq")) | ((with_reducible refine' r_refT1 ?h ?_); (case h => walk_at "sq")) | ((with_reducible refine' r_refL1 ?h ?_); (case h => walk_at "sq")) | ((with_reducible refine' r_tyL ?h ?_); (case h => walk_at "hp")) | ((with_reducible refine' r_isi_tt ?h ?_); (case h => walk_at "hp")) | ((with_reducible refine' r_isi_tl ?h ?_); (case h => walk_at "hp")) | ((with_reducible refine' r_isi_ll ?h ?_); (case h => walk_at "hp")) | ((with_reducible refine' r_isi_lt ?h ?_); (case h => walk_at "hp")) | ((with_reducible refine' r_gT ?h ?e ?_); (case h => walk_at "sq"); (case e => rfl)) | ((with_reducible refine' r_gL ?h ?e ?_); (case h => walk_at "sq"); (case e => rfl)) | ((with_reducible refine' r_rg ?h ?_); (case h => walk_at "side")) | ((with_reducible refine' r_rg2 ?h ?_); (case h => walk_at "side")))
local macro_rules | `(tactic| walk_at "rd") => `(tactic| repeat (walk_at "rd1"))
seal L2.PA L2.PE
open Ce
theorem subS_ib : subS "int" "bool" = false := by decide +kernel
theorem subS_ii : subS "int" "int" = true := by decide +kernel
theorem sm_of {H H' : Hp} {a : Addr} {o : HO} (e : upd H a o = H') (h : H a = none) : Same H H' := e ▸ Same.upd h
theorem at_of {H H' : Hp} {a : Addr} {o : HO} (e : upd H a o = H') : H' a = some o := e ▸ upd_same
theorem atI_ints {xs : List Int} {j : Nat} (h : j < xs.length) : atI (xs.map V.int) (j : Int) = some (.int (xs.getD j 0)) := atI_nat (by simp [List.getD, h])
local macro_rules | `(tactic| walk_at "wk") => `(tactic| repeat (first | walk_at "rd1" | (refine ifd (fun h => absurd h (by decide)) (fun _ => ?_)) | (refine ifd (fun _ => ?_) (fun h => absurd (by decide) h))))
def Sml (n : Int) : Prop := n.natAbs.log2 < 1920
theorem Sml.of {n : Int} (h : n.natAbs < 2 ^ 1000) : Sml n := by
  unfold Sml
  by_cases h0 : n.natAbs = 0
  · rw [h0]; decide +kernel
  · have := (Nat.log2_lt h0).mpr h
    omega
theorem jc {y : Str} {ts : List TE} {n : Nat} {σ : St} {H : Hp} {Q : VK} (hy : y.length ≤ 100) (hn : n ≤ 500000) (q : ∀ m, m ≤ n + 100 → tJoin ts m σ H Q) : tJoin (tC (.str y) :: ts) n σ H Q := ⟨y, rfl, by have := line_big; omega, q _ (by omega)⟩
theorem jn {n : Nat} {σ : St} {H : Hp} {Q : VK} (q : ∀ z : Str, z.length ≤ n → Q (.str z) H) : tJoin [] n σ H Q := fun z hz => q z (by omega)
theorem jfi {te : TE} {ts : List TE} {n : Nat} {σ : St} {H : Hp} {Q : VK} {i : Int} (hi : Sml i) (hn : n ≤ 500000) (ht : ∀ K : VK, K (.int i) H → te σ H K) (q : ∀ m, m ≤ n + 1921 → tJoin ts m σ H Q) : tJoin (tFm te :: ts) n σ H Q :=
  ht _ (.inl ⟨i, rfl, hi, fun z hz => ⟨z, rfl, by have := line_big; omega, q _ (by omega)⟩⟩)
theorem jfr {te : TE} {ts : List TE} {n : Nat} {σ : St} {H : Hp} {Q : VK} {i : Int} (hi : Sml i) (hn : n ≤ 500000) (ht : ∀ K : VK, K (.int i) H → te σ H K) (q : ∀ m, m ≤ n + 1921 → tJoin ts m σ H Q) : tJoin (tFr te :: ts) n σ H Q :=
  ht _ ⟨i, rfl, hi, fun z hz => ⟨z, rfl, by have := line_big; omega, q _ (by omega)⟩⟩
theorem sml_in {n : Int} (h1 : -100000 ≤ n) (h2 : n ≤ 100000) : Sml n := .of (by
  have : n.natAbs ≤ 100000 := by omega
  exact Nat.lt_of_le_of_lt this (by decide +kernel))
def spWithin : Sp := fun vs H Q _ => ∃ n a b, vs = [.int n, .int a, .int b] ∧ Q (.bl (decide (a ≤ n) && decide (n ≤ b))) H
def vO : Option Int → V
  | none => .non
  | some k => .int k
def spKinds (C : Addr) : Sp := fun vs H Q E => ∃ (p : Addr) (ks : List Int), vs = [.ref p] ∧ H p = some (.lst (ks.map V.int)) ∧ (∀ k ∈ ks, Sml k) ∧ ((ks.length ≤ 8 ∧ ∀ k ∈ ks, 0 ≤ k ∧ k ≤ 11) → Q .non H) ∧ (¬ (ks.length ≤ 8 ∧ ∀ k ∈ ks, 0 ≤ k ∧ k ≤ 11) → E (.ref C) none H)
def spCellM (K : PySem.W.Frag) : Sp := fun vs H Q _ => ∃ (a : Addr) (ns : List Int) (i : Int), vs = [.ref a, .int i] ∧ SqL K H a (ns.map V.int) ∧ ns.length ≤ 63 ∧ 0 ≤ i ∧ i ≤ 100000 ∧ ∀ c : Int, 0 ≤ c → c < 2147483647 → Q (.int c) H
section
variable {P : Program} {w : World} {K : PySem.W.Frag} {mg : Str → Option Value} {base : Heap} {xs : Xs}
theorem ok_within (T : Txt mg) (L : Laid K mg "within" s_within ["number", "least", "most"]) : Cal P w K mg base 1 "within" ["number", "least", "most"] spWithin := by
  refine L.cal (k := 0) sc_within (fun vs H Q E h => ?_) (fun f cdv A outer s H vs Q E hr h => ?_)
  · obtain ⟨n, a, b, rfl, _⟩ := h
    rfl
  · obtain ⟨n, a, b, rfl, k⟩ := h
    refine ⟨_, (pss_cons (ps_if (PW.pt (pw_or (pt_val (pe_callB call_isiS rfl T.n_isinstance bt_isinstance (pa_cons (pv 0) (pa_cons (pe_bltn (v := .ty "bool") rfl T.n_bool bt_bool rfl) pa_nil)))) (pw_or1 (pt_not (pt_val (pe_callB call_isiS rfl T.n_isinstance bt_isinstance (pa_cons (pv 0) (pa_cons (pe_bltn (v := .ty "int") rfl T.n_int bt_int rfl) pa_nil)))))))) (pss_one (ps_ret pe_bl)) pss_nil)
      (pss_one (ps_ret (pe_chain op_le op_le (pv 1) (pv 0) (pv 2))))), ?_⟩
    refine ⟨_, rfl, _, "bool", "int", rfl, rfl, by decide, _, rfl, ?_⟩
    rw [subS_ib]
    refine iteF ?_
    refine ⟨_, rfl, _, "int", "int", rfl, rfl, by decide, _, rfl, ?_⟩
    rw [subS_ii]
    refine iteF ?_
    refine ⟨_, rfl, _, rfl, _, _, rfl, rfl, _, rfl, ?_⟩
    refine ite2 (fun h1 => ?_) (fun h1 => ?_)
    · refine ⟨_, rfl, _, _, rfl, rfl, ?_⟩
      rw [h1, Bool.true_and] at k
      exact k
    · have h1' : decide (a ≤ n) = false := by simpa using h1
      rw [h1', Bool.false_and] at k
      exact k
theorem ok_kinds (T : Txt mg) (TX : Tx K mg xs) (L : Laid K mg "check_kinds" s_check_kinds ["kinds"]) (C_within : Cal P w K mg base 1 "within" ["number", "least", "most"] spWithin) : CalX P w K mg base 2 "check_kinds" ["kinds"] (spKinds xs.NoDeal) := by
  refine L.calX (k := 1) sc_check_kinds (fun vs H Q E h => ?_) (fun f cdv A outer s H vs Q E hr h => ?_)
  · obtain ⟨p, ks, rfl, _⟩ := h
    rfl
  · obtain ⟨p, ks, rfl, hp, sk, k, ke⟩ := h
    obtain ⟨t1, e_LAST_KIND⟩ := T.e_LAST_KIND
    obtain ⟨t2, e_MOST_KINDS⟩ := T.e_MOST_KINDS
    refine ⟨_, (pss_cons (ps_if (pt_cmpR op_gt (pe_callB (lenK K) rfl T.n_len bt_len (pa_cons (pv 0) pa_nil)) (pe_glob (v := .int 8) rfl e_MOST_KINDS ⟨_, rfl⟩) (nomark _)) (pss_one (ps_raise raises_xe rfl rfl TX.at_NoDeal TX.ex_NoDeal (pa_cons (pe_join (.cons pe_str (.cons (pe_fm (pe_glob (v := .int 8) rfl e_MOST_KINDS ⟨_, rfl⟩)) (.cons pe_str .nil)))) pa_nil))) pss_nil)
      (pss_one (ps_for PassesOwn.leaving rfl (pi_listK K (pv 0)) (pg_name (i := 1) sc_check_kinds.nd rfl (Or.inl rfl)) (pss_one (ps_if (pt_not (pt_val (pe_cal C_within hr (by decide) rfl (pa_cons (pv 1) (pa_cons pe_int (pa_cons (pe_glob (v := .int 11) rfl e_LAST_KIND ⟨_, rfl⟩) pa_nil)))))) (pss_one (ps_raise raises_xe rfl rfl TX.at_NoDeal TX.ex_NoDeal (pa_cons (pe_join (.cons (pe_fr (pv 1)) (.cons pe_str .nil))) pa_nil))) pss_nil))))), ?_⟩
    walk_at "rd"
    rw [List.length_map]
    refine ifd (fun h8 => ?_) (fun h8 => ?_)
    · walk_at "rd"
      refine r_raise ?_
      walk_at "rd"
      refine jc (by decide +kernel) (by omega) fun m2 h2 => ?_
      refine jfi (sml_in (n := 8) (by omega) (by omega)) (by omega) (fun K h => h) fun m3 h3 => ?_
      refine jc (by decide +kernel) (by omega) fun m4 h4 => ?_
      refine jn fun y hy => ?_
      walk_at "rd"
      exact ke fun g => by have := g.1; omega
    · walk_at "rd"
      refine for_lst (ks.map V.int) (fun i σ H' => ∃ v1, σ = [some (.ref p), v1] ∧ H' = H ∧ ∀ j, j < i → 0 ≤ ks.getD j 0 ∧ ks.getD j 0 ≤ 11) ⟨none, rfl, rfl, fun j hj => absurd hj (by omega)⟩ ?_ ?_ ?_
      · rintro i σ H' ⟨_, rfl, rfl, _⟩
        exact SqL.of hp
      · rintro i x σ H' hx ⟨v1, rfl, rfl, g0⟩
        have hi : i < ks.length := by have := (List.getElem?_eq_some_iff.mp hx).1; simpa using this
        obtain rfl : x = .int ks[i] := by simpa [hi] using hx.symm
        have sm := sk _ (List.getElem_mem hi)
        have eg : ks.getD i 0 = ks[i] := by simp [List.getD, hi]
        walk_at "rd"
        refine ⟨_, 0, 11, rfl, ?_⟩
        by_cases hg : 0 ≤ ks[i] ∧ ks[i] ≤ 11
        · rw [show (decide (0 ≤ ks[i]) && decide (ks[i] ≤ 11)) = true by simp [hg]]
          walk_at "rd"
          exact ⟨_, rfl, rfl, fun j hj => if e : j = i then by subst e; rw [eg]; exact hg else g0 j (by omega)⟩
        · rw [show (decide (0 ≤ ks[i]) && decide (ks[i] ≤ 11)) = false by rw [← Bool.not_eq_true]; simpa using hg]
          walk_at "rd"
          refine r_raise ?_
          walk_at "rd"
          refine jfr sm (by omega) (fun K h => ⟨_, rfl, h⟩) fun m3 h3 => ?_
          refine jc (by decide +kernel) (by omega) fun m4 h4 => ?_
          refine jn fun y hy => ?_
          walk_at "rd"
          exact ke fun g => hg (g.2 _ (List.getElem_mem hi))
      · rintro σ H' ⟨v1, rfl, rfl, g0⟩
        rw [List.length_map] at g0
        walk_at "rd"
        exact k ⟨by omega, fun x hx => by
          obtain ⟨i, hi, e⟩ := List.mem_iff_getElem.mp hx
          have := g0 i hi
          rwa [show ks.getD i 0 = x by simp [List.getD, hi, e]] at this⟩
theorem ok_cellM (T : Txt mg) (L : Laid K mg "_law_cell" s__law_cell ["_law_script", "_law_k"]) : Cal P w K mg base 1 "_law_cell" ["_law_script", "_law_k"] (spCellM K) := by
  refine L.cal (k := 0) sc__law_cell (fun vs H Q E h => ?_) (fun f cdv A outer s H vs Q E hr h => ?_)
  · obtain ⟨a, ns, i, rfl, _⟩ := h
    rfl
  · obtain ⟨a, ns, i, rfl, hS, hl, h0, h1, k⟩ := h
    refine ⟨_, (pss_cons (ps_if (pt_cmpR op_lt (pv 1) (pe_callB (lenK K) rfl T.n_len bt_len (pa_cons (pv 0) pa_nil)) (nomark _)) (pss_one (ps_ret (pe_op op_mod (pe_op op_add (pe_op op_mul (pe_ix (ix_listK K) (pv 0) (pv 1) (fun _ _ => rfl)) pe_int) (pe_op op_mul (pe_op op_mul (pv 1) (pv 1)) pe_int)) pe_int))) pss_nil)
      (pss_one (ps_ret (pe_op op_mod (pe_op op_add (pe_op op_add (pe_op op_mul (pe_op op_mul (pv 1) (pv 1)) pe_int) (pe_op op_mul (pe_callB (lenK K) rfl T.n_len bt_len (pa_cons (pv 0) pa_nil)) pe_int)) pe_int) pe_int)))), ?_⟩
    walk_at "rd"
    refine ifd (fun h => ?_) (fun h => ?_)
    · rw [List.length_map] at h
      obtain ⟨j, rfl⟩ : ∃ j : Nat, i = (j : Int) := ⟨i.toNat, by omega⟩
      walk_at "rd"
      refine r_ixL hS (atI_ints (by omega)) ?_
      walk_at "rd"
      exact k _ (mod_lo _ (by decide)) (mod_hi _ (by decide))
    · walk_at "rd"
      exact k _ (mod_lo _ (by decide)) (mod_hi _ (by decide))
end

def kindsO (os : List (Option Int)) : List Int := os.filterMap id
structure OGood (os : List (Option Int)) : Prop where
  n : os.length ≤ 14
  l : (kindsO os).length ≤ 8
  k : ∀ k ∈ kindsO os, 0 ≤ k ∧ k ≤ 11
theorem kinds_le (os : List (Option Int)) : (kindsO os).length ≤ os.length := List.length_filterMap_le _ _
theorem kinds_app (os : List (Option Int)) (o : Option Int) : kindsO (os ++ [o]) = kindsO os ++ (match o with | none => [] | some k => [k]) := by
  unfold kindsO
  rw [List.filterMap_append]
  cases o <;> rfl
def spKindsOf : Sp := fun vs H Q _ => ∃ (p : Addr) (os : List (Option Int)), vs = [.ref p] ∧ H p = some (.tup (os.map vO)) ∧ os.length ≤ 1000 ∧ ∀ (q : Addr) (H' : Hp), Same H H' → H' q = some (.lst ((kindsO os).map V.int)) → Q (.ref q) H'
def spCD (C : Addr) : Sp := fun vs H Q E => ∃ (p : Addr) (os : List (Option Int)), vs = [.ref p] ∧ H p = some (.tup (os.map vO)) ∧ os.length ≤ 1000 ∧ (∀ k ∈ kindsO os, Sml k) ∧ (OGood os → ∀ H', Same H H' → Q .non H') ∧ (¬ OGood os → ∀ H', Same H H' → E (.ref C) none H')
section
variable {P : Program} {w : World} {K : PySem.W.Frag} {mg : Str → Option Value} {base : Heap} {xs : Xs}
theorem ok_kindsof (T : Txt mg) (L : Laid K mg "kinds_of" s_kinds_of ["dealing"]) : Cal P w K mg base 1 "kinds_of" ["dealing"] spKindsOf := by
  refine L.cal (k := 0) sc_kinds_of (fun vs H Q E h => ?_) (fun f cdv A outer s H vs Q E hr h => ?_)
  · obtain ⟨p, os, rfl, _⟩ := h
    rfl
  · obtain ⟨p, os, rfl, hp, hl, k⟩ := h
    have big := line_big
    refine ⟨_, (pss_one (ps_ret (pe_comp (compOk (N := ["kind"]) (own := 1) (caps := []) ["dealing"] (defScope s_kinds_of) (by decide +kernel)) rfl (pi_tupK K (pv 0)) (fun _ _ _ _ => (pg_name (i := 0) (show List.Nodup (["kind"] : List Str) by decide +kernel) rfl (Or.inl rfl))) (fun _ _ _ _ => (pf_one (pt_cmp (pc_notN (pv 0))))) (fun _ _ _ _ => (pv 0))))), ?_⟩
    walk_at "rd"
    intro D hD
    refine comp_tpl (os.map vO) (fun i σ H' => ∃ v0, σ = [v0] ∧ Same H H' ∧ H' D = some (.lst ((kindsO (os.take i)).map V.int))) ⟨none, rfl, Same.upd hD, by rw [upd_same]; rfl⟩ ?_ ?_ ?_
    · rintro i σ H' ⟨_, rfl, s1, _⟩
      exact SqT.of (s1 _ _ hp)
    · rintro i x σ H' hx ⟨v0, rfl, s1, h1⟩
      have hi : i < os.length := by have := (List.getElem?_eq_some_iff.mp hx).1; simpa using this
      obtain rfl : x = vO os[i] := by simpa [hi] using hx.symm
      have et := List.take_succ_eq_append_getElem hi
      have lk : (kindsO (os.take i)).length ≤ 1000 := by
        have := kinds_le (os.take i)
        rw [List.length_take] at this
        omega
      cases ho : os[i] with
      | none =>
        walk_at "rd"
        refine ⟨_, rfl, s1, ?_⟩
        rw [et, kinds_app, ho, h1]
        simp
      | some n =>
        walk_at "rd"
        rw [show (!decide (vO (some n) = V.non)) = true by simp [vO]]
        walk_at "rd"
        refine ⟨_, h1, by rw [List.length_map]; omega, _, rfl, s1.put hD, ?_⟩
        rw [upd_same, et, kinds_app, ho]
        simp [vO]
    · rintro σ H' ⟨v0, rfl, s1, h1⟩
      rw [List.length_map, List.take_length] at h1
      exact k D H' s1 h1
theorem ok_cd (T : Txt mg) (TX : Tx K mg xs) (L : Laid K mg "check_dealing" s_check_dealing ["dealing"]) (C_check_kinds : CalX P w K mg base 2 "check_kinds" ["kinds"] (spKinds xs.NoDeal)) (C_kinds_of : Cal P w K mg base 1 "kinds_of" ["dealing"] spKindsOf) : CalX P w K mg base 3 "check_dealing" ["dealing"] (spCD xs.NoDeal) := by
  refine L.calX (k := 2) sc_check_dealing (fun vs H Q E h => ?_) (fun f cdv A outer s H vs Q E hr h => ?_)
  · obtain ⟨p, os, rfl, _⟩ := h
    rfl
  · obtain ⟨p, os, rfl, hp, hl, sk, k, ke⟩ := h
    obtain ⟨t2, e_MOST_PLACES⟩ := T.e_MOST_PLACES
    refine ⟨_, (pss_cons (ps_if (pt_cmpR op_gt (pe_callB (lenK K) rfl T.n_len bt_len (pa_cons (pv 0) pa_nil)) (pe_glob (v := .int 14) rfl e_MOST_PLACES ⟨_, rfl⟩) (nomark _)) (pss_one (ps_raise raises_xe rfl rfl TX.at_NoDeal TX.ex_NoDeal (pa_cons (pe_join (.cons pe_str (.cons (pe_fm (pe_glob (v := .int 14) rfl e_MOST_PLACES ⟨_, rfl⟩)) (.cons pe_str .nil)))) pa_nil))) pss_nil)
      (pss_one (ps_expr (pe_calX C_check_kinds pass_xe hr (by decide) rfl (pa_cons (pe_cal C_kinds_of hr (by decide) rfl (pa_cons (pv 0) pa_nil)) pa_nil))))), ?_⟩
    walk_at "rd"
    rw [List.length_map]
    refine ifd (fun h8 => ?_) (fun h8 => ?_)
    · walk_at "rd"
      refine r_raise ?_
      walk_at "rd"
      refine jc (by decide +kernel) (by omega) fun m2 h2 => ?_
      refine jfi (sml_in (n := 14) (by omega) (by omega)) (by omega) (fun K h => h) fun m3 h3 => ?_
      refine jc (by decide +kernel) (by omega) fun m4 h4 => ?_
      refine jn fun y hy => ?_
      walk_at "rd"
      exact ke (fun g => by have := g.n; omega) H (Same.refl _)
    · walk_at "rd"
      refine ⟨p, os, rfl, hp, hl, fun q H1 s1 hq => ?_⟩
      walk_at "rd"
      exact ⟨q, kindsO os, rfl, hq, sk, fun g => k ⟨by omega, g.1, g.2⟩ H1 s1, fun g => ke (fun z => g ⟨z.l, z.k⟩) H1 s1⟩
end

section
variable {P : Program} {w : World} {K : PySem.W.Frag} {mg : Str → Option Value} {base : Heap} {xs : Xs}
theorem sml_c {n : Int} (h1 : -10000000000 ≤ n) (h2 : n ≤ 10000000000) : Sml n := .of (by
  have : n.natAbs ≤ 10000000000 := by omega
  exact Nat.lt_of_le_of_lt this (by decide +kernel))
theorem few_at (c : Int) : ∃ f : Int, atI [V.int 1, V.int 2, V.int 3, V.int 12] (c % 4) = some (.int f) ∧ 1 ≤ f ∧ f ≤ 12 := by
  obtain ⟨m, hm, em⟩ := mod_nat c 4 (by decide)
  have em' : c % 4 = (m : Int) := em
  rw [em']
  have hm' : m = 0 ∨ m = 1 ∨ m = 2 ∨ m = 3 := by omega
  rcases hm' with rfl | rfl | rfl | rfl
  · exact ⟨1, rfl, by omega, by omega⟩
  · exact ⟨2, rfl, by omega, by omega⟩
  · exact ⟨3, rfl, by omega, by omega⟩
  · exact ⟨12, rfl, by omega, by omega⟩
theorem ints_flat (ks : List Int) : (ks.map V.int).all flatV = true := by simp [flatV]
theorem ob_sml {os : List (Option Int)} (g : OGood os) : ∀ k ∈ kindsO os, Sml k := fun k hk => by have := g.k k hk; exact sml_in (by omega) (by omega)
def spLD (K : PySem.W.Frag) : Sp := fun vs H Q _ => ∃ (a : Addr) (ns : List Int) (fi n : Int), vs = [.ref a, .int fi, .int n] ∧ SqL K H a (ns.map V.int) ∧ ns.length ≤ 63 ∧ 0 ≤ fi ∧ fi ≤ 1000 ∧ 0 ≤ n ∧ n ≤ 14 ∧ ∀ (q : Addr) (os : List (Option Int)) (H' : Hp), Same H H' → H' q = some (.tup (os.map vO)) → (os.length : Int) = n → OGood os → Q (.ref q) H'
theorem ok_ld (T : Txt mg) (L : Laid K mg "_law_dealing" s__law_dealing ["_law_script", "_law_first", "_law_size"]) (C__law_cell : Cal P w K mg base 1 "_law_cell" ["_law_script", "_law_k"] (spCellM K)) : Cal P w K mg base 2 "_law_dealing" ["_law_script", "_law_first", "_law_size"] (spLD K) := by
  refine L.cal (k := 1) sc__law_dealing (fun vs H Q E h => ?_) (fun f cdv A outer s H vs Q E hr h => ?_)
  · obtain ⟨a, ns, fi, n, rfl, _⟩ := h
    rfl
  · obtain ⟨a, ns, fi, n, rfl, hS, hl, f0, f1, n0, n1, k⟩ := h
    have big := line_big
    refine ⟨_, (pss_cons (ps_set (i := 3) sc__law_dealing.nd rfl (Or.inl rfl) (pe_ix (ix_listK K) (pe_lst (pa_cons pe_int (pa_cons pe_int (pa_cons pe_int (pa_cons pe_int pa_nil))))) (pe_op op_mod (pe_cal C__law_cell hr (by decide) rfl (pa_cons (pv 0) (pa_cons pe_int pa_nil))) pe_int) (fun _ _ => rfl)))
      (pss_cons (ps_set (i := 4) sc__law_dealing.nd rfl (Or.inl rfl) (pe_lst pa_nil))
      (pss_cons (ps_for PassesOwn.never rfl (pi_range1 rfl T.n_range (pa_cons (pv 2) pa_nil)) (pg_name (i := 5) sc__law_dealing.nd rfl (Or.inl rfl)) (pss_cons (ps_set (i := 6) sc__law_dealing.nd rfl (Or.inl rfl) (pe_cal C__law_cell hr (by decide) rfl (pa_cons (pv 0) (pa_cons (pe_op op_add (pv 1) (pv 5)) pa_nil))))
      (pss_one (ps_if (PW.pt (pw_or (pt_cmpR op_eq (pe_op op_mod (pv 6) pe_int) pe_int (nomark _)) (pw_or1 (pt_cmpR op_eq (pe_callB (lenK K) rfl T.n_len bt_len (pa_cons (pe_comp (compOk (N := ["_law_kind"]) (own := 1) (caps := []) ["_law_script", "_law_first", "_law_size", "_law_few", "_law_found", "_law_k", "_law_cell_here"] (defScope s__law_dealing) (by decide +kernel)) rfl (pi_listK K (pv 4)) (fun _ _ _ _ => (pg_name (i := 0) (show List.Nodup (["_law_kind"] : List Str) by decide +kernel) rfl (Or.inl rfl))) (fun _ _ _ _ => (pf_one (pt_cmp (pc_notN (pv 0))))) (fun _ _ _ _ => (pv 0))) pa_nil)) pe_int (nomark _))))) (pss_one (ps_expr (pe_bm PySem.F.plainAttrs_list PySem.F.slot_list_append PySem.F.type_list_append mt_append (pv 4) (pa_cons pe_non pa_nil)))) (pss_one (ps_expr (pe_bm PySem.F.plainAttrs_list PySem.F.slot_list_append PySem.F.type_list_append mt_append (pv 4) (pa_cons (pe_op op_add (pe_op op_mod (pe_op op_fdiv (pv 6) pe_int) (pv 3)) (pe_op op_mod (pe_op op_fdiv (pe_cal C__law_cell hr (by decide) rfl (pa_cons (pv 0) (pa_cons pe_int pa_nil))) pe_int) (pe_op op_sub pe_int (pv 3)))) pa_nil))))))))
      (pss_one (ps_ret (pe_callTy (tupOfK K) rfl T.n_tuple bt_tuple (pa_cons (pv 4) pa_nil))))))), ?_⟩
    walk_at "rd"
    intro q1 g1
    generalize hG1 : upd _ q1 _ = H1
    have s1 := sm_of hG1 g1
    have h1 := at_of hG1
    walk_at "rd"
    refine ⟨a, ns, 1, rfl, Same.seq s1 hS, hl, by omega, by omega, fun c c0 c1 => ?_⟩
    obtain ⟨fw, ef, w0, w1⟩ := few_at c
    walk_at "rd"
    intro D hD
    generalize hG2 : upd _ D _ = H2
    have s2 := sm_of hG2 hD
    have h2 := at_of hG2
    have gD : H D = none := by
      cases e : H D with
      | none => rfl
      | some o => exact absurd (s1 _ _ e) (by rw [hD]; simp)
    walk_at "rd"
    refine for_rng (fun i σ H' => ∃ (v5 v6 : Option V) (os : List (Option Int)), σ = [some (.ref a), some (.int fi), some (.int n), some (.int fw), some (.ref D), v5, v6] ∧ Same H H' ∧ os.length = i ∧ (kindsO os).length ≤ 8 ∧ (∀ k ∈ kindsO os, 0 ≤ k ∧ k ≤ 11) ∧ H' D = some (.lst (os.map vO))) ⟨none, none, [], rfl, s1.trans s2, rfl, by decide, nofun, by rw [h2]; rfl⟩ ?_ ?_
    · rintro i σ H' hi ⟨v5, v6, os, rfl, s3, lo, lk, kk, h3⟩
      have oapp : ∀ (o : Option Int) (v : V) (H4 : Hp), v = vO o → Same H H4 → H4 D = some (.lst (os.map vO)) → (kindsO (os ++ [o])).length ≤ 8 → (∀ k ∈ kindsO (os ++ [o]), 0 ≤ k ∧ k ≤ 11) → ∀ x6 : Int, rAppend (.ref D) [v] H4 fun _ H5 => ∃ (v5 v6 : Option V) (os : List (Option Int)), [some (V.ref a), some (V.int fi), some (V.int n), some (V.int fw), some (V.ref D), some (V.int (0 + (i : Nat))), some (V.int x6)] = [some (.ref a), some (.int fi), some (.int n), some (.int fw), some (.ref D), v5, v6] ∧ Same H H5 ∧ os.length = i + 1 ∧ (kindsO os).length ≤ 8 ∧ (∀ k ∈ kindsO os, 0 ≤ k ∧ k ≤ 11) ∧ H5 D = some (.lst (os.map vO)) := fun o v H4 hv s4 h4 l8 k8 x6 => by
        refine r_app h4 (by rw [List.length_map]; omega) ⟨_, _, os ++ [o], rfl, s4.put gD, by simp [lo], l8, k8, ?_⟩
        rw [upd_same, hv]
        simp
      have nnone : (kindsO (os ++ [none])).length ≤ 8 ∧ ∀ k ∈ kindsO (os ++ [none]), 0 ≤ k ∧ k ≤ 11 := by
        rw [kinds_app, List.append_nil]
        exact ⟨lk, kk⟩
      walk_at "rd"
      refine ⟨a, ns, _, rfl, Same.seq s3 hS, hl, by omega, by omega, fun d d0 d1 => ?_⟩
      walk_at "rd"
      refine ifd (fun e3 => ?_) (fun e3 => ?_)
      · walk_at "rd"
        exact oapp none _ H' rfl s3 h3 nnone.1 nnone.2 d
      · walk_at "rd"
        intro D2 hD2
        refine comp_lst (os.map vO) (fun j σ H4 => ∃ v0, σ = [v0] ∧ Same H' H4 ∧ H4 D2 = some (.lst ((kindsO (os.take j)).map V.int))) ⟨none, rfl, Same.upd hD2, by rw [upd_same]; rfl⟩ ?_ ?_ ?_
        · rintro j σ H4 ⟨_, rfl, s4, _⟩
          exact SqL.of (s4 _ _ h3)
        · rintro j x σ H4 hx ⟨v0, rfl, s4, h4⟩
          have hj : j < os.length := by have := (List.getElem?_eq_some_iff.mp hx).1; simpa using this
          obtain rfl : x = vO os[j] := by simpa [hj] using hx.symm
          have et := List.take_succ_eq_append_getElem hj
          have lk : (kindsO (os.take j)).length ≤ 1000 := by
            have := kinds_le (os.take j)
            rw [List.length_take] at this
            omega
          cases ho : os[j] with
          | none =>
            walk_at "rd"
            refine ⟨_, rfl, s4, ?_⟩
            rw [et, kinds_app, ho, h4]
            simp
          | some n =>
            walk_at "rd"
            rw [show (!decide (vO (some n) = V.non)) = true by simp [vO]]
            walk_at "rd"
            refine ⟨_, h4, by rw [List.length_map]; omega, _, rfl, s4.put hD2, ?_⟩
            rw [upd_same, et, kinds_app, ho]
            simp [vO]
        · rintro σ H4 ⟨v0, rfl, s4, h4⟩
          rw [List.length_map, List.take_length] at h4
          walk_at "rd"
          rw [List.length_map]
          refine ifd (fun e8 => ?_) (fun e8 => ?_)
          · walk_at "rd"
            have h5 := s4 _ _ h3
            walk_at "rd"
            exact oapp none _ H4 rfl (s3.trans s4) h5 nnone.1 nnone.2 d
          · have h5 := s4 _ _ h3
            walk_at "rd"
            refine ⟨a, ns, 1, rfl, Same.seq (s3.trans s4) hS, hl, by omega, by omega, fun c' c0' c1' => ?_⟩
            have x0 := mod_lo (d / 3) (n := fw) (by omega)
            have x1 := mod_hi (d / 3) (n := fw) (by omega)
            have y0 := mod_lo (c' / 4) (n := 13 - fw) (by omega)
            have y1 := mod_hi (c' / 4) (n := 13 - fw) (by omega)
            walk_at "rd"
            refine oapp (some (d / 3 % fw + c' / 4 % (13 - fw))) _ H4 rfl (s3.trans s4) h5 ?_ ?_ d
            · rw [kinds_app]; simp; omega
            · rw [kinds_app]
              intro x hx
              rcases List.mem_append.mp hx with hx | hx
              · exact kk x hx
              · obtain rfl := List.mem_singleton.mp hx; omega
    · rintro σ H' ⟨v5, v6, os, rfl, s3, lo, lk, kk, h3⟩
      walk_at "rd"
      refine r_tol (SqL.of h3) fun q hq => ?_
      exact k q os _ (s3.trans (Same.upd hq)) upd_same (by omega) ⟨by omega, lk, kk⟩
end

def spNoDeal (C : Addr) : Sp := fun vs H Q _ => ∃ (a : Addr) (oe : Obj) (u : HO), vs = [.ref a] ∧ H a = some (.frz oe u) ∧ oe.cls = .ref C ∧ ∀ H', Same H H' → Q (.bl true) H'
section
variable {P : Program} {w : World} {K : PySem.W.Frag} {mg : Str → Option Value} {base : Heap} {xs : Xs}
theorem ok_no_deal (T : Txt mg) (TX : Tx K mg xs) (L : Laid K mg "_law_no_deal" s__law_no_deal ["_law_caught"]) : Cal P w K mg base 1 "_law_no_deal" ["_law_caught"] (spNoDeal xs.NoDeal) := by
  refine L.cal (k := 0) sc__law_no_deal (fun vs H Q E h => ?_) (fun f cdv A outer s H vs Q E hr h => ?_)
  · obtain ⟨a, oe, u, rfl, _⟩ := h
    rfl
  · obtain ⟨a, oe, u, rfl, h1, ho, k⟩ := h
    have big := line_big
    refine ⟨_, (pss_cons (ps_set (i := 1) sc__law_no_deal.nd rfl (Or.inl rfl) (pe_lst (pa_cons (pe_callB (isiYK K) rfl T.n_isinstance bt_isinstance (pa_cons (pv 0) (pa_cons (pe_glob (v := .ref xs.NoCellar) rfl TX.at_NoCellar rfl) pa_nil))) (pa_cons (pe_callB (isiYK K) rfl T.n_isinstance bt_isinstance (pa_cons (pv 0) (pa_cons (pe_glob (v := .ref xs.NoDeed) rfl TX.at_NoDeed rfl) pa_nil))) (pa_cons (pe_callB (isiYK K) rfl T.n_isinstance bt_isinstance (pa_cons (pv 0) (pa_cons (pe_glob (v := .ref xs.NoPlan) rfl TX.at_NoPlan rfl) pa_nil))) pa_nil)))))
      (pss_cons (ps_set (i := 1) sc__law_no_deal.nd rfl (Or.inl rfl) (pe_op op_cat (pv 1) (pe_lst (pa_cons (pe_callB (isiYK K) rfl T.n_isinstance bt_isinstance (pa_cons (pv 0) (pa_cons (pe_glob (v := .ref xs.NoRow) rfl TX.at_NoRow rfl) pa_nil))) (pa_cons (pe_callB (isiYK K) rfl T.n_isinstance bt_isinstance (pa_cons (pv 0) (pa_cons (pe_glob (v := .ref xs.NoText) rfl TX.at_NoText rfl) pa_nil))) (pa_cons (pe_callB (isiYK K) rfl T.n_isinstance bt_isinstance (pa_cons (pv 0) (pa_cons (pe_glob (v := .ref xs.Shut) rfl TX.at_Shut rfl) pa_nil))) pa_nil))))))
      (pss_cons (ps_set (i := 1) sc__law_no_deal.nd rfl (Or.inl rfl) (pe_op op_cat (pv 1) (pe_lst (pa_cons (pe_callB (isiYK K) rfl T.n_isinstance bt_isinstance (pa_cons (pv 0) (pa_cons (pe_glob (v := .ref xs.TooMany) rfl TX.at_TooMany rfl) pa_nil))) (pa_cons (pe_callB (isiYK K) rfl T.n_isinstance bt_isinstance (pa_cons (pv 0) (pa_cons (pe_glob (v := .ref xs.Wide) rfl TX.at_Wide rfl) pa_nil))) pa_nil)))))
      (pss_one (ps_ret (pe_and (pe_callB (isiYK K) rfl T.n_isinstance bt_isinstance (pa_cons (pv 0) (pa_cons (pe_glob (v := .ref xs.NoDeal) rfl TX.at_NoDeal rfl) pa_nil))) (pe_and (pe_callB (isiYK K) rfl T.n_isinstance bt_isinstance (pa_cons (pv 0) (pa_cons (pe_bltn (v := .ty "ValueError") rfl T.n_ValueError bt_ValueError rfl) pa_nil))) (pe_one (pe_cmpR (op_notIn_seqK K) pe_bl (pv 1) (by with_unfolding_all rfl)))))))))), ?_⟩
    walk_at "rd"
    refine r_isY h1 ho TX.xt_NoDeal TX.is_NoDeal_NoCellar ?_
    walk_at "rd"
    refine r_isY h1 ho TX.xt_NoDeal TX.is_NoDeal_NoDeed ?_
    walk_at "rd"
    refine r_isY h1 ho TX.xt_NoDeal TX.is_NoDeal_NoPlan ?_
    walk_at "rd"
    intro q2 g2
    generalize hG2 : upd _ q2 _ = H2
    have s2 := sm_of hG2 g2
    have h2 := at_of hG2
    have f2 := s2 _ _ h1
    walk_at "rd"
    refine r_isY f2 ho TX.xt_NoDeal TX.is_NoDeal_NoRow ?_
    walk_at "rd"
    refine r_isY f2 ho TX.xt_NoDeal TX.is_NoDeal_NoText ?_
    walk_at "rd"
    refine r_isY f2 ho TX.xt_NoDeal TX.is_NoDeal_Shut ?_
    walk_at "rd"
    intro q3 g3
    generalize hG3 : upd _ q3 _ = H3
    have s3 := sm_of hG3 g3
    have h3 := at_of hG3
    refine ⟨q2, q3, _, _, rfl, rfl, s3 _ _ h2, h3, by simp; omega, fun q4 g4 => ?_⟩
    generalize hG4 : upd _ q4 _ = H4
    have s4 := sm_of hG4 g4
    have h4 := at_of hG4
    have f4 := s4 _ _ (s3 _ _ f2)
    walk_at "rd"
    refine r_isY f4 ho TX.xt_NoDeal TX.is_NoDeal_TooMany ?_
    walk_at "rd"
    refine r_isY f4 ho TX.xt_NoDeal TX.is_NoDeal_Wide ?_
    walk_at "rd"
    intro q5 g5
    generalize hG5 : upd _ q5 _ = H5
    have s5 := sm_of hG5 g5
    have h5 := at_of hG5
    refine ⟨q4, q5, _, _, rfl, rfl, s5 _ _ h4, h5, by simp; omega, fun q6 g6 => ?_⟩
    generalize hG6 : upd _ q6 _ = H6
    have s6 := sm_of hG6 g6
    have h6 := at_of hG6
    have f6 := s6 _ _ (s5 _ _ f4)
    walk_at "rd"
    refine r_isY f6 ho TX.xt_NoDeal TX.is_NoDeal_NoDeal ?_
    walk_at "rd"
    refine r_isYT f6 ho TX.xt_NoDeal TX.is_NoDeal_ValueError ?_
    walk_at "rd"
    refine ⟨q6, _, rfl, .inl (SqL.of h6), rfl, rfl, ?_⟩
    exact k _ ((s2.trans (s3.trans (s4.trans (s5.trans s6)))))
end

def spCell (K : PySem.W.Frag) : Sp := fun vs H Q _ => ∃ (a : Addr) (ns : List Int) (i : Int), vs = [.ref a, .int i] ∧ SqL K H a (ns.map V.int) ∧ ns.length ≤ 63 ∧ 0 ≤ i ∧ i ≤ 1000 ∧ ∀ n : Int, 0 ≤ n → n < 2147483647 → Q (.int n) H
def spGate : Sp := fun vs H Q _ => ∃ c : Int, vs = [.int c] ∧ ∀ (p : Addr) (g : Gt) (H' : Hp), Same H H' → g.ok → H' p = some (.tup g.vs) → Q (.ref p) H'
def spCellar (K : PySem.W.Frag) : Sp := fun vs H Q _ => ∃ (a : Addr) (ns : List Int), vs = [.ref a] ∧ SqL K H a (ns.map V.int) ∧ ns.length ≤ 63 ∧ ∀ (p : Addr) (C : Cl) (H' : Hp), Same H H' → ClAt H' p C → ClOk C → Q (.ref p) H'
theorem atI_mod2 {x : Int} : ∃ m : Int, (m = 2 ∨ m = 12) ∧ atI [V.int 2, V.int 12] (x % 2) = some (.int m) := by
  obtain h | h : x % 2 = 0 ∨ x % 2 = 1 := by omega
  · rw [h]; exact ⟨2, .inl rfl, rfl⟩
  · rw [h]; exact ⟨12, .inr rfl, rfl⟩
theorem atI_mod4 {x : Int} : ∃ m : Int, (1 ≤ m ∧ m ≤ 14) ∧ atI [V.int 3, V.int 4, V.int 6, V.int 14] (x % 4) = some (.int m) := by
  obtain h | h | h | h : x % 4 = 0 ∨ x % 4 = 1 ∨ x % 4 = 2 ∨ x % 4 = 3 := by omega
  · rw [h]; exact ⟨3, by decide, rfl⟩
  · rw [h]; exact ⟨4, by decide, rfl⟩
  · rw [h]; exact ⟨6, by decide, rfl⟩
  · rw [h]; exact ⟨14, by decide, rfl⟩
theorem in45 {x : Int} : inV (.int x) [.int 4, .int 5] = decide (x = 4 ∨ x = 5) := by
  rw [Bool.eq_iff_iff]
  simp [inV, eqV]
  omega
section
variable {P : Program} {w : World} {K : PySem.W.Frag} {mg : Str → Option Value} {base : Heap}
theorem ok_cell (T : Txt mg) (L : Laid K mg "_law_cell" s__law_cell ["_law_script", "_law_k"]) : Cal P w K mg base 1 "_law_cell" ["_law_script", "_law_k"] (spCell K) := by
  refine L.cal (k := 0) sc__law_cell (fun vs H Q E h => ?_) (fun f cdv A outer s H vs Q E hr h => ?_)
  · obtain ⟨a, ns, i, rfl, _⟩ := h
    rfl
  · obtain ⟨a, ns, i, rfl, hS, hl, h0, h1, k⟩ := h
    have hl2 : ((ns.map V.int).length : Int) ≤ 63 := by rw [List.length_map]; omega
    refine ⟨_, (pss_cons (ps_if (pt_cmpR op_lt (pv 1) (pe_callB (lenK K) rfl T.n_len bt_len (pa_cons (pv 0) pa_nil)) (nomark _)) (pss_one (ps_ret (pe_op op_mod (pe_op op_add (pe_op op_mul (pe_ix (ix_listK K) (pv 0) (pv 1) (fun _ _ => rfl)) pe_int) (pe_op op_mul (pe_op op_mul (pv 1) (pv 1)) pe_int)) pe_int))) pss_nil)
      (pss_one (ps_ret (pe_op op_mod (pe_op op_add (pe_op op_add (pe_op op_mul (pe_op op_mul (pv 1) (pv 1)) pe_int) (pe_op op_mul (pe_callB (lenK K) rfl T.n_len bt_len (pa_cons (pv 0) pa_nil)) pe_int)) pe_int) pe_int)))), ?_⟩
    walk_at "rd"
    refine ifd (fun h => ?_) (fun h => ?_)
    · rw [List.length_map] at h
      obtain ⟨j, rfl⟩ : ∃ j : Nat, i = (j : Int) := ⟨i.toNat, by omega⟩
      walk_at "rd"
      refine r_ixL hS (atI_ints (by omega)) ?_
      walk_at "rd"
      exact k _ (mod_lo _ (by decide)) (mod_hi _ (by decide))
    · walk_at "rd"
      exact k _ (mod_lo _ (by decide)) (mod_hi _ (by decide))
theorem ok_gate (T : Txt mg) (L : Laid K mg "_law_gate" s__law_gate ["_law_cell_here"]) : Cal P w K mg base 1 "_law_gate" ["_law_cell_here"] spGate := by
  refine L.cal (k := 0) sc__law_gate (fun vs H Q E h => ?_) (fun f cdv A outer s H vs Q E hr h => ?_)
  · obtain ⟨c, rfl, _⟩ := h
    rfl
  · obtain ⟨c, rfl, k⟩ := h
    obtain ⟨m, hm, em⟩ := atI_mod2 (x := c / 8)
    have hm0 : (0 : Int) < m := by omega
    have kd0 := mod_lo (c / 64) hm0
    have kd1 : c / 64 % m < 12 := by have := mod_hi (c / 64) hm0; omega
    refine ⟨_, (pss_cons (ps_set (i := 1) sc__law_gate.nd rfl (Or.inl rfl) (pe_op op_mod (pe_op op_fdiv (pv 0) pe_int) (pe_ix (ix_listK K) (pe_lst (pa_cons pe_int (pa_cons pe_int pa_nil))) (pe_op op_mod (pe_op op_fdiv (pv 0) pe_int) pe_int) (fun _ _ => rfl))))
      (pss_cons (ps_set (i := 2) sc__law_gate.nd rfl (Or.inl rfl) (pe_lst (pa_cons (pe_tup (pa_cons pe_str pa_nil)) (pa_cons (pe_tup (pa_cons pe_str (pa_cons (pv 1) pa_nil))) (pa_cons (pe_tup (pa_cons pe_str (pa_cons (pv 1) pa_nil))) (pa_cons (pe_tup (pa_cons pe_str (pa_cons (pv 1) pa_nil))) (pa_cons (pe_tup (pa_cons pe_str (pa_cons (pe_op op_mod (pe_op op_fdiv (pv 0) pe_int) pe_int) pa_nil))) pa_nil)))))))
      (pss_cons (ps_set (i := 2) sc__law_gate.nd rfl (Or.inl rfl) (pe_op op_cat (pv 2) (pe_lst (pa_cons (pe_tup (pa_cons pe_str (pa_cons (pe_op op_mod (pe_op op_fdiv (pv 0) pe_int) pe_int) (pa_cons (pv 1) pa_nil)))) (pa_cons (pe_tup (pa_cons pe_str (pa_cons (pe_op op_mod (pe_op op_fdiv (pv 0) pe_int) pe_int) pa_nil))) (pa_cons (pe_tup (pa_cons pe_str pa_nil)) pa_nil))))))
      (pss_one (ps_ret (pe_ix (ix_listK K) (pv 2) (pe_op op_mod (pv 0) pe_int) (fun _ _ => rfl))))))), ?_⟩
    walk_at "rd"
    intro q0 hq0
    walk_at "rd"
    generalize c / 64 % m = kd at kd0 kd1 ⊢
    intro q1 hq1
    walk_at "rd"
    intro q2 hq2
    walk_at "rd"
    intro q3 hq3
    walk_at "rd"
    intro q4 hq4
    walk_at "rd"
    intro q5 hq5
    walk_at "rd"
    intro l1 hl1
    walk_at "rd"
    intro q6 hq6
    walk_at "rd"
    intro q7 hq7
    walk_at "rd"
    intro q8 hq8
    walk_at "rd"
    intro l2 hl2
    refine ⟨l1, l2, _, _, rfl, rfl, by walk_at "hp", upd_same, by show 5 + 3 ≤ sizeLine; decide, fun l3 hl3 => ?_⟩
    walk_at "rd"
    obtain ⟨j, hj, ej⟩ := mod_nat c 8 (by decide)
    have ej' : c % 8 = (j : Int) := ej
    rw [ej']
    have hj' : j = 0 ∨ j = 1 ∨ j = 2 ∨ j = 3 ∨ j = 4 ∨ j = 5 ∨ j = 6 ∨ j = 7 := by omega
    have m8 := mod_lo (c / 2048) (n := 8) (by decide)
    have m8' := mod_hi (c / 2048) (n := 8) (by decide)
    have m10 := mod_lo (c / 2048) (n := 10) (by decide)
    have m10' := mod_hi (c / 2048) (n := 10) (by decide)
    rcases hj' with rfl | rfl | rfl | rfl | rfl | rfl | rfl | rfl
    · exact r_ixL (SqL.of upd_same) (atI_nat rfl) (k q1 .plain _ (by walk_at "sm") trivial (by walk_at "hp"))
    · exact r_ixL (SqL.of upd_same) (atI_nat rfl) (k q2 (.door kd) _ (by walk_at "sm") ⟨kd0, kd1⟩ (by walk_at "hp"))
    · exact r_ixL (SqL.of upd_same) (atI_nat rfl) (k q3 (.door kd) _ (by walk_at "sm") ⟨kd0, kd1⟩ (by walk_at "hp"))
    · exact r_ixL (SqL.of upd_same) (atI_nat rfl) (k q4 (.need kd) _ (by walk_at "sm") ⟨kd0, kd1⟩ (by walk_at "hp"))
    · exact r_ixL (SqL.of upd_same) (atI_nat rfl) (k q5 (.bar (c / 2048 % 8)) _ (by walk_at "sm") ⟨m8, m8'⟩ (by walk_at "hp"))
    · exact r_ixL (SqL.of upd_same) (atI_nat rfl) (k q6 (.wade (c / 2048 % 10) kd) _ (by walk_at "sm") ⟨⟨m10, m10'⟩, kd0, kd1⟩ (by walk_at "hp"))
    · exact r_ixL (SqL.of upd_same) (atI_nat rfl) (k q7 (.float (c / 2048 % 10)) _ (by walk_at "sm") ⟨m10, m10'⟩ (by walk_at "hp"))
    · exact r_ixL (SqL.of upd_same) (atI_nat rfl) (k q8 .plain _ (by walk_at "sm") trivial (by walk_at "hp"))
theorem ok_cellar (T : Txt mg) (L : Laid K mg "_law_cellar" s__law_cellar ["_law_script"]) (C__law_cell : Cal P w K mg base 1 "_law_cell" ["_law_script", "_law_k"] (spCell K)) (C__law_gate : Cal P w K mg base 1 "_law_gate" ["_law_cell_here"] spGate) : Cal P w K mg base 2 "_law_cellar" ["_law_script"] (spCellar K) := by
  refine L.cal (k := 1) sc__law_cellar (fun vs H Q E h => ?_) (fun f cdv A outer s H vs Q E hr h => ?_)
  · obtain ⟨a, ns, rfl, _⟩ := h
    rfl
  · obtain ⟨a, ns, rfl, hS, hl, k⟩ := h
    have big := line_big
    have hl2 : ((ns.map V.int).length : Int) ≤ 63 := by rw [List.length_map]; omega
    refine ⟨_, (pss_cons (ps_set (i := 1) sc__law_cellar.nd rfl (Or.inl rfl) (pe_cal C__law_cell hr (by decide) rfl (pa_cons (pv 0) (pa_cons pe_int pa_nil))))
      (pss_cons (ps_set (i := 2) sc__law_cellar.nd rfl (Or.inl rfl) (pe_op op_add pe_int (pe_op op_mod (pe_op op_fdiv (pv 1) pe_int) (pe_ix (ix_listK K) (pe_lst (pa_cons pe_int (pa_cons pe_int (pa_cons pe_int (pa_cons pe_int pa_nil))))) (pe_op op_mod (pv 1) pe_int) (fun _ _ => rfl)))))
      (pss_cons (ps_set (i := 3) sc__law_cellar.nd rfl (Or.inl rfl) (pe_lst (pa_cons (pe_lst pa_nil) (pa_cons (pe_lst pa_nil) (pa_cons (pe_lst pa_nil) (pa_cons (pe_lst pa_nil) pa_nil))))))
      (pss_cons (ps_for PassesOwn.never rfl (pi_range2 rfl T.n_range (pa_cons pe_int (pa_cons (pe_callB (min2 rfl) rfl T.n_min bt_min (pa_cons (pe_callB (lenK K) rfl T.n_len bt_len (pa_cons (pv 0) pa_nil)) (pa_cons pe_int pa_nil))) pa_nil))) (pg_name (i := 4) sc__law_cellar.nd rfl (Or.inl rfl)) (pss_cons (ps_set (i := 1) sc__law_cellar.nd rfl (Or.inl rfl) (pe_cal C__law_cell hr (by decide) rfl (pa_cons (pv 0) (pa_cons (pv 4) pa_nil))))
      (pss_cons (ps_set (i := 5) sc__law_cellar.nd rfl (Or.inl rfl) (pe_op op_mod (pe_op op_fdiv (pv 1) pe_int) (pv 2)))
      (pss_one (ps_if (PW.pt (pw_and (pt_cmpR op_lt (pe_op op_mod (pv 1) pe_int) pe_int (nomark _)) (pw_and (pt_cmpR op_gt (pv 2) pe_int (nomark _)) (pw_and1 (pt_cmpR op_lt (pe_callB (lenK K) rfl T.n_len bt_len (pa_cons (pe_ix (ix_listK K) (pv 3) pe_int (fun _ _ => rfl)) pa_nil)) pe_int (nomark _)))))) (pss_cons (ps_set (i := 6) sc__law_cellar.nd rfl (Or.inl rfl) (pe_op op_mod (pe_op op_add (pe_op op_add (pv 5) pe_int) (pe_op op_mod (pe_op op_fdiv (pv 1) pe_int) (pe_op op_sub (pv 2) pe_int))) (pv 2)))
      (pss_one (ps_expr (pe_bm PySem.F.plainAttrs_list PySem.F.slot_list_append PySem.F.type_list_append mt_append (pe_ix (ix_listK K) (pv 3) pe_int (fun _ _ => rfl)) (pa_cons (pe_tup (pa_cons (pv 5) (pa_cons (pv 6) (pa_cons (pe_cal C__law_gate hr (by decide) rfl (pa_cons (pe_op op_fdiv (pv 1) pe_int) pa_nil)) (pa_cons (pe_cmpR op_gt (pe_op op_mod (pe_op op_fdiv (pv 1) pe_int) pe_int) pe_int (nomark _)) pa_nil))))) pa_nil))))) (pss_one (ps_if (PW.pt (pw_and (pt_cmpR (op_in_seqK K) (pe_op op_mod (pv 1) pe_int) (pe_tup (pa_cons pe_int (pa_cons pe_int pa_nil))) (by with_unfolding_all rfl)) (pw_and1 (pt_cmpR op_lt (pe_callB (lenK K) rfl T.n_len bt_len (pa_cons (pe_ix (ix_listK K) (pv 3) pe_int (fun _ _ => rfl)) pa_nil)) pe_int (nomark _))))) (pss_one (ps_expr (pe_bm PySem.F.plainAttrs_list PySem.F.slot_list_append PySem.F.type_list_append mt_append (pe_ix (ix_listK K) (pv 3) pe_int (fun _ _ => rfl)) (pa_cons (pe_tup (pa_cons (pv 5) (pa_cons (pe_op op_mod (pe_op op_fdiv (pv 1) pe_int) (pe_ix (ix_listK K) (pe_lst (pa_cons pe_int (pa_cons pe_int pa_nil))) (pe_op op_mod (pe_op op_fdiv (pv 1) pe_int) pe_int) (fun _ _ => rfl))) pa_nil))) pa_nil)))) (pss_one (ps_if (PW.pt (pw_and (pt_cmpR op_eq (pe_op op_mod (pv 1) pe_int) pe_int (nomark _)) (pw_and1 (pt_cmpR op_lt (pe_callB (lenK K) rfl T.n_len bt_len (pa_cons (pe_ix (ix_listK K) (pv 3) pe_int (fun _ _ => rfl)) pa_nil)) pe_int (nomark _))))) (pss_one (ps_expr (pe_bm PySem.F.plainAttrs_list PySem.F.slot_list_append PySem.F.type_list_append mt_append (pe_ix (ix_listK K) (pv 3) pe_int (fun _ _ => rfl)) (pa_cons (pe_tup (pa_cons (pv 5) (pa_cons (pe_op op_add pe_int (pe_op op_mod (pe_op op_fdiv (pv 1) pe_int) pe_int)) pa_nil))) pa_nil)))) (pss_one (ps_if (PW.pt (pw_and (pt_cmpR op_eq (pe_op op_mod (pv 1) pe_int) pe_int (nomark _)) (pw_and1 (pt_cmpR op_lt (pe_callB (lenK K) rfl T.n_len bt_len (pa_cons (pe_ix (ix_listK K) (pv 3) pe_int (fun _ _ => rfl)) pa_nil)) pe_int (nomark _))))) (pss_one (ps_expr (pe_bm PySem.F.plainAttrs_list PySem.F.slot_list_append PySem.F.type_list_append mt_append (pe_ix (ix_listK K) (pv 3) pe_int (fun _ _ => rfl)) (pa_cons (pe_tup (pa_cons (pv 5) (pa_cons (pe_op op_mod (pe_op op_fdiv (pv 1) pe_int) pe_int) pa_nil))) pa_nil)))) pss_nil)))))))))))
      (pss_cons (ps_set (i := 1) sc__law_cellar.nd rfl (Or.inl rfl) (pe_cal C__law_cell hr (by decide) rfl (pa_cons (pv 0) (pa_cons pe_int pa_nil))))
      (pss_cons (ps_asg (pe_comp (compOk (N := ["_law_some"]) (own := 1) (caps := []) ["_law_script", "_law_cell_here", "_law_rooms_here", "_law_lists", "_law_k", "_law_room", "_law_other", "_law_ways", "_law_things", "_law_levers", "_law_wheels", "_law_ends", "_law_more"] (defScope s__law_cellar) (by decide +kernel)) rfl (pi_listK K (pv 3)) (fun _ _ _ _ => (pg_name (i := 0) (show List.Nodup (["_law_some"] : List Str) by decide +kernel) rfl (Or.inl rfl))) (fun _ _ _ _ => pf_nil) (fun _ _ _ _ => (pe_callTy (tupOfK K) rfl T.n_tuple bt_tuple (pa_cons (pv 0) pa_nil)))) (pg_lstK (n := 4) K rfl (pgs_cons (pg_name (i := 7) sc__law_cellar.nd rfl (Or.inl rfl)) (pgs_cons (pg_name (i := 8) sc__law_cellar.nd rfl (Or.inl rfl)) (pgs_cons (pg_name (i := 9) sc__law_cellar.nd rfl (Or.inl rfl)) (pgs_cons (pg_name (i := 10) sc__law_cellar.nd rfl (Or.inl rfl)) pgs_nil))))))
      (pss_cons (ps_set (i := 11) sc__law_cellar.nd rfl (Or.inl rfl) (pe_tup (pa_cons (pe_op op_mod (pv 1) (pv 2)) (pa_cons (pe_op op_mod (pe_op op_fdiv (pv 1) pe_int) (pv 2)) pa_nil))))
      (pss_cons (ps_set (i := 12) sc__law_cellar.nd rfl (Or.inl rfl) (pe_tup (pa_cons (pe_op op_mod (pe_op op_fdiv (pv 1) pe_int) pe_int) (pa_cons (pe_op op_mod (pe_op op_fdiv (pv 1) pe_int) pe_int) pa_nil))))
      (pss_one (ps_ret (pe_op (op_catTK K) (pe_op (op_catTK K) (pe_op (op_catTK K) (pe_tup (pa_cons (pv 2) pa_nil)) (pv 11)) (pe_tup (pa_cons (pv 7) (pa_cons (pv 8) (pa_cons (pv 9) (pa_cons (pv 10) pa_nil)))))) (pv 12)))))))))))), ?_⟩
    walk_at "rd"
    refine ⟨a, ns, 0, rfl, hS, hl, by decide, by decide, fun c0 hc0 hc0' => ?_⟩
    obtain ⟨m4, hm4, em4⟩ := atI_mod4 (x := c0)
    have hm0 : (0 : Int) < m4 := by omega
    have r1 : 1 ≤ 1 + c0 / 4 % m4 := by have := mod_lo (c0 / 4) hm0; omega
    have r2 : 1 + c0 / 4 % m4 ≤ 14 := by have := mod_hi (c0 / 4) hm0; omega
    walk_at "rd"
    intro q0 hq0
    walk_at "rd"
    generalize 1 + c0 / 4 % m4 = R at r1 r2 ⊢
    intro l0 hl0
    walk_at "rd"
    intro l1 hl1
    walk_at "rd"
    intro l2 hl2'
    walk_at "rd"
    intro l3 hl3
    walk_at "rd"
    intro Ls hLs
    have Hq0 : Same H (upd H q0 (.lst [.int 3, .int 4, .int 6, .int 14])) := Same.upd hq0
    have Hl0 := Hq0.trans (Same.upd (o := .lst []) hl0)
    have Hl1 := Hl0.trans (Same.upd (o := .lst []) hl1)
    have Hl2 := Hl1.trans (Same.upd (o := .lst []) hl2')
    have Hl3 := Hl2.trans (Same.upd (o := .lst []) hl3)
    have HLs := Hl3.trans (Same.upd (o := .lst [.ref l0, .ref l1, .ref l2, .ref l3]) hLs)
    have n0 : H l0 = none := Hq0.free hl0
    have n1 : H l1 = none := Hl0.free hl1
    have n2 : H l2 = none := Hl1.free hl2'
    have n3 : H l3 = none := Hl2.free hl3
    have AP : Apart Ls l0 l1 l2 l3 :=
      { L0 := (ne_of_none (by walk_at "hp") hLs).symm
        L1 := (ne_of_none (by walk_at "hp") hLs).symm
        L2 := (ne_of_none (by walk_at "hp") hLs).symm
        L3 := (ne_of_none (by walk_at "hp") hLs).symm
        e01 := ne_of_none (by walk_at "hp") hl1
        e02 := ne_of_none (by walk_at "hp") hl2'
        e03 := ne_of_none (by walk_at "hp") hl3
        e12 := ne_of_none (by walk_at "hp") hl2'
        e13 := ne_of_none (by walk_at "hp") hl3
        e23 := ne_of_none (by walk_at "hp") hl3 }
    walk_at "rd"
    refine for_rng (fun i σ H' => ∃ c kk rm ot, σ = [some (.ref a), c, some (.int R), some (.ref Ls), kk, rm, ot, none, none, none, none, none, none] ∧ Same H H' ∧ Four H' R Ls l0 l1 l2 l3) ⟨_, none, none, none, rfl, HLs, ?_⟩ ?_ ?_
    · exact ⟨upd_same, Grown.none (by walk_at "hp"), Grown.none (by walk_at "hp"), Grown.none (by walk_at "hp"), Grown.none (by walk_at "hp")⟩
    · rintro i σ H' hi ⟨c, kk, rm, ot, rfl, s1, F⟩
      have hi2 : (4 : Int) + (i : Nat) ≤ 60 := by
        have : i < ((if (60 : Int) < ((ns.map V.int).length : Int) then (60 : Int) else ((ns.map V.int).length : Int)) - 4).toNat := hi
        split at this <;> omega
      have eL := F.hL
      obtain ⟨x0, e0, z0⟩ := F.g0.at
      obtain ⟨x1, e1, z1⟩ := F.g1.at
      obtain ⟨x2, e2, z2⟩ := F.g2.at
      obtain ⟨x3, e3, z3⟩ := F.g3.at
      have R0 : (0 : Int) < R := by omega
      walk_at "rd"
      refine ⟨a, ns, _, rfl, s1.seq hS, hl, by omega, by omega, fun c1 hc1 hc1' => ?_⟩
      walk_at "rd"
      have rm0 := mod_lo (c1 / 8) R0
      have rm1 := mod_hi (c1 / 8) R0
      generalize c1 / 8 % R = rm' at rm0 rm1 ⊢
      refine if_else ?_ (fun els d1 => ?_)
      · -- no way
        walk_at "rd"
        intro t5 ht5
        have s5 : Same H' (upd H' t5 (.tup [.int 4, .int 5])) := Same.upd ht5
        refine ⟨t5, _, rfl, .inr (SqT.of upd_same), rfl, rfl, ?_⟩
        rw [if_neg Bool.false_ne_true, in45]
        have F5 := F.same s5
        have s15 := s1.trans s5
        have eL5 := s5 _ _ eL
        have e15 := s5 _ _ e1
        have e25 := s5 _ _ e2
        have e35 := s5 _ _ e3
        generalize upd H' t5 (.tup [.int 4, .int 5]) = H5 at s5 F5 s15 eL5 e15 e25 e35 ⊢
        walk_at "rd"
        refine if_else ?_ (fun els d1 => ?_)
        · walk_at "rd"
          refine if_else ?_ (fun els d1 => ?_)
          · walk_at "rd"
            refine if_else ?_ (fun els d1 => ?_)
            · walk_at "rd"
              exact ⟨_, _, _, _, rfl, s15, F5⟩
            · walk_at "rd"
              refine ifd (fun d2 => ?_) (fun d2 => els)
              have v0 := mod_lo (c1 / 128) (n := 10) (by decide)
              have v1 := mod_hi (c1 / 128) (n := 10) (by decide)
              walk_at "rd"
              intro p6 hp6
              walk_at "rd"
              refine r_app (up_keep e35 hp6) (by omega) ?_
              refine ⟨_, _, _, _, rfl, (s15.trans (Same.upd hp6)).put n3, ?_⟩
              exact (F5.same (Same.upd hp6)).wheel AP (up_keep e35 hp6) (by omega) (x := (rm', c1 / 128 % 10)) upd_same ⟨⟨rm0, rm1⟩, v0, by omega⟩
          · walk_at "rd"
            refine ifd (fun d2 => ?_) (fun d2 => els)
            have v0 := mod_lo (c1 / 128) (n := 255) (by decide)
            have v1 := mod_hi (c1 / 128) (n := 255) (by decide)
            walk_at "rd"
            intro p6 hp6
            walk_at "rd"
            refine r_app (up_keep e25 hp6) (by omega) ?_
            refine ⟨_, _, _, _, rfl, (s15.trans (Same.upd hp6)).put n2, ?_⟩
            exact (F5.same (Same.upd hp6)).lever AP (up_keep e25 hp6) (by omega) (x := (rm', 1 + c1 / 128 % 255)) upd_same ⟨⟨rm0, rm1⟩, by omega, by omega⟩
        · walk_at "rd"
          refine ifd (fun d2 => ?_) (fun d2 => els)
          obtain ⟨m, hm, em⟩ := atI_mod2 (x := c1 / 2048)
          have hm0 : (0 : Int) < m := by omega
          have kd0 := mod_lo (c1 / 128) hm0
          have kd1 : c1 / 128 % m < 12 := by have := mod_hi (c1 / 128) hm0; omega
          walk_at "rd"
          intro q7 hq7
          walk_at "rd"
          intro p6 hp6
          walk_at "rd"
          have s7 : Same H5 (upd H5 q7 (.lst [.int 2, .int 12])) := Same.upd hq7
          refine r_app (up_keep (up_keep e15 hq7) hp6) (by omega) ?_
          refine ⟨_, _, _, _, rfl, ((s15.trans s7).trans (Same.upd hp6)).put n1, ?_⟩
          exact (F5.same (s7.trans (Same.upd hp6))).thing AP (up_keep (up_keep e15 hq7) hp6) (by omega) (x := (rm', c1 / 128 % m)) upd_same ⟨⟨rm0, rm1⟩, kd0, by omega⟩
      · walk_at "rd"
        refine ifd (fun d2 => ?_) (fun d2 => els)
        walk_at "rd"
        refine ifd (fun d3 => ?_) (fun d3 => els)
        have ot0 := mod_lo (c1 / 128) (n := R - 1) (by omega)
        have ot1 := mod_hi (c1 / 128) (n := R - 1) (by omega)
        have R1 : (0 : Int) < R - 1 := by omega
        have b0 := mod_lo (rm' + 1 + c1 / 128 % (R - 1)) R0
        have b1 := mod_hi (rm' + 1 + c1 / 128 % (R - 1)) R0
        have b2 := way_ne rm0 rm1 ot0 ot1
        walk_at "rd"
        refine ⟨_, rfl, fun g gt H3 s3 gok hg => ?_⟩
        walk_at "rd"
        intro p6 hp6
        walk_at "rd"
        have s6 := s3.trans (Same.upd (o := .tup [.int rm', .int ((rm' + 1 + c1 / 128 % (R - 1)) % R), .ref g, .bl (decide (0 < c1 / 4096 % 3))]) hp6)
        refine r_app (s6 _ _ e0) (by omega) ?_
        refine ⟨_, _, _, _, rfl, (s1.trans s6).put n0, ?_⟩
        exact (F.same s6).way AP (s6 _ _ e0) (by omega) (x := ⟨rm', (rm' + 1 + c1 / 128 % (R - 1)) % R, gt, decide (0 < c1 / 4096 % 3)⟩) ⟨g, upd_same, up_keep hg hp6⟩ ⟨⟨rm0, rm1⟩, ⟨b0, b1⟩, fun z => b2 z.symm, gok⟩
    · rintro σ H' ⟨c, kk, rm, ot, rfl, s1, F⟩
      walk_at "rd"
      refine ⟨a, ns, 1, rfl, s1.seq hS, hl, by decide, by decide, fun c1 hc1 hc1' => ?_⟩
      have eL := F.hL
      obtain ⟨ws, ⟨ps0, e0, w0⟩, z0, k0⟩ := F.g0.ex
      obtain ⟨ts, ⟨ps1, e1, w1⟩, z1, k1⟩ := F.g1.ex
      obtain ⟨lvs, ⟨ps2, e2, w2⟩, z2, k2⟩ := F.g2.ex
      obtain ⟨whs, ⟨ps3, e3, w3⟩, z3, k3⟩ := F.g3.ex
      walk_at "rd"
      intro D hD
      refine comp_lst [.ref l0, .ref l1, .ref l2, .ref l3] (fun i σ H2 => ∃ v0, σ = [v0] ∧ Same H' H2 ∧ ∃ us : List Addr, us.length = i ∧ H2 D = some (.lst (us.map V.ref)) ∧ ∀ j u, us[j]? = some u → ∃ xs : List Addr, [ps0, ps1, ps2, ps3][j]? = some xs ∧ H2 u = some (.tup (xs.map V.ref))) ⟨none, rfl, Same.upd hD, [], rfl, upd_same, fun j u h => by rw [List.getElem?_nil] at h; cases h⟩ ?_ ?_ ?_
      · rintro i σ H2 ⟨v0, rfl, s2, _⟩
        exact SqL.of (s2 _ _ eL)
      · rintro i x σ H2 hx ⟨v0, rfl, s2, us, hul, hus, huj⟩
        have hi : i < 4 := (List.getElem?_eq_some_iff.mp hx).1
        obtain ⟨l, ps, ex, eps, hlp⟩ : ∃ l ps, x = .ref l ∧ [ps0, ps1, ps2, ps3][i]? = some ps ∧ H2 l = some (.lst (ps.map V.ref)) := by
          have hi' : i = 0 ∨ i = 1 ∨ i = 2 ∨ i = 3 := by omega
          rcases hi' with rfl | rfl | rfl | rfl
          · exact ⟨l0, ps0, (Option.some.inj hx).symm, rfl, s2 _ _ e0⟩
          · exact ⟨l1, ps1, (Option.some.inj hx).symm, rfl, s2 _ _ e1⟩
          · exact ⟨l2, ps2, (Option.some.inj hx).symm, rfl, s2 _ _ e2⟩
          · exact ⟨l3, ps3, (Option.some.inj hx).symm, rfl, s2 _ _ e3⟩
        subst ex
        walk_at "rd"
        refine r_tol (SqL.of hlp) fun t6 ht6 => ?_
        have s6 : Same H2 (upd H2 t6 (.tup (ps.map V.ref))) := Same.upd ht6
        have hD2 : D ≠ t6 := ne_of_none hus ht6
        refine ⟨_, s6 _ _ hus, by rw [List.length_map]; omega, _, rfl, (s2.trans s6).put hD, us ++ [t6], by simp [hul], by rw [upd_same]; simp, fun j u hj => ?_⟩
        by_cases hjl : j < us.length
        · rw [List.getElem?_append_left hjl] at hj
          obtain ⟨xs, h1, h2⟩ := huj j u hj
          have h3 := s6 _ _ h2
          exact ⟨xs, h1, up_oth h3 (ne_of h3 (s6 _ _ hus) (by intro z; cases z))⟩
        · have hje : j = us.length := by
            have := (List.getElem?_eq_some_iff.mp hj).1
            simp at this
            omega
          subst hje
          rw [List.getElem?_append_right (Nat.le_refl _)] at hj
          simp at hj
          subst hj
          exact ⟨ps, by rw [hul]; exact eps, up_oth upd_same (fun z => hD2 z.symm)⟩
      · rintro σ H2 ⟨v0, rfl, s2, us, hul, hus, huj⟩
        have hul4 : us.length = 4 := hul
        obtain ⟨u0, u1, u2, u3, rfl⟩ : ∃ u0 u1 u2 u3, us = [u0, u1, u2, u3] := by
          match us, hul4 with
          | [u0, u1, u2, u3], _ => exact ⟨u0, u1, u2, u3, rfl⟩
        obtain ⟨_, q0, h0⟩ := huj 0 u0 rfl
        obtain ⟨_, q1, h1⟩ := huj 1 u1 rfl
        obtain ⟨_, q2, h2⟩ := huj 2 u2 rfl
        obtain ⟨_, q3, h3⟩ := huj 3 u3 rfl
        cases q0
        cases q1
        cases q2
        cases q3
        replace hus : H2 D = some (.lst [.ref u0, .ref u1, .ref u2, .ref u3]) := hus
        have R0 : (0 : Int) < R := by omega
        walk_at "rd"
        intro t1 ht1
        walk_at "rd"
        intro t2 ht2
        walk_at "rd"
        intro t3 ht3
        walk_at "rd"
        refine r_catT (by walk_at "sq") (by walk_at "sq") (by simp) (by simp) rfl ?_
        intro t4 ht4
        walk_at "rd"
        intro t5 ht5
        walk_at "rd"
        refine r_catT (by walk_at "sq") (by walk_at "sq") (by simp) (by simp) rfl ?_
        intro t6 ht6
        walk_at "rd"
        refine r_catT (by walk_at "sq") (by walk_at "sq") (by simp) (by simp) rfl ?_
        intro t7 ht7
        have s12 := s1.trans s2
        have fin : ∀ Hf, Same H2 Hf → Hf t7 = some (.tup [.int R, .int (c1 % R), .int (c1 / 14 % R), .ref u0, .ref u1, .ref u2, .ref u3, .int (c1 / 256 % 256), .int (c1 / 65536 % 10)]) → ClOk ⟨R, c1 % R, c1 / 14 % R, ws, ts, lvs, whs, c1 / 256 % 256, c1 / 65536 % 10⟩ → Q (.ref t7) Hf := fun Hf sA e okC =>
          k t7 ⟨R, c1 % R, c1 / 14 % R, ws, ts, lvs, whs, c1 / 256 % 256, c1 / 65536 % 10⟩ Hf (s12.trans sA) ⟨u0, u1, u2, u3, e, ⟨ps0, sA _ _ h0, w0.mono fun _ _ => WayAt.mono (s2.trans sA).ts⟩, ⟨ps1, sA _ _ h1, w1.mono fun _ _ => PairAt.mono (s2.trans sA).ts⟩, ⟨ps2, sA _ _ h2, w2.mono fun _ _ => PairAt.mono (s2.trans sA).ts⟩, ⟨ps3, sA _ _ h3, w3.mono fun _ _ => PairAt.mono (s2.trans sA).ts⟩⟩ okC
        refine fin _ (by walk_at "sm") upd_same ?_
        have f0 := mod_lo c1 R0
        have f1 := mod_hi c1 R0
        have g0 := mod_lo (c1 / 14) R0
        have g1 := mod_hi (c1 / 14) R0
        have b0 := mod_lo (c1 / 256) (n := 256) (by decide)
        have b1 := mod_hi (c1 / 256) (n := 256) (by decide)
        have v0 := mod_lo (c1 / 65536) (n := 10) (by decide)
        have v1 := mod_hi (c1 / 65536) (n := 10) (by decide)
        exact ⟨r1, r2, ⟨f0, f1⟩, ⟨g0, g1⟩, z0, z1, z2, z3, k0, fun x hx => ⟨(k1 x hx).1, (k1 x hx).2.1, by have := (k1 x hx).2.2; omega⟩, k2, k3, ⟨b0, by show c1 / 256 % 256 ≤ 255; omega⟩, ⟨v0, by show c1 / 65536 % 10 ≤ 9; omega⟩⟩
end
theorem r_tryD {sp : Sp} {dvs : List V} {t : TA} {th : TH} {D : Ends} {σ : St} {H : Hp} (q : t σ H fun vs H1 => sp (vs ++ dvs) H1 (fun _ H2 => D.nx σ H2) (fun cls _ H' => th cls D σ H')) : tTryH (xDrop (xCall sp dvs t)) th D σ H := q
theorem r_slA {K : PySem.W.Frag} {H : Hp} {Q : VK} {a : Addr} {xs : List V} {lo hi : Option Int} (h : H a = some (.tup xs)) (q : ∀ (r : Addr) (H' : Hp), Same H H' → H' r = some (.tup (cutV xs lo hi)) → Q (.ref r) H') : rSlTA K (.ref a) lo hi H Q :=
  ⟨a, xs, rfl, SqT.of h, fun e => q a H (Same.refl _) (by rw [e]; exact h), fun p hp => q p _ (Same.upd hp) upd_same⟩
theorem r_catA {K : PySem.W.Frag} {H : Hp} {Q : VK} {a b : Addr} {xs ys : List V} (h : H a = some (.tup xs)) (h2 : H b = some (.tup ys)) (hz : xs.length + ys.length ≤ sizeLine) (q : ∀ (r : Addr) (H' : Hp), Same H H' → H' r = some (.tup (xs ++ ys)) → Q (.ref r) H') : rCatTA K (.ref a) (.ref b) H Q :=
  ⟨a, b, xs, ys, rfl, rfl, SqT.of h, SqT.of h2, hz, fun e => q b H (Same.refl _) (by rw [e]; exact h2), fun _ e => q a H (Same.refl _) (by rw [e, List.append_nil]; exact h), fun _ _ p hp => q p _ (Same.upd hp) upd_same⟩
theorem cutO_lo (os : List (Option Int)) (i : Nat) (h : i ≤ os.length) : cutV (os.map vO) none (some (i : Int)) = (os.take i).map vO := by
  unfold cutV
  rw [HT.sIx_none, HT.sIx_nat, List.drop_zero, List.length_map, Nat.min_eq_left h, Nat.sub_zero, List.map_take]
theorem cutO_hi (os : List (Option Int)) (i : Nat) : cutV (os.map vO) (some (i : Int)) none = (os.drop i).map vO := by
  unfold cutV
  rw [HT.sIx_none, HT.sIx_nat, List.length_map]
  by_cases h : i ≤ os.length
  · rw [Nat.min_eq_left h, List.take_of_length_le (by simp), List.map_drop]
  · rw [Nat.min_eq_right (by omega), List.drop_eq_nil_of_le (by simp), List.drop_eq_nil_of_le (by omega : os.length ≤ i)]
    simp
theorem kinds_some (ks : List Int) : kindsO (ks.map some) = ks := by
  induction ks with
  | nil => rfl
  | cons k ks ih => show k :: kindsO (ks.map some) = _; rw [ih]
theorem kinds_mem {os : List (Option Int)} {k : Int} (h : k ∈ kindsO os) : some k ∈ os := by
  obtain ⟨x, hx, e⟩ := List.mem_filterMap.mp h
  cases x with
  | none => cases e
  | some y => cases e; exact hx
theorem mem_kinds {os : List (Option Int)} {k : Int} (h : some k ∈ os) : k ∈ kindsO os := List.mem_filterMap.mpr ⟨_, h, rfl⟩
section
variable {P : Program} {w : World} {K : PySem.W.Frag} {mg : Str → Option Value} {base : Heap} {xs : Xs}
end
section
variable {P : Program} {w : World} {K : PySem.W.Frag} {mg : Str → Option Value} {base : Heap} {xs : Xs}
end

theorem lst_snoc {α : Type} {At : Hp → Addr → α → Prop} {H : Hp} {D x : Addr} {ps : List Addr} {xs : List α} {y : α} (mo : ∀ q z, At H q z → At (upd H D (.lst (ps.map V.ref ++ [.ref x]))) q z) (hr : Rows At H ps xs) (hx : At H x y) : LstOf At (upd H D (.lst (ps.map V.ref ++ [.ref x]))) D (xs ++ [y]) :=
  ⟨ps ++ [x], by rw [upd_same, List.map_append]; rfl, (hr.mono mo).snoc (mo _ _ hx)⟩

variable {P : Program} {w : World} {K : PySem.W.Frag} {mg : Str → Option Value} {base : Heap} {cs : Cs}


variable {P : Program} {w : World} {K : PySem.W.Frag} {mg : Str → Option Value} {base : Heap} {xs : Xs}
theorem cut_lo (ks : List Int) (i : Nat) (h : i ≤ ks.length) : cutV (ks.map V.int) none (some (i : Int)) = (ks.take i).map V.int := by
  unfold cutV
  rw [HT.sIx_none, HT.sIx_nat, List.drop_zero, List.length_map, Nat.min_eq_left h, Nat.sub_zero, List.map_take]
theorem cut_hi (ks : List Int) (i : Nat) : cutV (ks.map V.int) (some (i : Int)) none = (ks.drop i).map V.int := by
  unfold cutV
  rw [HT.sIx_none, HT.sIx_nat, List.length_map]
  by_cases h : i ≤ ks.length
  · rw [Nat.min_eq_left h, List.take_of_length_le (by simp), List.map_drop]
  · rw [Nat.min_eq_right (by omega), List.drop_eq_nil_of_le (by simp), List.drop_eq_nil_of_le (by omega : ks.length ≤ i)]
    simp

variable {P : Program} {w : World} {K : PySem.W.Frag} {mg : Str → Option Value} {base : Heap} {xs : Xs}

section
variable {P : Program} {w : World} {K : PySem.W.Frag} {mg : Str → Option Value} {base : Heap}
theorem cal_none {x : Str} {st : Stmt} {ps : List Str} {sp : Sp} (L : Laid K mg x st ps) (k : Nat) (h : ∀ vs H Q E, ¬ sp vs H Q E) : Cal P w K mg base k x ps sp := by
  obtain ⟨f, fd, F, m, b⟩ := L.ex
  exact ⟨f, fd, ⟨fun vs H Q E z => absurd z (h vs H Q E), fun _ _ _ _ _ _ _ _ _ _ _ _ _ z => absurd z (h _ _ _ _)⟩, m, F.kp, b⟩
end

theorem r_lenSet {K : PySem.W.Frag} {te : TE} {σ : St} {H : Hp} {Q : VK} (q : te σ H fun v H1 => ∃ a ns, v = .ref a ∧ SqL K H1 a (ns.map V.int) ∧ ns.length ≤ 50 ∧ Q (.int (dif ns)) H1) : tLenSet K te σ H Q := q
theorem r_zipM {K : PySem.W.Frag} {ta : TA} {σ : St} {H : Hp} {R : It → Hp → Prop} (q : ta σ H fun vs H1 => ∃ a b, vs = [.ref a, .ref b] ∧ (∃ xs, SqL K H1 a xs) ∧ (∃ ys, SqT K H1 b ys) ∧ R (ItzM K a b) H1) : iZipM K ta σ H R := q
structure PlOk (C : Cl) (ns : List Int) : Prop where
  d : ns.Nodup
  r : ∀ x ∈ ns, 0 ≤ x ∧ x ≤ C.rooms - 1
def thg (zs : List (Int × Option Int)) : List (Int × Int) := zs.filterMap fun x => x.2.map fun k => (x.1, k)
def DlOk (C : Cl) (ns : List Int) (os : List (Option Int)) : Prop := PlOk C ns ∧ OGood os ∧ os.length = ns.length
def spCP (C0 : Addr) : Sp := fun vs H Q E => ∃ (c p : Addr) (C : Cl) (ns : List Int), vs = [.ref c, .ref p] ∧ ClAt H c C ∧ H p = some (.lst (ns.map V.int)) ∧ ns.length ≤ 50 ∧ (∀ x ∈ ns, Sml x) ∧ (PlOk C ns → Q .non H) ∧ (¬ PlOk C ns → E (.ref C0) none H)
def spDl (C0 : Addr) : Sp := fun vs H Q E => ∃ (c p q : Addr) (C : Cl) (ns : List Int) (os : List (Option Int)), vs = [.ref c, .ref p, .ref q] ∧ ClAt H c C ∧ H p = some (.lst (ns.map V.int)) ∧ ns.length ≤ 50 ∧ (∀ x ∈ ns, Sml x) ∧ H q = some (.tup (os.map vO)) ∧ os.length ≤ 1000 ∧ (∀ k ∈ kindsO os, Sml k) ∧
  (DlOk C ns os → ∀ (r : Addr) (H' : Hp), Same H H' → ClAt H' r { C with things := thg (ns.zip os) } → Q (.ref r) H') ∧ (¬ DlOk C ns os → ∀ H', Same H H' → E (.ref C0) none H')
theorem thg_succ {ns : List Int} {os : List (Option Int)} {i : Nat} (h1 : i < ns.length) (h2 : i < os.length) : thg ((ns.zip os).take (i + 1)) = thg ((ns.zip os).take i) ++ (match os[i] with | none => [] | some k => [(ns[i], k)]) := by
  have hz : i < (ns.zip os).length := by rw [List.length_zip]; omega
  rw [List.take_succ_eq_append_getElem hz, thg, List.filterMap_append, ← thg, List.getElem_zip]
  cases os[i] <;> rfl
theorem thg_le (zs : List (Int × Option Int)) : (thg zs).length ≤ zs.length := List.length_filterMap_le _ _
section
variable {P : Program} {w : World} {K : PySem.W.Frag} {mg : Str → Option Value} {base : Heap} {xs : Xs}
theorem ok_cp (T : Txt mg) (TX : Tx K mg xs) (L : Laid K mg "check_places" s_check_places ["cellar", "places"]) (C_within : Cal P w K mg base 1 "within" ["number", "least", "most"] spWithin) : CalX P w K mg base 2 "check_places" ["cellar", "places"] (spCP xs.NoDeal) := by
  refine L.calX (k := 1) sc_check_places (fun vs H Q E h => ?_) (fun f cdv A outer s H vs Q E hr h => ?_)
  · obtain ⟨c, p, C, ns, rfl, _⟩ := h
    rfl
  · obtain ⟨c, p, C, ns, rfl, hC, hp, hl, sk, k, ke⟩ := h
    obtain ⟨t1, e_ROOMS⟩ := T.e_ROOMS
    obtain ⟨wv, tv, lv, vv, hc, _, _, _, _⟩ := hC.ex
    refine ⟨_, (pss_cons (ps_if (pt_cmpR op_ne (pe_lenSet K rfl rfl T.n_len rfl T.n_set (pv 1)) (pe_callB (lenK K) rfl T.n_len bt_len (pa_cons (pv 1) pa_nil)) (nomark _)) (pss_one (ps_raise raises_xe rfl rfl TX.at_NoDeal TX.ex_NoDeal (pa_cons pe_str pa_nil))) pss_nil)
      (pss_one (ps_for PassesOwn.leaving rfl (pi_listK K (pv 1)) (pg_name (i := 2) sc_check_places.nd rfl (Or.inl rfl)) (pss_one (ps_if (pt_not (pt_val (pe_cal C_within hr (by decide) rfl (pa_cons (pv 2) (pa_cons pe_int (pa_cons (pe_op op_sub (pe_ix (ix_tupK K) (pv 0) (pe_glob (v := .int 0) rfl e_ROOMS ⟨_, rfl⟩) (fun _ _ => rfl)) pe_int) pa_nil)))))) (pss_one (ps_raise raises_xe rfl rfl TX.at_NoDeal TX.ex_NoDeal (pa_cons (pe_join (.cons (pe_fr (pv 2)) (.cons pe_str .nil))) pa_nil))) pss_nil))))), ?_⟩
    walk_at "rd"
    refine r_lenSet ?_
    walk_at "rd"
    refine ⟨p, ns, rfl, SqL.of hp, hl, ?_⟩
    walk_at "rd"
    rw [List.length_map]
    by_cases nd : ns.Nodup
    · rw [decide_eq_true (show ((dif ns : Nat) : Int) = ((ns.length : Nat) : Int) by rw [dif_eq.mpr nd])]
      walk_at "rd"
      refine for_lst (ns.map V.int) (fun i σ H' => ∃ v1, σ = [some (.ref c), some (.ref p), v1] ∧ H' = H ∧ ∀ j, j < i → 0 ≤ ns.getD j 0 ∧ ns.getD j 0 ≤ C.rooms - 1) ⟨none, rfl, rfl, fun j hj => absurd hj (by omega)⟩ ?_ ?_ ?_
      · rintro i σ H' ⟨_, rfl, rfl, _⟩
        exact SqL.of hp
      · rintro i x σ H' hx ⟨v1, rfl, rfl, g0⟩
        have hi : i < ns.length := by have := (List.getElem?_eq_some_iff.mp hx).1; simpa using this
        obtain rfl : x = .int ns[i] := by simpa [hi] using hx.symm
        have sm := sk _ (List.getElem_mem hi)
        have eg : ns.getD i 0 = ns[i] := by simp [List.getD, hi]
        walk_at "rd"
        refine ⟨_, 0, C.rooms - 1, rfl, ?_⟩
        by_cases hg : 0 ≤ ns[i] ∧ ns[i] ≤ C.rooms - 1
        · rw [show (decide (0 ≤ ns[i]) && decide (ns[i] ≤ C.rooms - 1)) = true by simp [hg]]
          walk_at "rd"
          exact ⟨_, rfl, rfl, fun j hj => if e : j = i then by subst e; rw [eg]; exact hg else g0 j (by omega)⟩
        · rw [show (decide (0 ≤ ns[i]) && decide (ns[i] ≤ C.rooms - 1)) = false by rw [← Bool.not_eq_true]; simpa using hg]
          walk_at "rd"
          refine r_raise ?_
          walk_at "rd"
          refine jfr sm (by omega) (fun K h => ⟨_, rfl, h⟩) fun m3 h3 => ?_
          refine jc (by decide +kernel) (by omega) fun m4 h4 => ?_
          refine jn fun y hy => ?_
          walk_at "rd"
          exact ke fun g => hg (g.r _ (List.getElem_mem hi))
      · rintro σ H' ⟨v1, rfl, rfl, g0⟩
        rw [List.length_map] at g0
        walk_at "rd"
        exact k ⟨nd, fun x hx => by
          obtain ⟨i, hi, e⟩ := List.mem_iff_getElem.mp hx
          have := g0 i hi
          rwa [show ns.getD i 0 = x by simp [List.getD, hi, e]] at this⟩
    · rw [decide_eq_false (show ¬ ((dif ns : Nat) : Int) = ((ns.length : Nat) : Int) from fun z => nd (dif_eq.mp (by omega)))]
      walk_at "rd"
      refine r_raise ?_
      walk_at "rd"
      exact ke fun g => nd g.d
def spCh4 : Sp := fun vs H Q _ => ∃ (c : Addr) (x0 x1 x2 x3 x4 x5 x6 x7 x8 y : V), vs = [.ref c, .int 4, y] ∧ H c = some (.tup [x0, x1, x2, x3, x4, x5, x6, x7, x8]) ∧ ∀ (r : Addr) (H' : Hp), Same H H' → H' r = some (.tup [x0, x1, x2, x3, y, x5, x6, x7, x8]) → Q (.ref r) H'
theorem ok_ch4 (T : Txt mg) (L : Laid K mg "changed" s_changed ["parts", "place", "part"]) : Cal P w K mg base 1 "changed" ["parts", "place", "part"] spCh4 := by
  refine L.cal (k := 0) sc_changed (fun vs H Q E h => ?_) (fun f cdv A outer s H vs Q E hr h => ?_)
  · obtain ⟨c, x0, x1, x2, x3, x4, x5, x6, x7, x8, y, rfl, _⟩ := h
    rfl
  · obtain ⟨c, x0, x1, x2, x3, x4, x5, x6, x7, x8, y, rfl, hc, k⟩ := h
    have big := line_big
    refine ⟨_, (pss_one (ps_ret (pe_op (op_catTA K) (pe_op (op_catTA K) (pe_slice (sl_tupAK K) (pv 0) po_none (po_some (pv 1))) (pe_tup (pa_cons (pv 2) pa_nil))) (pe_slice (sl_tupAK K) (pv 0) (po_some (pe_op op_add (pv 1) pe_int)) po_none)))), ?_⟩
    walk_at "rd"
    refine r_slA hc fun r1 H4 s4 h4 => ?_
    have h4' : H4 r1 = some (.tup [x0, x1, x2, x3]) := h4
    walk_at "rd"
    intro r2 g2'
    generalize hG5 : upd _ r2 _ = H5
    have s5 := sm_of hG5 g2'
    have h5 := at_of hG5
    refine r_catA (s5 _ _ h4') h5 (by simp; omega) fun r3 H6 s6 h6 => ?_
    have hc6 := s6 _ _ (s5 _ _ (s4 _ _ hc))
    walk_at "rd"
    refine r_slA hc6 fun r4 H7 s7 h7 => ?_
    have h7' : H7 r4 = some (.tup [x5, x6, x7, x8]) := h7
    refine r_catA (s7 _ _ h6) h7' (by simp; omega) fun r5 H8 s8 h8 => ?_
    walk_at "rd"
    exact k r5 H8 (s4.trans (s5.trans (s6.trans (s7.trans s8)))) h8
theorem ok_dl (T : Txt mg) (TX : Tx K mg xs) (L : Laid K mg "dealt" s_dealt ["cellar", "places", "dealing"]) (C_check_places : CalX P w K mg base 2 "check_places" ["cellar", "places"] (spCP xs.NoDeal)) (C_check_dealing : CalX P w K mg base 3 "check_dealing" ["dealing"] (spCD xs.NoDeal)) (C_changed : Cal P w K mg base 1 "changed" ["parts", "place", "part"] spCh4) : CalX P w K mg base 4 "dealt" ["cellar", "places", "dealing"] (spDl xs.NoDeal) := by
  refine L.calX (k := 3) sc_dealt (fun vs H Q E h => ?_) (fun f cdv A outer s H vs Q E hr h => ?_)
  · obtain ⟨c, p, q, C, ns, os, rfl, _⟩ := h
    rfl
  · obtain ⟨c, p, q, C, ns, os, rfl, hC, hp, hl, sk, hq, ol, so, k, ke⟩ := h
    have big := line_big
    obtain ⟨t1, e_THINGS⟩ := T.e_THINGS
    refine ⟨_, (pss_cons (ps_expr (pe_calX C_check_places pass_xe hr (by decide) rfl (pa_cons (pv 0) (pa_cons (pv 1) pa_nil))))
      (pss_cons (ps_expr (pe_calX C_check_dealing pass_xe hr (by decide) rfl (pa_cons (pv 2) pa_nil)))
      (pss_cons (ps_if (pt_cmpR op_ne (pe_callB (lenK K) rfl T.n_len bt_len (pa_cons (pv 2) pa_nil)) (pe_callB (lenK K) rfl T.n_len bt_len (pa_cons (pv 1) pa_nil)) (nomark _)) (pss_one (ps_raise raises_xe rfl rfl TX.at_NoDeal TX.ex_NoDeal (pa_cons pe_str pa_nil))) pss_nil)
      (pss_cons (ps_set (i := 3) sc_dealt.nd rfl (Or.inl rfl) (pe_callTy (tupOfK K) rfl T.n_tuple bt_tuple (pa_cons (pe_nox (pe_comp (compOk (N := ["room", "kind"]) (own := 2) (caps := []) ["cellar", "places", "dealing", "things"] (defScope s_dealt) (by decide +kernel)) rfl (pi_zipMK K rfl T.n_zip (pa_cons (pv 1) (pa_cons (pv 2) pa_nil))) (fun _ _ _ _ => (pg_tupK (n := 2) K rfl (pgs_cons (pg_name (i := 0) (show List.Nodup (["room", "kind"] : List Str) by decide +kernel) rfl (Or.inl rfl)) (pgs_cons (pg_name (i := 1) (show List.Nodup (["room", "kind"] : List Str) by decide +kernel) rfl (Or.inl rfl)) pgs_nil)))) (fun _ _ _ _ => (pf_one (pt_cmp (pc_notN (pv 1))))) (fun _ _ _ _ => (pe_tup (pa_cons (pv 0) (pa_cons (pv 1) pa_nil)))))) pa_nil)))
      (pss_one (ps_ret (pe_cal C_changed hr (by decide) rfl (pa_cons (pv 0) (pa_cons (pe_glob (v := .int 4) rfl e_THINGS ⟨_, rfl⟩) (pa_cons (pv 3) pa_nil)))))))))), ?_⟩
    walk_at "rd"
    refine ⟨c, p, C, ns, rfl, hC, hp, hl, sk, fun g1 => ?_, fun g1 => ke (fun z => g1 z.1) H (Same.refl _)⟩
    walk_at "rd"
    refine ⟨q, os, rfl, hq, ol, so, fun g2 H1 s1 => ?_, fun g2 H1 s1 => ke (fun z => g2 z.2.1) H1 s1⟩
    have hp1 := s1 _ _ hp
    have hq1 := s1 _ _ hq
    have hC1 := hC.mono s1.ts
    walk_at "rd"
    rw [List.length_map, List.length_map]
    by_cases e : os.length = ns.length
    · rw [decide_eq_true (show ((os.length : Nat) : Int) = ((ns.length : Nat) : Int) by rw [e])]
      walk_at "rd"
      refine r_zipM ?_
      walk_at "rd"
      refine ⟨p, q, rfl, ⟨_, SqL.of hp1⟩, ⟨_, SqT.of hq1⟩, ?_⟩
      intro D hD
      refine comp_zipM (ns.map V.int) (os.map vO) (by simp [e]) (fun i σ H' => ∃ v0 v1, σ = [v0, v1] ∧ Same H1 H' ∧ LstOf PairAt H' D (thg ((ns.zip os).take i))) ⟨none, none, rfl, Same.upd hD, ⟨[], by rw [upd_same]; rfl, Rows.nil⟩⟩ ?_ ?_ ?_ ?_
      · rintro i σ H' ⟨_, _, rfl, s2, _⟩
        exact SqL.of (s2 _ _ hp1)
      · rintro i σ H' ⟨_, _, rfl, s2, _⟩
        exact SqT.of (s2 _ _ hq1)
      · rintro i x y σ H' U hx hy ⟨v0, v1, rfl, s2, ps, h2, hr2⟩ hU
        have hi : i < ns.length := by have := (List.getElem?_eq_some_iff.mp hx).1; simpa using this
        have hi2 : i < os.length := by omega
        obtain rfl : x = .int ns[i] := by simpa [hi] using hx.symm
        obtain rfl : y = vO os[i] := by simpa [hi2] using hy.symm
        have lps : ps.length ≤ 50 := by
          have := thg_le ((ns.zip os).take i)
          have z := hr2.1
          rw [List.length_take, List.length_zip] at this
          omega
        generalize hGT : upd _ U _ = HT
        have sT := sm_of hGT hU
        have tT := at_of hGT
        refine ⟨U, _, rfl, SqT.of tT, rfl, ?_⟩
        walk_at "rd"
        have et := thg_succ hi hi2
        cases ho : os[i] with
        | none =>
          rw [ho] at et
          walk_at "rd"
          refine ⟨_, _, rfl, s2.trans sT, ps, sT _ _ h2, ?_⟩
          rw [et, List.append_nil]
          exact hr2.mono fun _ _ => PairAt.mono sT.ts
        | some n =>
          rw [ho] at et
          rw [show (!decide (vO (some n) = V.non)) = true by simp [vO]]
          walk_at "rd"
          intro r gr
          generalize hGr : upd _ r _ = Hr
          have sr := sm_of hGr gr
          have tr := at_of hGr
          have h2r := sr _ _ (sT _ _ h2)
          refine ⟨_, h2r, by rw [List.length_map]; omega, _, _, rfl, (s2.trans (sT.trans sr)).put hD, ?_⟩
          rw [et]
          exact lst_snoc (fun _ _ z => PairAt.mono (TSame.lst h2r) z) (hr2.mono fun _ _ => PairAt.mono (sT.trans sr).ts) tr
      · rintro σ H' ⟨v0, v1, rfl, s2, ps, h2, hr2⟩
        rw [List.length_map, show (ns.zip os).take ns.length = ns.zip os from List.take_of_length_le (by rw [List.length_zip]; omega)] at hr2
        walk_at "rd"
        refine r_tol (SqL.of h2) fun t gt => ?_
        generalize hGt : upd _ t _ = H3
        have s3 := sm_of hGt gt
        have h3 := at_of hGt
        obtain ⟨wv, tv, lv, vv, hc, c1, c2, c3, c4⟩ := (hC1.mono (s2.trans s3).ts).ex
        walk_at "rd"
        refine ⟨c, _, _, _, _, _, _, _, _, _, _, rfl, hc, fun r5 H8 s48 h8 => ?_⟩
        have m := s48.ts
        exact k ⟨g1, g2, e⟩ r5 H8 (s1.trans (s2.trans (s3.trans s48))) ⟨wv, t, lv, vv, h8, c1.mono m (fun _ _ => WayAt.mono m), ⟨ps, s48 _ _ h3, hr2.mono fun _ _ => PairAt.mono (s3.trans s48).ts⟩, c3.mono m (fun _ _ => PairAt.mono m), c4.mono m (fun _ _ => PairAt.mono m)⟩
    · rw [decide_eq_false (show ¬ ((os.length : Nat) : Int) = ((ns.length : Nat) : Int) by omega)]
      walk_at "rd"
      refine r_raise ?_
      walk_at "rd"
      exact ke (fun z => e z.2.2) H1 s1
def spRf : Sp := fun vs H Q _ => ∃ (c p q : Addr) (C : Cl) (ns : List Int) (os : List (Option Int)), vs = [.ref c, .ref p, .ref q] ∧ ClAt H c C ∧ H p = some (.lst (ns.map V.int)) ∧ ns.length ≤ 50 ∧ (∀ x ∈ ns, Sml x) ∧ H q = some (.tup (os.map vO)) ∧ os.length ≤ 1000 ∧ (∀ k ∈ kindsO os, Sml k) ∧ ¬ DlOk C ns os ∧ ∀ H', Same H H' → Q (.bl true) H'
theorem ok_rf (T : Txt mg) (TX : Tx K mg xs) (L : Laid K mg "_law_refused" s__law_refused ["_law_one", "_law_rooms_here", "_law_dealing_here"]) (C_dealt : CalX P w K mg base 4 "dealt" ["cellar", "places", "dealing"] (spDl xs.NoDeal)) (C__law_no_deal : Cal P w K mg base 1 "_law_no_deal" ["_law_caught"] (spNoDeal xs.NoDeal)) : Cal P w K mg base 5 "_law_refused" ["_law_one", "_law_rooms_here", "_law_dealing_here"] spRf := by
  refine L.cal (k := 4) sc__law_refused (fun vs H Q E h => ?_) (fun f cdv A outer s H vs Q E hr h => ?_)
  · obtain ⟨c, p, q, C, ns, os, rfl, _⟩ := h
    rfl
  · obtain ⟨c, p, q, C, ns, os, rfl, hC, hp, hl, sk, hq, ol, so, ng, k⟩ := h
    refine ⟨_, (pss_cons (ps_set (i := 3) sc__law_refused.nd rfl (Or.inl rfl) pe_non)
      (pss_cons (ps_tryH rfl rfl rfl (pssx_one (psx_expr (pex_calX C_dealt rfl hr (by decide) rfl (pa_cons (pv 0) (pa_cons (pv 1) (pa_cons (pv 2) pa_nil))))))
      (ph_as (i := 4) K rfl rfl TX.at_DelveError sc__law_refused.nd rfl rfl rfl (fun _ => (pss_one (ps_set (i := 3) sc__law_refused.nd rfl (Or.inl rfl) (pv 4))))))
      (pss_one (ps_ret (pe_cal C__law_no_deal hr (by decide) rfl (pa_cons (pv 3) pa_nil)))))), ?_⟩
    walk_at "rd"
    refine r_tryD ?_
    walk_at "rd"
    refine ⟨c, p, q, C, ns, os, rfl, hC, hp, hl, sk, hq, ol, so, fun g => absurd g ng, fun _ H1 s1 => ?_⟩
    refine ⟨TX.mo_NoDeal_0, fun a oe ho ha => ?_⟩
    unfold Ends.lose
    walk_at "rd"
    exact ⟨a, oe, _, rfl, upd_same, ho, fun H' s' => k H' (s1.trans ((Same.upd ha).trans s'))⟩
inductive Alk (H : Hp) : Nat → V → V → Prop
  | tup {n : Nat} {p q : Addr} {us vs : List V} : H p = some (.tup us) → H q = some (.tup vs) → us.length = vs.length → vs.length ≤ 100 → (∀ (i : Nat) (x y : V), us[i]? = some x → vs[i]? = some y → Alk H n x y) → Alk H (n + 1) (.ref p) (.ref q)
  | str {n : Nat} (z : Str) : Alk H (n + 1) (.str z) (.str z)
  | int {n : Nat} (z : Int) : Alk H (n + 1) (.int z) (.int z)
  | bl {n : Nat} (z : Bool) : Alk H (n + 1) (.bl z) (.bl z)
def spAl (n : Nat) : Sp := fun vs H Q _ => ∃ x y : V, vs = [x, y] ∧ Alk H n x y ∧ Q (.bl true) H
theorem al_step (n : Nat) (T : Txt mg) (L : Laid K mg "_law_alike" s__law_alike ["_law_found", "_law_due"]) (C__law_alike : Cal P w K mg base n "_law_alike" ["_law_found", "_law_due"] (spAl n)) : Cal P w K mg base (n + 1) "_law_alike" ["_law_found", "_law_due"] (spAl (n + 1)) := by
  refine L.cal (k := n) sc__law_alike (fun vs H Q E h => ?_) (fun f cdv A outer s H vs Q E hr h => ?_)
  · obtain ⟨x, y, rfl, _⟩ := h
    rfl
  · obtain ⟨x, y, rfl, a, k⟩ := h
    have big := line_big
    refine ⟨_, (pss_cons (ps_if (pt_val (pe_callB call_isiS rfl T.n_isinstance bt_isinstance (pa_cons (pv 1) (pa_cons (pe_bltn (v := .ty "tuple") rfl T.n_tuple bt_tuple rfl) pa_nil)))) (pss_cons (ps_if (PW.pt (pw_or (pt_not (pt_val (pe_callB call_isiS rfl T.n_isinstance bt_isinstance (pa_cons (pv 0) (pa_cons (pe_bltn (v := .ty "tuple") rfl T.n_tuple bt_tuple rfl) pa_nil))))) (pw_or1 (pt_cmpR op_ne (pe_callB (lenK K) rfl T.n_len bt_len (pa_cons (pv 0) pa_nil)) (pe_callB (lenK K) rfl T.n_len bt_len (pa_cons (pv 1) pa_nil)) (nomark _))))) (pss_one (ps_ret pe_bl)) pss_nil)
      (pss_cons (ps_for PassesOwn.never rfl (pi_range1 rfl T.n_range (pa_cons (pe_callB (lenK K) rfl T.n_len bt_len (pa_cons (pv 1) pa_nil)) pa_nil)) (pg_name (i := 2) sc__law_alike.nd rfl (Or.inl rfl)) (pss_one (ps_if (pt_not (pt_val (pe_cal C__law_alike hr (by omega) rfl (pa_cons (pe_ix (ix_tupK K) (pv 0) (pv 2) (fun _ _ => rfl)) (pa_cons (pe_ix (ix_tupK K) (pv 1) (pv 2) (fun _ _ => rfl)) pa_nil))))) (pss_one (ps_ret pe_bl)) pss_nil)))
      (pss_one (ps_ret pe_bl)))) pss_nil)
      (pss_cons (ps_if (pt_val (pe_callB call_isiS rfl T.n_isinstance bt_isinstance (pa_cons (pv 1) (pa_cons (pe_bltn (v := .ty "str") rfl T.n_str bt_str rfl) pa_nil)))) (pss_one (ps_ret (pe_and (pe_callB call_isiS rfl T.n_isinstance bt_isinstance (pa_cons (pv 0) (pa_cons (pe_bltn (v := .ty "str") rfl T.n_str bt_str rfl) pa_nil))) (pe_one (pe_cmpR op_eq (pv 0) (pv 1) (nomark _)))))) pss_nil)
      (pss_one (ps_ret (pe_and (pe_cmpR op_eq (pe_callB call_isiS rfl T.n_isinstance bt_isinstance (pa_cons (pv 0) (pa_cons (pe_bltn (v := .ty "bool") rfl T.n_bool bt_bool rfl) pa_nil))) (pe_callB call_isiS rfl T.n_isinstance bt_isinstance (pa_cons (pv 1) (pa_cons (pe_bltn (v := .ty "bool") rfl T.n_bool bt_bool rfl) pa_nil))) (nomark _)) (pe_and (pe_callB call_isiS rfl T.n_isinstance bt_isinstance (pa_cons (pv 0) (pa_cons (pe_bltn (v := .ty "int") rfl T.n_int bt_int rfl) pa_nil))) (pe_one (pe_cmpR op_eq (pv 0) (pv 1) (nomark _))))))))), ?_⟩
    cases a with
    | tup hp hq hl hh hk =>
      rename_i p q us vs
      walk_at "rd"
      rw [hl, decide_eq_true rfl]
      walk_at "rd"
      try refine r_rg (by omega) ?_
      refine for_rng (fun i σ H' => ∃ v2, σ = [some (.ref p), some (.ref q), v2] ∧ H' = H) ⟨none, rfl, rfl⟩ ?_ ?_
      · rintro i σ H' hi ⟨v2, rfl, rfl⟩
        have hi' : i < vs.length := by simpa using hi
        have hiu : i < us.length := by omega
        walk_at "rd"
        try refine r_ixT (SqT.of hp) (show atI us (0 + (i : Nat)) = some us[i] by rw [Int.zero_add]; exact atI_nat (by simp [hiu])) ?_
        walk_at "rd"
        try refine r_ixT (SqT.of hq) (show atI vs (0 + (i : Nat)) = some vs[i] by rw [Int.zero_add]; exact atI_nat (by simp [hi'])) ?_
        walk_at "rd"
        refine ⟨us[i], vs[i], rfl, hk i _ _ (by simp [hiu]) (by simp [hi']), ?_⟩
        walk_at "rd"
        exact ⟨_, rfl, rfl⟩
      · rintro σ H' ⟨v2, rfl, rfl⟩
        walk_at "rd"
        exact k
    | str z =>
      walk_at "rd"
      rw [decide_eq_true rfl]
      exact k
    | int z =>
      walk_at "rd"
      rw [decide_eq_true rfl]
      walk_at "rd"
      rw [decide_eq_true rfl]
      exact k
    | bl z =>
      walk_at "rd"
      rw [decide_eq_true rfl]
      walk_at "rd"
      rw [decide_eq_true rfl]
      exact k
theorem ok_al (T : Txt mg) (L : Laid K mg "_law_alike" s__law_alike ["_law_found", "_law_due"]) : ∀ n, Cal P w K mg base n "_law_alike" ["_law_found", "_law_due"] (spAl n)
  | 0 => cal_none L 0 fun vs H Q E ⟨_, _, _, h, _⟩ => by cases h
  | n + 1 => al_step n T L (ok_al T L n)
theorem six_ix {j n : Nat} (h : j < n) : seqIndex? (j : Int) n = some j := by
  unfold seqIndex?
  simp [h]
  omega
theorem pop_perm (lf fd : List Int) (j : Nat) (h : j < lf.length) : (fd ++ [lf[j]] ++ lf.eraseIdx j).Perm (fd ++ lf) := by
  rw [List.append_assoc]
  refine List.Perm.append_left _ ?_
  have e : lf = lf.take j ++ lf[j] :: lf.drop (j + 1) := by rw [List.getElem_cons_drop, List.take_append_drop]
  rw [List.eraseIdx_eq_take_drop_succ]
  have pm : (lf.take j ++ lf[j] :: lf.drop (j + 1)).Perm (lf[j] :: (lf.take j ++ lf.drop (j + 1))) := List.perm_middle
  show (lf[j] :: (lf.take j ++ lf.drop (j + 1))).Perm lf
  exact pm.symm.trans (.of_eq e.symm)
theorem erase_map (lf : List Int) (j : Nat) : (lf.map V.int).eraseIdx j = (lf.eraseIdx j).map V.int := by
  rw [List.eraseIdx_eq_take_drop_succ, List.eraseIdx_eq_take_drop_succ, List.map_append, List.map_take, List.map_drop]
def spRm : Sp := fun vs H Q _ => ∃ (c : Addr) (C : Cl) (n : Int), vs = [.ref c, .int n] ∧ ClAt H c C ∧ ClOk C ∧ 0 ≤ n ∧ n < 2147483647 ∧ ∀ (p : Addr) (ns : List Int) (H' : Hp), Same H H' → H p = none → H' p = some (.lst (ns.map V.int)) → PlOk C ns → ns.length ≤ 14 → Q (.ref p) H'
theorem ok_rm (T : Txt mg) (L : Laid K mg "_law_rooms" s__law_rooms ["_law_one", "_law_cell_here"]) : Cal P w K mg base 1 "_law_rooms" ["_law_one", "_law_cell_here"] spRm := by
  refine L.cal (k := 0) sc__law_rooms (fun vs H Q E h => ?_) (fun f cdv A outer s H vs Q E hr h => ?_)
  · obtain ⟨c, C, n, rfl, _⟩ := h
    rfl
  · obtain ⟨c, C, n, rfl, hC, oC, n0, n1, k⟩ := h
    have big := line_big
    have r1 := oC.r1
    have r2 := oC.r2
    obtain ⟨wv, tv, lv, vv, hc, _, _, _, _⟩ := hC.ex
    refine ⟨_, (pss_cons (ps_comp (i := 2) sc__law_rooms.nd rfl rfl (compOk (N := ["_law_room"]) (own := 1) (caps := []) ["_law_one", "_law_cell_here", "_law_left", "_law_found", "_law_k"] (defScope s__law_rooms) (by decide +kernel)) rfl (pi_range1 rfl T.n_range (pa_cons (pe_ix (ix_tupK K) (pv 0) pe_int (fun _ _ => rfl)) pa_nil)) (fun _ _ _ _ => (pg_name (i := 0) (show List.Nodup (["_law_room"] : List Str) by decide +kernel) rfl (Or.inl rfl))) (fun _ _ _ _ => pf_nil) (fun _ _ _ _ => (pv 0)))
      (pss_cons (ps_set (i := 3) sc__law_rooms.nd rfl (Or.inl rfl) (pe_lst pa_nil))
      (pss_cons (ps_for PassesOwn.never rfl (pi_range1 rfl T.n_range (pa_cons (pe_op op_mod (pv 1) (pe_op op_add (pe_ix (ix_tupK K) (pv 0) pe_int (fun _ _ => rfl)) pe_int)) pa_nil)) (pg_name (i := 4) sc__law_rooms.nd rfl (Or.inl rfl)) (pss_one (ps_expr (pe_bm PySem.F.plainAttrs_list PySem.F.slot_list_append PySem.F.type_list_append mt_append (pv 3) (pa_cons (pe_bm PySem.F.plainAttrs_list PySem.F.slot_list_pop PySem.F.type_list_pop mt_popAt (pv 2) (pa_cons (pe_op op_mod (pe_op op_fdiv (pv 1) (pe_op op_add (pv 4) pe_int)) (pe_callB (lenK K) rfl T.n_len bt_len (pa_cons (pv 2) pa_nil))) pa_nil)) pa_nil)))))
      (pss_one (ps_ret (pv 3)))))), ?_⟩
    walk_at "rd"
    try refine r_rg (by omega) ?_
    intro D hD
    refine comp_rng (fun i σ H' => ∃ v0, σ = [v0] ∧ Same H H' ∧ H' D = some (.lst (((List.range i).map fun j => ((j : Nat) : Int)).map V.int))) ⟨none, rfl, Same.upd hD, by rw [upd_same]; rfl⟩ ?_ ?_
    · rintro i σ H' hi ⟨v0, rfl, s1, h1⟩
      walk_at "rd"
      refine ⟨_, h1, by simp; omega, _, rfl, s1.put hD, ?_⟩
      rw [upd_same, List.range_succ, List.map_append, List.map_append, Int.zero_add]
      rfl
    · rintro σ H1 ⟨v0, rfl, s1, h1⟩
      have hc1 := s1 _ _ hc
      walk_at "rd"
      intro F gF
      generalize hGF : upd _ F _ = H2
      have s2 := sm_of hGF gF
      have hF := at_of hGF
      have hD2 := s2 _ _ h1
      have nFD : F ≠ D := fun z => by rw [z, h1] at gF; cases gF
      have zF : H F = none := by
        cases e : H F with
        | none => rfl
        | some o => exact absurd (s1 _ _ e) (by rw [gF]; simp)
      have hc2 := s2 _ _ hc1
      have a0 := mod_lo n (n := C.rooms + 1) (by omega)
      have a1 := mod_hi n (n := C.rooms + 1) (by omega)
      walk_at "rd"
      try refine r_rg (by omega) ?_
      refine for_rng (fun i σ H' => ∃ (v4 : Option V) (lf fd : List Int), σ = [some (.ref c), some (.int n), some (.ref D), some (.ref F), v4] ∧ Same H H' ∧ H' D = some (.lst (lf.map V.int)) ∧ H' F = some (.lst (fd.map V.int)) ∧ fd.length = i ∧ lf.length + i = C.rooms.toNat ∧ (fd ++ lf).Nodup ∧ (∀ x ∈ fd ++ lf, 0 ≤ x ∧ x ≤ C.rooms - 1)) ⟨none, (List.range C.rooms.toNat).map fun j => ((j : Nat) : Int), [], rfl, s1.trans s2, hD2, hF, rfl, by simp, ?_, ?_⟩ ?_ ?_
      · rw [List.nil_append]
        exact List.pairwise_map.mpr (List.nodup_range.imp fun h z => h (by omega))
      · intro x hx
        rw [List.nil_append] at hx
        obtain ⟨j, hj, rfl⟩ := List.mem_map.mp hx
        have := List.mem_range.mp hj
        omega
      · rintro i σ H' hi ⟨v4, lf, fd, rfl, s3, h3, h4, l1, l2, nd, rg⟩
        have hi' : (i : Int) < n % (C.rooms + 1) := by omega
        have hlm : (lf.map V.int).length = lf.length := List.length_map _
        have ll : 0 < lf.length := by omega
        obtain ⟨j, hj, ej⟩ := mod_nat (n / (0 + (i : Nat) + 3)) lf.length ll
        walk_at "rd"
        rw [hlm, ej]
        refine r_popAt h3 ⟨by omega, by omega⟩ (by rw [hlm]; exact six_ix hj) (show (lf.map V.int)[j]? = some (.int lf[j]) by simp [hj]) ?_
        walk_at "rd"
        refine r_app (show upd H' D _ F = some (.lst (fd.map V.int)) by rw [upd_ne nFD]; exact h4) (by rw [List.length_map]; omega) ?_
        have pp := pop_perm lf fd j hj
        refine ⟨_, lf.eraseIdx j, fd ++ [lf[j]], rfl, (s3.put hD).put zF, ?_, ?_, by simp [l1], ?_, pp.nodup_iff.mpr nd, fun x hx => rg x (pp.mem_iff.mp hx)⟩
        · rw [upd_ne (Ne.symm nFD), upd_same, erase_map]
        · rw [upd_same, List.map_append]; rfl
        · rw [List.length_eraseIdx_of_lt hj]; omega
      · rintro σ H' ⟨v4, lf, fd, rfl, s3, h3, h4, l1, l2, nd, rg⟩
        walk_at "rd"
        exact k F fd H' s3 zF h4 ⟨(List.nodup_append.mp nd).1, fun x hx => rg x (List.mem_append_left _ hx)⟩ (by omega)
local macro_rules | `(tactic| walk_at "dc") => `(tactic| repeat (first | walk_at "rd1" | (refine ifd (fun z => absurd z (by omega)) (fun _ => ?_)) | (refine ifd (fun _ => ?_) (fun z => absurd (by omega) z))))
def spWr : Sp := fun vs H Q _ => ∃ (c p q : Addr) (C : Cl) (ns : List Int) (os : List (Option Int)) (n : Int), vs = [.ref c, .ref p, .ref q, .int n] ∧ ClAt H c C ∧ ClOk C ∧ H p = some (.lst (ns.map V.int)) ∧ PlOk C ns ∧ ns.length ≤ 14 ∧ H q = some (.tup (os.map vO)) ∧ OGood os ∧ os.length = ns.length ∧ 0 ≤ n ∧ n < 2147483647 ∧
  ∀ (r p' q' : Addr) (ns' : List Int) (os' : List (Option Int)) (H' : Hp), Same H H' → H' r = some (.tup [.ref p', .ref q']) → H' p' = some (.lst (ns'.map V.int)) → ns'.length ≤ 50 → (∀ x ∈ ns', Sml x) → H' q' = some (.tup (os'.map vO)) → os'.length ≤ 1000 → (∀ k ∈ kindsO os', Sml k) → ¬ DlOk C ns' os' → Q (.ref r) H'
theorem dup_no {A B : List Int} {x : Int} (h : x ∈ A ∨ x ∈ B) : ¬ (A ++ [x] ++ B).Nodup := by
  intro z
  rcases h with h | h
  · have z1 := (List.nodup_append.mp z).1
    exact (List.nodup_append.mp z1).2.2 x h x (by simp) rfl
  · exact (List.nodup_append.mp z).2.2 x (by simp) x h rfl
theorem ok_wr (T : Txt mg) (L : Laid K mg "_law_wrong" s__law_wrong ["_law_one", "_law_rooms_here", "_law_dealing_here", "_law_cell_here"]) : Cal P w K mg base 1 "_law_wrong" ["_law_one", "_law_rooms_here", "_law_dealing_here", "_law_cell_here"] spWr := by
  refine L.cal (k := 0) sc__law_wrong (fun vs H Q E h => ?_) (fun f cdv A outer s H vs Q E hr h => ?_)
  · obtain ⟨c, p, q, C, ns, os, n, rfl, _⟩ := h
    rfl
  · obtain ⟨c, p, q, C, ns, os, n, rfl, hC, oC, hp, gp, lp, hq, go, lo, n0, n1, k⟩ := h
    have big := line_big
    have r1 := oC.r1
    have r2 := oC.r2
    have sk := ob_sml go
    have sn : ∀ x ∈ ns, Sml x := fun x hx => by have := gp.r x hx; exact sml_in (by omega) (by omega)
    obtain ⟨wv, tv, lv, vv, hc, _, _, _, _⟩ := hC.ex
    have hlm : (ns.map V.int).length = ns.length := List.length_map _
    have hlo : (os.map vO).length = os.length := List.length_map _
    have mx : (0 : Int) < (if ((ns.map V.int).length : Int) > 1 then ((ns.map V.int).length : Int) else 1) := by split <;> omega
    obtain ⟨a, ea, ha, ha'⟩ : ∃ a : Nat, n / 6 % (if ((ns.map V.int).length : Int) > 1 then ((ns.map V.int).length : Int) else 1) = (a : Int) ∧ (0 < ns.length → a < ns.length) ∧ a ≤ ns.length := by
      have b0 := mod_lo (n / 6) mx
      have b1 := mod_hi (n / 6) mx
      refine ⟨(n / 6 % (if ((ns.map V.int).length : Int) > 1 then ((ns.map V.int).length : Int) else 1)).toNat, by omega, fun _ => ?_, ?_⟩
      · by_cases z : ((ns.map V.int).length : Int) > 1
        · rw [if_pos z] at b1 b0 ⊢; omega
        · rw [if_neg z] at b1 b0 ⊢; omega
      · by_cases z : ((ns.map V.int).length : Int) > 1
        · rw [if_pos z] at b1 b0 ⊢; omega
        · rw [if_neg z] at b1 b0 ⊢; omega
    have w0 := mod_lo n (n := 6) (by decide)
    have w1 := mod_hi n (n := 6) (by decide)
    refine ⟨_, (pss_cons (ps_set (i := 4) sc__law_wrong.nd rfl (Or.inl rfl) (pe_op op_mod (pv 3) pe_int))
      (pss_cons (ps_set (i := 5) sc__law_wrong.nd rfl (Or.inl rfl) (pe_op op_mod (pe_op op_fdiv (pv 3) pe_int) (pe_callB (max2 rfl) rfl T.n_max bt_max (pa_cons pe_int (pa_cons (pe_callB (lenK K) rfl T.n_len bt_len (pa_cons (pv 1) pa_nil)) pa_nil)))))
      (pss_cons (ps_if (PW.pt (pw_and (pt_cmpR op_eq (pv 4) pe_int (nomark _)) (pw_and1 (pt_cmpR op_gt (pe_callB (lenK K) rfl T.n_len bt_len (pa_cons (pv 1) pa_nil)) pe_int (nomark _))))) (pss_one (ps_ret (pe_tup (pa_cons (pv 1) (pa_cons (pe_callTy (tupOfK K) rfl T.n_tuple bt_tuple (pa_cons (pe_comp (compOk (N := ["_law_k", "_law_cell_here"]) (own := 1) (caps := [3]) ["_law_one", "_law_rooms_here", "_law_dealing_here", "_law_cell_here", "_law_way", "_law_at", "_law_other"] (defScope s__law_wrong) (by decide +kernel)) rfl (pi_range1 rfl T.n_range (pa_cons (pe_callB (lenK K) rfl T.n_len bt_len (pa_cons (pv 1) pa_nil)) pa_nil)) (fun _ _ _ _ => (pg_name (i := 0) (show List.Nodup (["_law_k", "_law_cell_here"] : List Str) by decide +kernel) rfl (Or.inl rfl))) (fun _ _ _ _ => pf_nil) (fun _ _ _ _ => (pe_op op_mod (pe_op op_fdiv (pv 1) (pe_op op_add (pv 0) pe_int)) pe_int))) pa_nil)) pa_nil))))) pss_nil)
      (pss_cons (ps_if (PW.pt (pw_and (pt_cmpR op_eq (pv 4) pe_int (nomark _)) (pw_and1 (pt_cmpR op_gt (pe_callB (lenK K) rfl T.n_len bt_len (pa_cons (pv 1) pa_nil)) pe_int (nomark _))))) (pss_cons (ps_set (i := 6) sc__law_wrong.nd rfl (Or.inl rfl) (pe_op op_cat (pe_op op_cat (pe_slice (sl_listK K) (pv 1) po_none (po_some (pv 5))) (pe_lst (pa_cons (pe_ix (ix_listK K) (pe_lst (pa_cons (pe_op op_sub pe_int pe_int) (pa_cons (pe_ix (ix_tupK K) (pv 0) pe_int (fun _ _ => rfl)) (pa_cons (pe_op op_add (pe_ix (ix_tupK K) (pv 0) pe_int (fun _ _ => rfl)) (pv 3)) pa_nil)))) (pe_op op_mod (pe_op op_fdiv (pv 3) pe_int) pe_int) (fun _ _ => rfl)) pa_nil))) (pe_slice (sl_listK K) (pv 1) (po_some (pe_op op_add (pv 5) pe_int)) po_none)))
      (pss_one (ps_ret (pe_tup (pa_cons (pv 6) (pa_cons (pv 2) pa_nil)))))) pss_nil)
      (pss_cons (ps_if (PW.pt (pw_and (pt_cmpR op_eq (pv 4) pe_int (nomark _)) (pw_and1 (pt_cmpR op_gt (pe_callB (lenK K) rfl T.n_len bt_len (pa_cons (pv 1) pa_nil)) pe_int (nomark _))))) (pss_cons (ps_set (i := 6) sc__law_wrong.nd rfl (Or.inl rfl) (pe_op op_mod (pe_op op_add (pe_op op_add (pv 5) pe_int) (pe_op op_mod (pe_op op_fdiv (pv 3) pe_int) (pe_op op_sub (pe_callB (lenK K) rfl T.n_len bt_len (pa_cons (pv 1) pa_nil)) pe_int))) (pe_callB (lenK K) rfl T.n_len bt_len (pa_cons (pv 1) pa_nil))))
      (pss_one (ps_ret (pe_tup (pa_cons (pe_op op_cat (pe_op op_cat (pe_slice (sl_listK K) (pv 1) po_none (po_some (pv 5))) (pe_lst (pa_cons (pe_ix (ix_listK K) (pv 1) (pv 6) (fun _ _ => rfl)) pa_nil))) (pe_slice (sl_listK K) (pv 1) (po_some (pe_op op_add (pv 5) pe_int)) po_none)) (pa_cons (pv 2) pa_nil)))))) pss_nil)
      (pss_cons (ps_if (PW.pt (pw_and (pt_cmpR op_eq (pv 4) pe_int (nomark _)) (pw_and1 (pt_cmpR op_gt (pe_callB (lenK K) rfl T.n_len bt_len (pa_cons (pv 1) pa_nil)) pe_int (nomark _))))) (pss_one (ps_ret (pe_tup (pa_cons (pv 1) (pa_cons (pe_op (op_catTA K) (pe_op (op_catTA K) (pe_slice (sl_tupAK K) (pv 2) po_none (po_some (pv 5))) (pe_tup (pa_cons (pe_ix (ix_listK K) (pe_lst (pa_cons (pe_op op_sub pe_int pe_int) (pa_cons pe_int (pa_cons (pe_op op_add pe_int (pv 3)) pa_nil)))) (pe_op op_mod (pe_op op_fdiv (pv 3) pe_int) pe_int) (fun _ _ => rfl)) pa_nil))) (pe_slice (sl_tupAK K) (pv 2) (po_some (pe_op op_add (pv 5) pe_int)) po_none)) pa_nil))))) pss_nil)
      (pss_cons (ps_if (PW.pt (pw_and (pt_cmpR op_eq (pv 4) pe_int (nomark _)) (pw_and1 (pt_cmpR op_gt (pe_callB (lenK K) rfl T.n_len bt_len (pa_cons (pv 1) pa_nil)) pe_int (nomark _))))) (pss_one (ps_ret (pe_tup (pa_cons (pe_op op_cat (pe_slice (sl_listK K) (pv 1) po_none (po_some (pv 5))) (pe_slice (sl_listK K) (pv 1) (po_some (pe_op op_add (pv 5) pe_int)) po_none)) (pa_cons (pv 2) pa_nil))))) pss_nil)
      (pss_one (ps_ret (pe_tup (pa_cons (pv 1) (pa_cons (pe_op (op_catTA K) (pv 2) (pe_tup (pa_cons pe_non pa_nil))) pa_nil)))))))))))), ?_⟩
    walk_at "rd"
    try refine r_I mx ?_
    rw [ea]
    clear ea mx
    by_cases last : n % 6 = 4 ∨ (n % 6 = 5 ∧ ns.length ≤ 8) ∨ (n % 6 = 0 ∧ ns.length = 0) ∨ (n % 6 = 2 ∧ ns.length = 0) ∨ (n % 6 = 3 ∧ ns.length = 0) ∨ (n % 6 = 1 ∧ ns.length ≤ 1)
    · rcases last with z | ⟨z, z'⟩ | ⟨z, z'⟩ | ⟨z, z'⟩ | ⟨z, z'⟩ | ⟨z, z'⟩ <;>
      (walk_at "dc"
       intro r2' g2
       generalize hG2 : upd _ r2' _ = H2
       have s2 := sm_of hG2 g2
       have h2 := at_of hG2
       refine r_catA (s2 _ _ hq) h2 (by simp; omega) fun r3 H3 s3 h3 => ?_
       walk_at "rd"
       intro r4 g4
       generalize hG4 : upd _ r4 _ = H4
       have s4 := sm_of hG4 g4
       have h4 := at_of hG4
       refine k r4 p r3 ns (os ++ [none]) H4 (s2.trans (s3.trans s4)) h4 (s4 _ _ (s3 _ _ (s2 _ _ hp))) (by omega) sn (by rw [s4 _ _ h3, List.map_append]; rfl) (by simp; omega) (fun x hx => ?_) fun z => by have := z.2.2; simp at this; omega
       rw [kinds_app, List.append_nil] at hx
       exact sk x hx)
    by_cases w5 : n % 6 = 5
    · walk_at "dc"
      try refine r_rg (by omega) ?_
      intro D hD
      refine comp_rng (fun i σ H' => ∃ v0, σ = [v0, some (.int n)] ∧ Same H H' ∧ ∃ ks : List Int, ks.length = i ∧ (∀ k ∈ ks, 0 ≤ k ∧ k ≤ 11) ∧ H' D = some (.lst ((ks.map some).map vO))) ⟨none, rfl, Same.upd hD, [], rfl, nofun, by rw [upd_same]; rfl⟩ ?_ ?_
      · rintro i σ H2 hi ⟨v0, rfl, s2, ks, lk, kk, h2⟩
        have x0 := mod_lo (n / (0 + (i : Nat) + 6)) (n := 12) (by decide)
        have x1 := mod_hi (n / (0 + (i : Nat) + 6)) (n := 12) (by decide)
        walk_at "rd"
        refine ⟨_, h2, by rw [List.length_map, List.length_map]; omega, _, rfl, s2.put hD, ks ++ [n / (0 + (i : Nat) + 6) % 12], by simp [lk], fun x hx => ?_, by rw [upd_same, List.map_append, List.map_append]; rfl⟩
        rcases List.mem_append.mp hx with hx | hx
        · exact kk x hx
        · obtain rfl := List.mem_singleton.mp hx; omega
      · rintro σ H2 ⟨v0, rfl, s2, ks, lk, kk, h2⟩
        walk_at "rd"
        refine r_tol (SqL.of h2) fun t gt => ?_
        generalize hG3 : upd _ t _ = H3
        have s3 := sm_of hG3 gt
        have h3 := at_of hG3
        walk_at "rd"
        intro r4 g4
        generalize hG4 : upd _ r4 _ = H4
        have s4 := sm_of hG4 g4
        have h4 := at_of hG4
        exact k r4 p t ns (ks.map some) H4 (s2.trans (s3.trans s4)) h4 (s4 _ _ (s3 _ _ (s2 _ _ hp))) (by omega) sn (s4 _ _ h3) (by simp; omega) (fun x hx => by rw [kinds_some] at hx; have := kk x hx; exact sml_in (by omega) (by omega)) fun z => by have := z.2.1.l; rw [kinds_some] at this; omega
    have tk : ∀ {x : Int}, x ∈ ns.take a → x ∈ ns := fun h => List.mem_of_mem_take h
    have dr : ∀ {x : Int}, x ∈ ns.drop (a + 1) → x ∈ ns := fun h => List.mem_of_mem_drop h
    by_cases w0' : n % 6 = 0
    · obtain ⟨b, eb, nb, b0, b1⟩ : ∃ b : Int, atI [V.int (0 - 1), V.int C.rooms, V.int (C.rooms + n)] (n / 75 % 3) = some (.int b) ∧ ¬ (0 ≤ b ∧ b ≤ C.rooms - 1) ∧ -10000000000 ≤ b ∧ b ≤ 10000000000 := by
        obtain ⟨j, hj, ej⟩ := mod_nat (n / 75) 3 (by decide)
        have ej' : n / 75 % 3 = (j : Int) := ej
        rw [ej']
        have : j = 0 ∨ j = 1 ∨ j = 2 := by omega
        rcases this with rfl | rfl | rfl
        · exact ⟨0 - 1, rfl, by omega, by omega, by omega⟩
        · exact ⟨C.rooms, rfl, by omega, by omega, by omega⟩
        · exact ⟨C.rooms + n, rfl, by omega, by omega, by omega⟩
      walk_at "dc"
      refine ⟨p, _, rfl, SqL.of hp, fun q2 g2 => ?_⟩
      rw [cut_lo _ _ ha']
      generalize hG2 : upd _ q2 _ = H2
      have s2 := sm_of hG2 g2
      have h2 := at_of hG2
      have hc2 := s2 _ _ hc
      walk_at "rd"
      intro q3 g3
      generalize hG3 : upd _ q3 _ = H3
      have s3 := sm_of hG3 g3
      have h3 := at_of hG3
      walk_at "rd"
      try refine r_ixL (SqL.of h3) eb ?_
      walk_at "rd"
      intro q4 g4
      generalize hG4 : upd _ q4 _ = H4
      have s4 := sm_of hG4 g4
      have h4 := at_of hG4
      refine ⟨q2, q4, _, _, rfl, rfl, s4 _ _ (s3 _ _ h2), h4, by simp; omega, fun q5 g5 => ?_⟩
      generalize hG5 : upd _ q5 _ = H5
      have s5 := sm_of hG5 g5
      have h5 := at_of hG5
      have s25 := s2.trans (s3.trans (s4.trans s5))
      walk_at "rd"
      refine ⟨p, _, rfl, SqL.of (s25 _ _ hp), fun q6 g6 => ?_⟩
      rw [show (a : Int) + 1 = ((a + 1 : Nat) : Int) by omega, cut_hi]
      generalize hG6 : upd _ q6 _ = H6
      have s6 := sm_of hG6 g6
      have h6 := at_of hG6
      refine ⟨q5, q6, _, _, rfl, rfl, s6 _ _ h5, h6, by simp; omega, fun q7 g7 => ?_⟩
      generalize hG7 : upd _ q7 _ = H7
      have s7 := sm_of hG7 g7
      have h7 := at_of hG7
      walk_at "rd"
      intro r8 g8
      generalize hG8 : upd _ r8 _ = H8
      have s8 := sm_of hG8 g8
      have h8 := at_of hG8
      have s28 := s25.trans (s6.trans (s7.trans s8))
      refine k r8 q7 q (ns.take a ++ [b] ++ ns.drop (a + 1)) os H8 s28 h8 (by rw [s8 _ _ h7, List.map_append, List.map_append]; rfl) (by simp; omega) (fun x hx => ?_) (s28 _ _ hq) (by omega) sk fun z => nb (z.1.r b (by simp))
      rcases List.mem_append.mp hx with hx | hx
      · rcases List.mem_append.mp hx with hx | hx
        · exact sn x (tk hx)
        · obtain rfl := List.mem_singleton.mp hx; exact sml_c b0 b1
      · exact sn x (dr hx)
    by_cases w1' : n % 6 = 1
    · have l2 : 1 < ns.length := by omega
      have y0 := mod_lo (n / 75) (n := ((ns.length : Nat) : Int) - 1) (by omega)
      have y1 := mod_hi (n / 75) (n := ((ns.length : Nat) : Int) - 1) (by omega)
      have wn := way_ne (room := (a : Int)) (r := n / 75 % (((ns.length : Nat) : Int) - 1)) (rooms := ((ns.length : Nat) : Int)) (by omega) (by omega) y0 y1
      obtain ⟨o, ho, eo⟩ := mod_nat ((a : Int) + 1 + n / 75 % (((ns.length : Nat) : Int) - 1)) ns.length (by omega)
      rw [eo] at wn
      have noa : o ≠ a := fun z => wn (by rw [z])
      have eg : ns.getD o 0 = ns[o] := by simp [List.getD, ho]
      walk_at "dc"
      rw [hlm, eo]
      refine ⟨p, _, rfl, SqL.of hp, fun q2 g2 => ?_⟩
      rw [cut_lo _ _ ha']
      generalize hG2 : upd _ q2 _ = H2
      have s2 := sm_of hG2 g2
      have h2 := at_of hG2
      have hp2 := s2 _ _ hp
      walk_at "rd"
      try refine r_ixL (SqL.of hp2) (atI_ints ho) ?_
      walk_at "rd"
      intro q4 g4
      generalize hG4 : upd _ q4 _ = H4
      have s4 := sm_of hG4 g4
      have h4 := at_of hG4
      refine ⟨q2, q4, _, _, rfl, rfl, s4 _ _ h2, h4, by simp; omega, fun q5 g5 => ?_⟩
      generalize hG5 : upd _ q5 _ = H5
      have s5 := sm_of hG5 g5
      have h5 := at_of hG5
      have s25 := s2.trans (s4.trans s5)
      walk_at "rd"
      refine ⟨p, _, rfl, SqL.of (s25 _ _ hp), fun q6 g6 => ?_⟩
      rw [show (a : Int) + 1 = ((a + 1 : Nat) : Int) by omega, cut_hi]
      generalize hG6 : upd _ q6 _ = H6
      have s6 := sm_of hG6 g6
      have h6 := at_of hG6
      refine ⟨q5, q6, _, _, rfl, rfl, s6 _ _ h5, h6, by simp; omega, fun q7 g7 => ?_⟩
      generalize hG7 : upd _ q7 _ = H7
      have s7 := sm_of hG7 g7
      have h7 := at_of hG7
      walk_at "rd"
      intro r8 g8
      generalize hG8 : upd _ r8 _ = H8
      have s8 := sm_of hG8 g8
      have h8 := at_of hG8
      have s28 := s25.trans (s6.trans (s7.trans s8))
      rw [eg] at h4 h5 h7
      refine k r8 q7 q (ns.take a ++ [ns[o]] ++ ns.drop (a + 1)) os H8 s28 h8 (by rw [s8 _ _ h7, List.map_append, List.map_append]; rfl) (by simp; omega) (fun x hx => ?_) (s28 _ _ hq) (by omega) sk fun z => dup_no ?_ z.1.d
      · rcases List.mem_append.mp hx with hx | hx
        · rcases List.mem_append.mp hx with hx | hx
          · exact sn x (tk hx)
          · obtain rfl := List.mem_singleton.mp hx; exact sn _ (List.getElem_mem ho)
        · exact sn x (dr hx)
      · by_cases z : o < a
        · exact .inl (List.mem_take_iff_getElem.mpr ⟨o, by omega, rfl⟩)
        · exact .inr (List.mem_drop_iff_getElem.mpr ⟨o - (a + 1), by omega, by congr 1; omega⟩)
    by_cases w2' : n % 6 = 2
    · obtain ⟨b, eb, nb, b0, b1⟩ : ∃ b : Int, atI [V.int (0 - 1), V.int 12, V.int (13 + n)] (n / 75 % 3) = some (.int b) ∧ ¬ (0 ≤ b ∧ b ≤ 11) ∧ -10000000000 ≤ b ∧ b ≤ 10000000000 := by
        obtain ⟨j, hj, ej⟩ := mod_nat (n / 75) 3 (by decide)
        have ej' : n / 75 % 3 = (j : Int) := ej
        rw [ej']
        have : j = 0 ∨ j = 1 ∨ j = 2 := by omega
        rcases this with rfl | rfl | rfl
        · exact ⟨0 - 1, rfl, by omega, by omega, by omega⟩
        · exact ⟨12, rfl, by omega, by omega, by omega⟩
        · exact ⟨13 + n, rfl, by omega, by omega, by omega⟩
      walk_at "dc"
      refine r_slA hq fun r1' H1 s1 h1 => ?_
      rw [cutO_lo _ _ (by omega)] at h1
      walk_at "rd"
      intro q3 g3
      generalize hG3 : upd _ q3 _ = H3
      have s3 := sm_of hG3 g3
      have h3 := at_of hG3
      walk_at "rd"
      try refine r_ixL (SqL.of h3) eb ?_
      walk_at "rd"
      intro q4 g4
      generalize hG4 : upd _ q4 _ = H4
      have s4 := sm_of hG4 g4
      have h4 := at_of hG4
      refine r_catA (s4 _ _ (s3 _ _ h1)) h4 (by simp; omega) fun r5 H5 s5 h5 => ?_
      have s15 := s1.trans (s3.trans (s4.trans s5))
      walk_at "rd"
      refine r_slA (s15 _ _ hq) fun r6 H6 s6 h6 => ?_
      rw [show (a : Int) + 1 = ((a + 1 : Nat) : Int) by omega, cutO_hi] at h6
      refine r_catA (s6 _ _ h5) h6 (by simp; omega) fun r7 H7 s7 h7 => ?_
      walk_at "rd"
      intro r8 g8
      generalize hG8 : upd _ r8 _ = H8
      have s8 := sm_of hG8 g8
      have h8 := at_of hG8
      have s18 := s15.trans (s6.trans (s7.trans s8))
      refine k r8 p r7 ns (os.take a ++ [some b] ++ os.drop (a + 1)) H8 s18 h8 (s18 _ _ hp) (by omega) sn (by rw [s8 _ _ h7]; simp [vO]) (by simp; omega) (fun x hx => ?_) fun z => nb (z.2.1.k b (mem_kinds (by simp)))
      rcases List.mem_append.mp (kinds_mem hx) with hx | hx
      · rcases List.mem_append.mp hx with hx | hx
        · exact sk x (mem_kinds (List.mem_of_mem_take hx))
        · cases List.mem_singleton.mp hx; exact sml_c b0 b1
      · exact sk x (mem_kinds (List.mem_of_mem_drop hx))
    · walk_at "dc"
      refine ⟨p, _, rfl, SqL.of hp, fun q2 g2 => ?_⟩
      rw [cut_lo _ _ ha']
      generalize hG2 : upd _ q2 _ = H2
      have s2 := sm_of hG2 g2
      have h2 := at_of hG2
      walk_at "rd"
      refine ⟨p, _, rfl, SqL.of (s2 _ _ hp), fun q6 g6 => ?_⟩
      rw [show (a : Int) + 1 = ((a + 1 : Nat) : Int) by omega, cut_hi]
      generalize hG6 : upd _ q6 _ = H6
      have s6 := sm_of hG6 g6
      have h6 := at_of hG6
      refine ⟨q2, q6, _, _, rfl, rfl, s6 _ _ h2, h6, by simp; omega, fun q7 g7 => ?_⟩
      generalize hG7 : upd _ q7 _ = H7
      have s7 := sm_of hG7 g7
      have h7 := at_of hG7
      walk_at "rd"
      intro r8 g8
      generalize hG8 : upd _ r8 _ = H8
      have s8 := sm_of hG8 g8
      have h8 := at_of hG8
      have s28 := s2.trans (s6.trans (s7.trans s8))
      have la := ha (by omega)
      refine k r8 q7 q (ns.take a ++ ns.drop (a + 1)) os H8 s28 h8 (by rw [s8 _ _ h7, List.map_append]) (by simp; omega) (fun x hx => ?_) (s28 _ _ hq) (by omega) sk fun z => by have := z.2.2; simp at this; omega
      rcases List.mem_append.mp hx with hx | hx
      · exact sn x (tk hx)
      · exact sn x (dr hx)
theorem alk_tup {α : Type} {At : Hp → Addr → α → Prop} {H : Hp} {n : Nat} {a b : Addr} {xs : List α} (m : ∀ p q x, At H p x → At H q x → Alk H n (.ref p) (.ref q)) (h1 : TupOf At H a xs) (h2 : TupOf At H b xs) (l : xs.length ≤ 100) : Alk H (n + 1) (.ref a) (.ref b) := by
  obtain ⟨ps, e1, r1⟩ := h1
  obtain ⟨qs, e2, r2⟩ := h2
  have l1 := r1.1
  have l2 := r2.1
  refine .tup e1 e2 (by rw [List.length_map, List.length_map]; omega) (by rw [List.length_map]; omega) fun i x y hx hy => ?_
  have hi : i < ps.length := by have := (List.getElem?_eq_some_iff.mp hx).1; simpa using this
  have hj : i < qs.length := by omega
  have hk : i < xs.length := by omega
  obtain rfl : x = .ref ps[i] := by simpa [hi] using hx.symm
  obtain rfl : y = .ref qs[i] := by simpa [hj] using hy.symm
  exact m _ _ _ (r1.2 i ps[i] xs[i] (by simp [hi]) (by simp [hk])) (r2.2 i qs[i] xs[i] (by simp [hj]) (by simp [hk]))
theorem alk_flat {H : Hp} {n : Nat} {p q : Addr} {vs : List V} (h1 : H p = some (.tup vs)) (h2 : H q = some (.tup vs)) (l : vs.length ≤ 100) (f : ∀ x ∈ vs, Alk H n x x) : Alk H (n + 1) (.ref p) (.ref q) :=
  .tup h1 h2 rfl l fun i x y hx hy => by
    rw [hx] at hy
    cases hy
    exact f x (List.mem_of_getElem? hx)
theorem alk_pair {H : Hp} {n : Nat} {p q : Addr} {x : Int × Int} (h1 : PairAt H p x) (h2 : PairAt H q x) : Alk H (n + 2) (.ref p) (.ref q) :=
  alk_flat h1 h2 (by simp) fun y hy => by
    rcases List.mem_cons.mp hy with rfl | hy
    · exact .int _
    · obtain rfl := List.mem_singleton.mp hy
      exact .int _
theorem alk_way {H : Hp} {p q : Addr} {x : Way} (h1 : WayAt H p x) (h2 : WayAt H q x) : Alk H 3 (.ref p) (.ref q) := by
  obtain ⟨g, a1, a2⟩ := h1
  obtain ⟨g', b1, b2⟩ := h2
  have gg : Alk H 2 (.ref g) (.ref g') := by
    refine alk_flat a2 b2 ?_ fun y hy => ?_
    · have := x.g.ns_len
      rw [Gt.vs_eq]
      simp
      omega
    · rw [Gt.vs_eq] at hy
      rcases List.mem_cons.mp hy with rfl | hy
      · exact .str _
      · obtain ⟨z, _, rfl⟩ := List.mem_map.mp hy
        exact .int _
  refine .tup a1 b1 rfl (by simp) fun i u v hu hv => ?_
  match i, hu, hv with
  | 0, hu, hv => cases hu; cases hv; exact .int _
  | 1, hu, hv => cases hu; cases hv; exact .int _
  | 2, hu, hv => cases hu; cases hv; exact gg
  | 3, hu, hv => cases hu; cases hv; exact .bl _
theorem alk_cl {H : Hp} {c d : Addr} {C : Cl} (h1 : ClAt H c C) (h2 : ClAt H d C) (l1 : C.ways.length ≤ 100) (l2 : C.things.length ≤ 100) (l3 : C.levers.length ≤ 100) (l4 : C.wheels.length ≤ 100) : Alk H 5 (.ref c) (.ref d) := by
  obtain ⟨w1, t1, e1, v1, a0, a1, a2, a3, a4⟩ := h1.ex
  obtain ⟨w2, t2, e2, v2, b0, b1, b2, b3, b4⟩ := h2.ex
  refine .tup a0 b0 rfl (by simp) fun i u v hu hv => ?_
  match i, hu, hv with
  | 0, hu, hv => cases hu; cases hv; exact .int _
  | 1, hu, hv => cases hu; cases hv; exact .int _
  | 2, hu, hv => cases hu; cases hv; exact .int _
  | 3, hu, hv => cases hu; cases hv; exact alk_tup (fun _ _ _ => alk_way) a1 b1 l1
  | 4, hu, hv => cases hu; cases hv; exact alk_tup (fun _ _ _ => alk_pair) a2 b2 l2
  | 5, hu, hv => cases hu; cases hv; exact alk_tup (fun _ _ _ => alk_pair) a3 b3 l3
  | 6, hu, hv => cases hu; cases hv; exact alk_tup (fun _ _ _ => alk_pair) a4 b4 l4
  | 7, hu, hv => cases hu; cases hv; exact .int _
  | 8, hu, hv => cases hu; cases hv; exact .int _
def spLaw (K : PySem.W.Frag) : Sp := fun vs H Q _ => ∃ (a : Addr) (ns : List Int), vs = [.ref a] ∧ SqL K H a (ns.map V.int) ∧ ns.length ≤ 63 ∧ ∀ H', Q (.bl true) H'
abbrev NL : List Str := ["_law_script", "_law_one", "_law_rooms_here", "_law_dealing_here", "_law_things", "_law_due", "_law_handed", "_law_k", "_law_wrong_here"]
theorem law_b {f : Addr} {cdv : Value} {A : Around} {outer : List Env} {s : Shared} {H0 : Hp} {E : XK} (T : Txt mg) (C_dealt : CalX P w K mg base 4 "dealt" ["cellar", "places", "dealing"] (spDl xs.NoDeal)) (C__law_alike : Cal P w K mg base 5 "_law_alike" ["_law_found", "_law_due"] (spAl 5)) (C__law_wrong : Cal P w K mg base 1 "_law_wrong" ["_law_one", "_law_rooms_here", "_law_dealing_here", "_law_cell_here"] spWr)
    (C__law_refused : Cal P w K mg base 5 "_law_refused" ["_law_one", "_law_rooms_here", "_law_dealing_here"] spRf) (C__law_cell : Cal P w K mg base 1 "_law_cell" ["_law_script", "_law_k"] (spCellM K))
    (hr : Room 8 (A.deeper (PyProof.Rows.envOfC "law" (defScope s_law) s.heap.objs.size f cdv))) :
    ∃ t, PSs (cxOf CX0 P w K mg base NL "law" (defScope s_law) f cdv A outer s H0 E).nox ((defBody s_law).drop 5) t ∧ ∀ (nx bk ct : St → Hp → Prop) (rt : VK) (u4 : Option V) (a c p q u : Addr) (ns rs : List Int) (os : List (Option Int)) (C : Cl) (H : Hp), SqL K H a (ns.map V.int) → ns.length ≤ 63 → ClAt H c C → ClOk C → H p = some (.lst (rs.map V.int)) → PlOk C rs → rs.length ≤ 14 → H q = some (.tup (os.map vO)) → OGood os → os.length = rs.length → ClAt H u { C with things := thg (rs.zip os) } → (∀ H', rt (.bl true) H') →
      t ⟨nx, rt, bk, ct⟩ [some (.ref a), some (.ref c), some (.ref p), some (.ref q), u4, some (.ref u), none, none, none] H := by
  have hu0 := Nat.lt_of_le_of_lt (Nat.le_add_right _ 64) hr.units
  refine ⟨_, (pss_cons (ps_set (i := 6) sc_law.nd rfl (Or.inl rfl) (pe_callTy (lstOfK K) rfl T.n_list bt_list (pa_cons (pv 2) pa_nil)))
      (pss_cons (ps_if (PW.pt (pw_or (pt_not (pt_val (pe_cal C__law_alike hr (by decide) rfl (pa_cons (pe_calX C_dealt pass_no hr (by decide) rfl (pa_cons (pv 1) (pa_cons (pv 6) (pa_cons (pv 3) pa_nil)))) (pa_cons (pv 5) pa_nil))))) (pw_or1 (pt_cmpR (op_neLK K hu0) (pv 6) (pv 2) (nomark _))))) (pss_one (ps_ret pe_bl)) pss_nil)
      (pss_cons (ps_for PassesOwn.never rfl (pi_range1 rfl T.n_range (pa_cons pe_int pa_nil)) (pg_name (i := 7) sc_law.nd rfl (Or.inl rfl)) (pss_cons (ps_set (i := 8) sc_law.nd rfl (Or.inl rfl) (pe_cal C__law_wrong hr (by decide) rfl (pa_cons (pv 1) (pa_cons (pv 2) (pa_cons (pv 3) (pa_cons (pe_op op_fdiv (pe_cal C__law_cell hr (by decide) rfl (pa_cons (pv 0) (pa_cons (pe_op op_add pe_int (pe_op op_mul pe_int (pv 7))) pa_nil))) pe_int) pa_nil))))))
      (pss_one (ps_if (pt_not (pt_val (pe_cal C__law_refused hr (by decide) rfl (pa_cons (pv 1) (pa_cons (pe_ix (ix_tupK K) (pv 8) pe_int (fun _ _ => rfl)) (pa_cons (pe_ix (ix_tupK K) (pv 8) pe_int (fun _ _ => rfl)) pa_nil)))))) (pss_one (ps_ret pe_bl)) pss_nil))))
      (pss_one (ps_ret (pe_cal C__law_alike hr (by decide) rfl (pa_cons (pe_calX C_dealt pass_no hr (by decide) rfl (pa_cons (pv 1) (pa_cons (pv 6) (pa_cons (pv 3) pa_nil)))) (pa_cons (pv 5) pa_nil)))))))), ?_⟩
  intro nx bk ct rt u4 a c p q u ns rs os C H hS hl hC oC hp gp lp hq go lo hu k
  have big := line_big
  have sk := ob_sml go
  have r2 := oC.r2
  have sn : ∀ x ∈ rs, Sml x := fun x hx => by have := gp.r x hx; exact sml_in (by omega) (by omega)
  have lt : (thg (rs.zip os)).length ≤ 100 := by
    have := thg_le (rs.zip os)
    rw [List.length_zip] at this
    omega
  have lw := oC.wl
  have ll := oC.ll
  have lv := oC.vl
  walk_at "rd"
  refine r_lof (.inl (SqL.of hp)) fun h gh => ?_
  generalize hGh : upd _ h _ = H1
  have s1 := sm_of hGh gh
  have hh := at_of hGh
  try simp only [List.set_cons_succ, List.set_cons_zero]
  walk_at "rd"
  refine ⟨c, h, q, C, rs, os, rfl, hC.mono s1.ts, hh, by omega, sn, s1 _ _ hq, by omega, sk, fun _ r H2 s2 hr2 => ?_, fun z => absurd ⟨gp, go, lo⟩ z⟩
  have s12 := s1.trans s2
  walk_at "rd"
  refine ⟨_, _, rfl, alk_cl hr2 (hu.mono s12.ts) (by show C.ways.length ≤ 100; omega) lt (by show C.levers.length ≤ 100; omega) (by show C.wheels.length ≤ 100; omega), ?_⟩
  walk_at "rd"
  refine ⟨h, p, _, _, rfl, rfl, SqL.of (s2 _ _ hh), SqL.of (s12 _ _ hp), ints_flat _, ints_flat _, ?_⟩
  rw [eqVs_refl (ints_flat _)]
  walk_at "rd"
  refine for_rng (fun i σ H' => ∃ v7 v8, σ = [some (.ref a), some (.ref c), some (.ref p), some (.ref q), u4, some (.ref u), some (.ref h), v7, v8] ∧ Same H2 H') ⟨none, none, rfl, Same.refl _⟩ ?_ ?_
  · rintro i σ H' hi ⟨v7, v8, rfl, s3⟩
    have hi3 : i < 3 := hi
    have s13 := s12.trans s3
    walk_at "rd"
    refine ⟨a, ns, _, rfl, Same.seq s13 hS, hl, by omega, by omega, fun n n0 n1 => ?_⟩
    walk_at "rd"
    refine ⟨c, p, q, C, rs, os, n / 3, rfl, hC.mono s13.ts, oC, s13 _ _ hp, gp, lp, s13 _ _ hq, go, lo, by omega, by omega, fun r4 p4 q4 ns4 os4 H4 s4 h4 hp4 lp4 sp4 hq4 lq4 sq4 bad => ?_⟩
    try simp only [List.set_cons_succ, List.set_cons_zero]
    walk_at "rd"
    refine ⟨c, p4, q4, C, ns4, os4, rfl, (hC.mono s13.ts).mono s4.ts, hp4, lp4, sp4, hq4, lq4, sq4, bad, fun H5 s5 => ?_⟩
    walk_at "rd"
    exact ⟨_, _, rfl, s3.trans (s4.trans s5)⟩
  · rintro σ H' ⟨v7, v8, rfl, s3⟩
    have s13 := s12.trans s3
    walk_at "rd"
    refine ⟨c, h, q, C, rs, os, rfl, hC.mono s13.ts, s3 _ _ (s2 _ _ hh), by omega, sn, s13 _ _ hq, by omega, sk, fun _ r H4 s4 hr4 => ?_, fun z => absurd ⟨gp, go, lo⟩ z⟩
    walk_at "rd"
    refine ⟨_, _, rfl, alk_cl hr4 (hu.mono (s13.trans s4).ts) (by show C.ways.length ≤ 100; omega) lt (by show C.levers.length ≤ 100; omega) (by show C.wheels.length ≤ 100; omega), ?_⟩
    exact k _
theorem ok_law {f : Addr} {fd : FuncData} (F : Fun K "law" "law" s_law f fd) (T : Txt mg) (TX : Tx K mg xs) (L_within : Laid K mg "within" s_within ["number", "least", "most"]) (L_changed : Laid K mg "changed" s_changed ["parts", "place", "part"]) (L_dealt : Laid K mg "dealt" s_dealt ["cellar", "places", "dealing"]) (L_check_kinds : Laid K mg "check_kinds" s_check_kinds ["kinds"]) (L_check_places : Laid K mg "check_places" s_check_places ["cellar", "places"]) (L_check_dealing : Laid K mg "check_dealing" s_check_dealing ["dealing"]) (L_kinds_of : Laid K mg "kinds_of" s_kinds_of ["dealing"]) (L__law_cell : Laid K mg "_law_cell" s__law_cell ["_law_script", "_law_k"]) (L__law_gate : Laid K mg "_law_gate" s__law_gate ["_law_cell_here"]) (L__law_cellar : Laid K mg "_law_cellar" s__law_cellar ["_law_script"]) (L__law_dealing : Laid K mg "_law_dealing" s__law_dealing ["_law_script", "_law_first", "_law_size"]) (L__law_no_deal : Laid K mg "_law_no_deal" s__law_no_deal ["_law_caught"]) (L__law_rooms : Laid K mg "_law_rooms" s__law_rooms ["_law_one", "_law_cell_here"]) (L__law_refused : Laid K mg "_law_refused" s__law_refused ["_law_one", "_law_rooms_here", "_law_dealing_here"]) (L__law_wrong : Laid K mg "_law_wrong" s__law_wrong ["_law_one", "_law_rooms_here", "_law_dealing_here", "_law_cell_here"]) (L__law_alike : Laid K mg "_law_alike" s__law_alike ["_law_found", "_law_due"]) : FnOk P w K mg base CX0 9 f fd ["_law_script"] (spLaw K) := by
  have C_within := ok_within (P := P) (w := w) (base := base) T L_within
  have C_check_kinds := ok_kinds (P := P) (w := w) (base := base) T TX L_check_kinds C_within
  have C_kinds_of := ok_kindsof (P := P) (w := w) (base := base) T L_kinds_of
  have C_check_dealing := ok_cd (P := P) (w := w) (base := base) T TX L_check_dealing C_check_kinds C_kinds_of
  have C_check_places := ok_cp (P := P) (w := w) (base := base) T TX L_check_places C_within
  have C_changed := ok_ch4 (P := P) (w := w) (base := base) T L_changed
  have C_dealt := ok_dl (P := P) (w := w) (base := base) T TX L_dealt C_check_places C_check_dealing C_changed
  have C_cell0 := ok_cell (P := P) (w := w) (base := base) T L__law_cell
  have C__law_cell := ok_cellM (P := P) (w := w) (base := base) T L__law_cell
  have C__law_gate := ok_gate (P := P) (w := w) (base := base) T L__law_gate
  have C__law_cellar := ok_cellar (P := P) (w := w) (base := base) T L__law_cellar C_cell0 C__law_gate
  have C__law_dealing := ok_ld (P := P) (w := w) (base := base) T L__law_dealing C__law_cell
  have C__law_no_deal := ok_no_deal (P := P) (w := w) (base := base) T TX L__law_no_deal
  have C__law_rooms := ok_rm (P := P) (w := w) (base := base) T L__law_rooms
  have C__law_refused := ok_rf (P := P) (w := w) (base := base) T TX L__law_refused C_dealt C__law_no_deal
  have C__law_wrong := ok_wr (P := P) (w := w) (base := base) T L__law_wrong
  have C__law_alike := ok_al (P := P) (w := w) (base := base) T L__law_alike 5
  refine F.ok (k := 8) sc_law (fun vs H Q E h => ?_) (fun cdv A outer s H vs Q E hr h => ?_)
  · obtain ⟨a, ns, rfl, _⟩ := h
    rfl
  · obtain ⟨a, ns, rfl, hS, hl, k⟩ := h
    have big := line_big
    obtain ⟨tb, hb, rb⟩ := law_b (P := P) (w := w) (base := base) (outer := outer) (H0 := H) (E := E) T C_dealt C__law_alike C__law_wrong C__law_refused C__law_cell hr
    refine ⟨_, (pss_cons (ps_set (i := 1) sc_law.nd rfl (Or.inl rfl) (pe_cal C__law_cellar hr (by decide) rfl (pa_cons (pv 0) pa_nil)))
      (pss_cons (ps_set (i := 2) sc_law.nd rfl (Or.inr rfl) (pe_cal C__law_rooms hr (by decide) rfl (pa_cons (pv 1) (pa_cons (pe_cal C__law_cell hr (by decide) rfl (pa_cons (pv 0) (pa_cons pe_int pa_nil))) pa_nil))))
      (pss_cons (ps_set (i := 3) sc_law.nd rfl (Or.inr rfl) (pe_cal C__law_dealing hr (by decide) rfl (pa_cons (pv 0) (pa_cons pe_int (pa_cons (pe_callB (lenK K) rfl T.n_len bt_len (pa_cons (pv 2) pa_nil)) pa_nil)))))
      (pss_cons (ps_comp (i := 4) sc_law.nd rfl rfl (compOk (N := ["_law_k", "_law_dealing_here", "_law_rooms_here"]) (own := 1) (caps := [3, 2]) ["_law_script", "_law_one", "_law_rooms_here", "_law_dealing_here", "_law_things", "_law_due", "_law_handed", "_law_k", "_law_wrong_here"] (defScope s_law) (by decide +kernel)) rfl (pi_range1 rfl T.n_range (pa_cons (pe_callB (lenK K) rfl T.n_len bt_len (pa_cons (pv 2) pa_nil)) pa_nil)) (fun _ _ _ _ => (pg_name (i := 0) (show List.Nodup (["_law_k", "_law_dealing_here", "_law_rooms_here"] : List Str) by decide +kernel) rfl (Or.inl rfl))) (fun _ _ _ _ => (pf_one (pt_cmp (pc_notN (pe_ix (ix_tupK K) (pv 1) (pv 0) (fun _ _ => rfl)))))) (fun _ _ _ _ => (pe_tup (pa_cons (pe_ix (ix_listK K) (pv 2) (pv 0) (fun _ _ => rfl)) (pa_cons (pe_ix (ix_tupK K) (pv 1) (pv 0) (fun _ _ => rfl)) pa_nil)))))
      (pss_cons (ps_set (i := 5) sc_law.nd rfl (Or.inl rfl) (pe_op (op_catTA K) (pe_op (op_catTA K) (pe_slice (sl_tupAK K) (pv 1) po_none (po_some pe_int)) (pe_tup (pa_cons (pe_callTy (tupOfK K) rfl T.n_tuple bt_tuple (pa_cons (pv 4) pa_nil)) pa_nil))) (pe_slice (sl_tupAK K) (pv 1) (po_some pe_int) po_none)))
      hb))))), ?_⟩
    rw [show L2.start NL [V.ref a] = [some (V.ref a), none, none, none, none, none, none, none, none] from rfl]
    walk_at "rd"
    refine ⟨a, ns, rfl, hS, hl, fun c C H1 s1 hC oC => ?_⟩
    try simp only [List.set_cons_succ, List.set_cons_zero]
    have hS1 := Same.seq s1 hS
    walk_at "rd"
    refine ⟨a, ns, 2, rfl, hS1, hl, by omega, by omega, fun n n0 n1 => ?_⟩
    walk_at "rd"
    refine ⟨c, C, n, rfl, hC, oC, n0, n1, fun p rs H2 s2 zp hp gp lp => ?_⟩
    try simp only [List.set_cons_succ, List.set_cons_zero]
    have hS2 := Same.seq s2 hS1
    walk_at "rd"
    rw [List.length_map]
    refine ⟨a, ns, 6, rs.length, rfl, hS2, hl, by omega, by omega, by omega, by omega, fun q os H3 s3 hq lo go => ?_⟩
    try simp only [List.set_cons_succ, List.set_cons_zero]
    have lo' : os.length = rs.length := by omega
    have hp3 := s3 _ _ hp
    have hlm : (rs.map V.int).length = rs.length := List.length_map _
    walk_at "rd"
    try refine r_rg (by omega) ?_
    intro D hD
    refine comp_rng (fun i σ H' => ∃ v0, σ = [v0, some (.ref q), some (.ref p)] ∧ Same H3 H' ∧ LstOf PairAt H' D (thg ((rs.zip os).take i))) ⟨none, rfl, Same.upd hD, ⟨[], by rw [upd_same]; rfl, Rows.nil⟩⟩ ?_ ?_
    · rintro i σ H' hi ⟨v0, rfl, s4, ps, h4, hr4⟩
      have hi1 : i < rs.length := by omega
      have hi2 : i < os.length := by omega
      have lps : ps.length ≤ 50 := by
        have := thg_le ((rs.zip os).take i)
        have z := hr4.1
        rw [List.length_take, List.length_zip] at this
        omega
      have xp : atI (rs.map V.int) (0 + (i : Nat)) = some (.int rs[i]) := by rw [Int.zero_add]; exact atI_nat (by simp [hi1])
      have xq : atI (os.map vO) (0 + (i : Nat)) = some (vO os[i]) := by rw [Int.zero_add]; exact atI_nat (by simp [hi2])
      have hp4 := s4 _ _ hp3
      have hq4 := s4 _ _ hq
      have et := thg_succ hi1 hi2
      walk_at "rd"
      try refine r_ixT (SqT.of hq4) xq ?_
      cases ho : os[i] with
      | none =>
        rw [ho] at et
        walk_at "rd"
        refine ⟨_, rfl, s4, ps, h4, ?_⟩
        rw [et, List.append_nil]
        exact hr4
      | some m =>
        rw [ho] at et xq
        rw [show (!decide (vO (some m) = V.non)) = true by simp [vO]]
        walk_at "rd"
        try refine r_ixL (SqL.of hp4) xp ?_
        walk_at "rd"
        try refine r_ixT (SqT.of hq4) xq ?_
        walk_at "rd"
        intro r gr
        generalize hGr : upd _ r _ = Hr
        have sr := sm_of hGr gr
        have tr := at_of hGr
        have h4r := sr _ _ h4
        refine ⟨_, h4r, by rw [List.length_map]; omega, _, rfl, (s4.trans sr).put hD, ?_⟩
        rw [et]
        exact lst_snoc (fun _ _ z => PairAt.mono (TSame.lst h4r) z) (hr4.mono fun _ _ => PairAt.mono sr.ts) tr
    · rintro σ H4 ⟨v0, rfl, s4, ps, h4, hr4⟩
      have hr4' : Rows PairAt H4 ps (thg (rs.zip os)) := by
        have e : (rs.zip os).take rs.length = rs.zip os := List.take_of_length_le (by rw [List.length_zip]; omega)
        have z := hr4
        simp only [hlm, Int.toNat_natCast, e] at z
        exact z
      have hC4 := hC.mono (s2.trans (s3.trans s4)).ts
      obtain ⟨wv, tv, lv, vv, hc, c1, c2, c3, c4⟩ := hC4.ex
      try simp only [List.set_cons_succ, List.set_cons_zero]
      walk_at "rd"
      refine r_slA hc fun r1 H5 s5 h5 => ?_
      have h5' : H5 r1 = some (.tup [.int C.rooms, .int C.fst, .int C.lst, .ref wv]) := h5
      walk_at "rd"
      refine r_tol (SqL.of (s5 _ _ h4)) fun t gt => ?_
      generalize hGt : upd _ t _ = H6
      have s6 := sm_of hGt gt
      have h6 := at_of hGt
      walk_at "rd"
      intro r2 g2
      generalize hG7 : upd _ r2 _ = H7
      have s7 := sm_of hG7 g2
      have h7 := at_of hG7
      refine r_catA (s7 _ _ (s6 _ _ h5')) h7 (by simp; omega) fun r3 H8 s8 h8 => ?_
      have hc8 := s8 _ _ (s7 _ _ (s6 _ _ (s5 _ _ hc)))
      walk_at "rd"
      refine r_slA hc8 fun r4 H9 s9 h9 => ?_
      have h9' : H9 r4 = some (.tup [.ref lv, .ref vv, .int C.bars, .int C.water]) := h9
      refine r_catA (s9 _ _ h8) h9' (by simp; omega) fun r5 HA sA hA => ?_
      try simp only [List.set_cons_succ, List.set_cons_zero]
      have s5A := s5.trans (s6.trans (s7.trans (s8.trans (s9.trans sA))))
      have s6A := s7.trans (s8.trans (s9.trans sA))
      have m := s5A.ts
      have s3A := s4.trans s5A
      exact rb _ _ _ _ _ a c p q r5 ns rs os C HA (Same.seq (s3.trans s3A) hS2) hl (hC4.mono m) oC (s3A _ _ hp3) gp lp (s3A _ _ hq) go lo' ⟨wv, t, lv, vv, hA, c1.mono m (fun _ _ => WayAt.mono m), ⟨ps, s6A _ _ h6, hr4'.mono fun _ _ => PairAt.mono s5A.ts⟩, c3.mono m (fun _ _ => PairAt.mono m), c4.mono m (fun _ _ => PairAt.mono m)⟩ k
end

theorem all_mk {l : PySem.W.OpenLaw} {w : World} {K : PySem.W.Frag} {h : Heap} {mg : Str → Option Value} {fa : Addr} (X : K.In h) (G : h.Ns mainGlobals mg) (hfa : mg "law" = some (.ref fa))
    {X_Wide : Addr}
    {X_TooMany : Addr}
    {X_Shut : Addr}
    {X_NoText : Addr}
    {X_NoRow : Addr}
    {X_NoPlan : Addr}
    {X_NoDeed : Addr}
    {X_NoDeal : Addr}
    {X_NoCellar : Addr}
    {X_DelveError : Addr}
    {f0 : Addr} {od0 an0 : Option Addr} {sl0 : Array (Option Value)} {oc0 kV0 dc0 pm0 cd0 ct0 : Value}
    {f1 : Addr} {od1 an1 : Option Addr} {sl1 : Array (Option Value)} {oc1 kV1 dc1 pm1 cd1 ct1 : Value}
    {f2 : Addr} {od2 an2 : Option Addr} {sl2 : Array (Option Value)} {oc2 kV2 dc2 pm2 cd2 ct2 : Value}
    {f3 : Addr} {od3 an3 : Option Addr} {sl3 : Array (Option Value)} {oc3 kV3 dc3 pm3 cd3 ct3 : Value}
    {f4 : Addr} {od4 an4 : Option Addr} {sl4 : Array (Option Value)} {oc4 kV4 dc4 pm4 cd4 ct4 : Value}
    {f5 : Addr} {od5 an5 : Option Addr} {sl5 : Array (Option Value)} {oc5 kV5 dc5 pm5 cd5 ct5 : Value}
    {f6 : Addr} {od6 an6 : Option Addr} {sl6 : Array (Option Value)} {oc6 kV6 dc6 pm6 cd6 ct6 : Value}
    {f7 : Addr} {od7 an7 : Option Addr} {sl7 : Array (Option Value)} {oc7 kV7 dc7 pm7 cd7 ct7 : Value}
    {f8 : Addr} {od8 an8 : Option Addr} {sl8 : Array (Option Value)} {oc8 kV8 dc8 pm8 cd8 ct8 : Value}
    {f9 : Addr} {od9 an9 : Option Addr} {sl9 : Array (Option Value)} {oc9 kV9 dc9 pm9 cd9 ct9 : Value}
    {f10 : Addr} {od10 an10 : Option Addr} {sl10 : Array (Option Value)} {oc10 kV10 dc10 pm10 cd10 ct10 : Value}
    {f11 : Addr} {od11 an11 : Option Addr} {sl11 : Array (Option Value)} {oc11 kV11 dc11 pm11 cd11 ct11 : Value}
    {f12 : Addr} {od12 an12 : Option Addr} {sl12 : Array (Option Value)} {oc12 kV12 dc12 pm12 cd12 ct12 : Value}
    {f13 : Addr} {od13 an13 : Option Addr} {sl13 : Array (Option Value)} {oc13 kV13 dc13 pm13 cd13 ct13 : Value}
    {f14 : Addr} {od14 an14 : Option Addr} {sl14 : Array (Option Value)} {oc14 kV14 dc14 pm14 cd14 ct14 : Value}
    {f15 : Addr} {od15 an15 : Option Addr} {sl15 : Array (Option Value)} {oc15 kV15 dc15 pm15 cd15 ct15 : Value}
    {f16 : Addr} {od16 an16 : Option Addr} {sl16 : Array (Option Value)} {oc16 kV16 dc16 pm16 cd16 ct16 : Value}
    {t_LAST_KIND : Tok}
    {t_MOST_KINDS : Tok}
    {t_MOST_PLACES : Tok}
    {t_ROOMS : Tok}
    {t_THINGS : Tok}
    (a0 : PySem.W.nsIn K mainGlobals "within" = some (some (.ref f0)))
    (l0 : K.lookup f0 = some ⟨oc0, od0, .func (PySem.W.fnOf "within" "within" (defArgs s_within) (defBody s_within) (defScope s_within) .none kV0 dc0 pm0 an0 cd0 ct0), sl0⟩)
    (c0 : PySem.W.codeIn K cd0 "within" = true)
    (k0 : PySem.W.keepIn K (.ref f0) = true)
    (a1 : PySem.W.nsIn K mainGlobals "changed" = some (some (.ref f1)))
    (l1 : K.lookup f1 = some ⟨oc1, od1, .func (PySem.W.fnOf "changed" "changed" (defArgs s_changed) (defBody s_changed) (defScope s_changed) .none kV1 dc1 pm1 an1 cd1 ct1), sl1⟩)
    (c1 : PySem.W.codeIn K cd1 "changed" = true)
    (k1 : PySem.W.keepIn K (.ref f1) = true)
    (a2 : PySem.W.nsIn K mainGlobals "dealt" = some (some (.ref f2)))
    (l2 : K.lookup f2 = some ⟨oc2, od2, .func (PySem.W.fnOf "dealt" "dealt" (defArgs s_dealt) (defBody s_dealt) (defScope s_dealt) .none kV2 dc2 pm2 an2 cd2 ct2), sl2⟩)
    (c2 : PySem.W.codeIn K cd2 "dealt" = true)
    (k2 : PySem.W.keepIn K (.ref f2) = true)
    (a3 : PySem.W.nsIn K mainGlobals "check_kinds" = some (some (.ref f3)))
    (l3 : K.lookup f3 = some ⟨oc3, od3, .func (PySem.W.fnOf "check_kinds" "check_kinds" (defArgs s_check_kinds) (defBody s_check_kinds) (defScope s_check_kinds) .none kV3 dc3 pm3 an3 cd3 ct3), sl3⟩)
    (c3 : PySem.W.codeIn K cd3 "check_kinds" = true)
    (k3 : PySem.W.keepIn K (.ref f3) = true)
    (a4 : PySem.W.nsIn K mainGlobals "check_places" = some (some (.ref f4)))
    (l4 : K.lookup f4 = some ⟨oc4, od4, .func (PySem.W.fnOf "check_places" "check_places" (defArgs s_check_places) (defBody s_check_places) (defScope s_check_places) .none kV4 dc4 pm4 an4 cd4 ct4), sl4⟩)
    (c4 : PySem.W.codeIn K cd4 "check_places" = true)
    (k4 : PySem.W.keepIn K (.ref f4) = true)
    (a5 : PySem.W.nsIn K mainGlobals "check_dealing" = some (some (.ref f5)))
    (l5 : K.lookup f5 = some ⟨oc5, od5, .func (PySem.W.fnOf "check_dealing" "check_dealing" (defArgs s_check_dealing) (defBody s_check_dealing) (defScope s_check_dealing) .none kV5 dc5 pm5 an5 cd5 ct5), sl5⟩)
    (c5 : PySem.W.codeIn K cd5 "check_dealing" = true)
    (k5 : PySem.W.keepIn K (.ref f5) = true)
    (a6 : PySem.W.nsIn K mainGlobals "kinds_of" = some (some (.ref f6)))
    (l6 : K.lookup f6 = some ⟨oc6, od6, .func (PySem.W.fnOf "kinds_of" "kinds_of" (defArgs s_kinds_of) (defBody s_kinds_of) (defScope s_kinds_of) .none kV6 dc6 pm6 an6 cd6 ct6), sl6⟩)
    (c6 : PySem.W.codeIn K cd6 "kinds_of" = true)
    (k6 : PySem.W.keepIn K (.ref f6) = true)
    (a7 : PySem.W.nsIn K mainGlobals "_law_cell" = some (some (.ref f7)))
    (l7 : K.lookup f7 = some ⟨oc7, od7, .func (PySem.W.fnOf "_law_cell" "_law_cell" (defArgs s__law_cell) (defBody s__law_cell) (defScope s__law_cell) .none kV7 dc7 pm7 an7 cd7 ct7), sl7⟩)
    (c7 : PySem.W.codeIn K cd7 "_law_cell" = true)
    (k7 : PySem.W.keepIn K (.ref f7) = true)
    (a8 : PySem.W.nsIn K mainGlobals "_law_gate" = some (some (.ref f8)))
    (l8 : K.lookup f8 = some ⟨oc8, od8, .func (PySem.W.fnOf "_law_gate" "_law_gate" (defArgs s__law_gate) (defBody s__law_gate) (defScope s__law_gate) .none kV8 dc8 pm8 an8 cd8 ct8), sl8⟩)
    (c8 : PySem.W.codeIn K cd8 "_law_gate" = true)
    (k8 : PySem.W.keepIn K (.ref f8) = true)
    (a9 : PySem.W.nsIn K mainGlobals "_law_cellar" = some (some (.ref f9)))
    (l9 : K.lookup f9 = some ⟨oc9, od9, .func (PySem.W.fnOf "_law_cellar" "_law_cellar" (defArgs s__law_cellar) (defBody s__law_cellar) (defScope s__law_cellar) .none kV9 dc9 pm9 an9 cd9 ct9), sl9⟩)
    (c9 : PySem.W.codeIn K cd9 "_law_cellar" = true)
    (k9 : PySem.W.keepIn K (.ref f9) = true)
    (a10 : PySem.W.nsIn K mainGlobals "_law_dealing" = some (some (.ref f10)))
    (l10 : K.lookup f10 = some ⟨oc10, od10, .func (PySem.W.fnOf "_law_dealing" "_law_dealing" (defArgs s__law_dealing) (defBody s__law_dealing) (defScope s__law_dealing) .none kV10 dc10 pm10 an10 cd10 ct10), sl10⟩)
    (c10 : PySem.W.codeIn K cd10 "_law_dealing" = true)
    (k10 : PySem.W.keepIn K (.ref f10) = true)
    (a11 : PySem.W.nsIn K mainGlobals "_law_no_deal" = some (some (.ref f11)))
    (l11 : K.lookup f11 = some ⟨oc11, od11, .func (PySem.W.fnOf "_law_no_deal" "_law_no_deal" (defArgs s__law_no_deal) (defBody s__law_no_deal) (defScope s__law_no_deal) .none kV11 dc11 pm11 an11 cd11 ct11), sl11⟩)
    (c11 : PySem.W.codeIn K cd11 "_law_no_deal" = true)
    (k11 : PySem.W.keepIn K (.ref f11) = true)
    (a12 : PySem.W.nsIn K mainGlobals "_law_rooms" = some (some (.ref f12)))
    (l12 : K.lookup f12 = some ⟨oc12, od12, .func (PySem.W.fnOf "_law_rooms" "_law_rooms" (defArgs s__law_rooms) (defBody s__law_rooms) (defScope s__law_rooms) .none kV12 dc12 pm12 an12 cd12 ct12), sl12⟩)
    (c12 : PySem.W.codeIn K cd12 "_law_rooms" = true)
    (k12 : PySem.W.keepIn K (.ref f12) = true)
    (a13 : PySem.W.nsIn K mainGlobals "_law_refused" = some (some (.ref f13)))
    (l13 : K.lookup f13 = some ⟨oc13, od13, .func (PySem.W.fnOf "_law_refused" "_law_refused" (defArgs s__law_refused) (defBody s__law_refused) (defScope s__law_refused) .none kV13 dc13 pm13 an13 cd13 ct13), sl13⟩)
    (c13 : PySem.W.codeIn K cd13 "_law_refused" = true)
    (k13 : PySem.W.keepIn K (.ref f13) = true)
    (a14 : PySem.W.nsIn K mainGlobals "_law_wrong" = some (some (.ref f14)))
    (l14 : K.lookup f14 = some ⟨oc14, od14, .func (PySem.W.fnOf "_law_wrong" "_law_wrong" (defArgs s__law_wrong) (defBody s__law_wrong) (defScope s__law_wrong) .none kV14 dc14 pm14 an14 cd14 ct14), sl14⟩)
    (c14 : PySem.W.codeIn K cd14 "_law_wrong" = true)
    (k14 : PySem.W.keepIn K (.ref f14) = true)
    (a15 : PySem.W.nsIn K mainGlobals "_law_alike" = some (some (.ref f15)))
    (l15 : K.lookup f15 = some ⟨oc15, od15, .func (PySem.W.fnOf "_law_alike" "_law_alike" (defArgs s__law_alike) (defBody s__law_alike) (defScope s__law_alike) .none kV15 dc15 pm15 an15 cd15 ct15), sl15⟩)
    (c15 : PySem.W.codeIn K cd15 "_law_alike" = true)
    (k15 : PySem.W.keepIn K (.ref f15) = true)
    (a16 : PySem.W.nsIn K mainGlobals "law" = some (some (.ref f16)))
    (l16 : K.lookup f16 = some ⟨oc16, od16, .func (PySem.W.fnOf "law" "law" (defArgs s_law) (defBody s_law) (defScope s_law) .none kV16 dc16 pm16 an16 cd16 ct16), sl16⟩)
    (c16 : PySem.W.codeIn K cd16 "law" = true)
    (k16 : PySem.W.keepIn K (.ref f16) = true)
    (ax_DelveError : PySem.W.nsIn K mainGlobals "DelveError" = some (some (.ref X_DelveError)))
    (ax_NoCellar : PySem.W.nsIn K mainGlobals "NoCellar" = some (some (.ref X_NoCellar)))
    (ax_NoDeal : PySem.W.nsIn K mainGlobals "NoDeal" = some (some (.ref X_NoDeal)))
    (ax_NoDeed : PySem.W.nsIn K mainGlobals "NoDeed" = some (some (.ref X_NoDeed)))
    (ax_NoPlan : PySem.W.nsIn K mainGlobals "NoPlan" = some (some (.ref X_NoPlan)))
    (ax_NoRow : PySem.W.nsIn K mainGlobals "NoRow" = some (some (.ref X_NoRow)))
    (ax_NoText : PySem.W.nsIn K mainGlobals "NoText" = some (some (.ref X_NoText)))
    (ax_Shut : PySem.W.nsIn K mainGlobals "Shut" = some (some (.ref X_Shut)))
    (ax_TooMany : PySem.W.nsIn K mainGlobals "TooMany" = some (some (.ref X_TooMany)))
    (ax_Wide : PySem.W.nsIn K mainGlobals "Wide" = some (some (.ref X_Wide)))
    (xex_NoDeal : PySem.W.excIn K X_NoDeal [.type "ValueError", .type "Exception", .type "BaseException", .type "object"] "ValueError.__new__" = true)
    (xmo_NoDeal_0 : PySem.W.exmOne K (.ref X_NoDeal) (.ref X_DelveError) = some true)
    (xis_NoDeal_NoCellar : PySem.W.kitOne K (.ref X_NoDeal) (.ref X_NoCellar) = some false)
    (xis_NoDeal_NoDeal : PySem.W.kitOne K (.ref X_NoDeal) (.ref X_NoDeal) = some true)
    (xis_NoDeal_NoDeed : PySem.W.kitOne K (.ref X_NoDeal) (.ref X_NoDeed) = some false)
    (xis_NoDeal_NoPlan : PySem.W.kitOne K (.ref X_NoDeal) (.ref X_NoPlan) = some false)
    (xis_NoDeal_NoRow : PySem.W.kitOne K (.ref X_NoDeal) (.ref X_NoRow) = some false)
    (xis_NoDeal_NoText : PySem.W.kitOne K (.ref X_NoDeal) (.ref X_NoText) = some false)
    (xis_NoDeal_Shut : PySem.W.kitOne K (.ref X_NoDeal) (.ref X_Shut) = some false)
    (xis_NoDeal_TooMany : PySem.W.kitOne K (.ref X_NoDeal) (.ref X_TooMany) = some false)
    (xis_NoDeal_ValueError : PySem.W.kitOne K (.ref X_NoDeal) (.type "ValueError") = some true)
    (xis_NoDeal_Wide : PySem.W.kitOne K (.ref X_NoDeal) (.ref X_Wide) = some false)
    (g1_NoDeal : PySem.W.findIn K (.ref X_NoDeal) "__getattribute__" = some (some (.builtin "BaseException.__getattribute__")))
    (g2_NoDeal : PySem.W.findIn K (.ref X_NoDeal) "__getattr__" = some none)
    (g3_NoDeal : PySem.W.findIn K (.ref X_NoDeal) "__class__" = some (some (.builtin "object.__class__")))
    (g4_NoDeal : PySem.W.mroIn K X_NoDeal (.type "object") = some true)
    (g5_NoDeal : PySem.W.mroIn K X_NoDeal (.type "BaseException") = some true)
    (z_ValueError : PySem.W.nsIn K mainGlobals "ValueError" = some none)
    (z_bool : PySem.W.nsIn K mainGlobals "bool" = some none)
    (z_int : PySem.W.nsIn K mainGlobals "int" = some none)
    (z_isinstance : PySem.W.nsIn K mainGlobals "isinstance" = some none)
    (z_len : PySem.W.nsIn K mainGlobals "len" = some none)
    (z_list : PySem.W.nsIn K mainGlobals "list" = some none)
    (z_max : PySem.W.nsIn K mainGlobals "max" = some none)
    (z_min : PySem.W.nsIn K mainGlobals "min" = some none)
    (z_range : PySem.W.nsIn K mainGlobals "range" = some none)
    (z_set : PySem.W.nsIn K mainGlobals "set" = some none)
    (z_str : PySem.W.nsIn K mainGlobals "str" = some none)
    (z_tuple : PySem.W.nsIn K mainGlobals "tuple" = some none)
    (z_zip : PySem.W.nsIn K mainGlobals "zip" = some none)
    (y_LAST_KIND : PySem.W.nsIn K mainGlobals "LAST_KIND" = some (some (.int 11 t_LAST_KIND)))
    (y_MOST_KINDS : PySem.W.nsIn K mainGlobals "MOST_KINDS" = some (some (.int 8 t_MOST_KINDS)))
    (y_MOST_PLACES : PySem.W.nsIn K mainGlobals "MOST_PLACES" = some (some (.int 14 t_MOST_PLACES)))
    (y_ROOMS : PySem.W.nsIn K mainGlobals "ROOMS" = some (some (.int 0 t_ROOMS)))
    (y_THINGS : PySem.W.nsIn K mainGlobals "THINGS" = some (some (.int 4 t_THINGS))) :
    ∃ fd : FuncData, (∀ (s : Shared) (v : Value), BindsTo s fd ⟨[v], []⟩ [("_law_script", v)]) ∧ ∀ base : Heap, K.In base → base.Ns mainGlobals mg → FnOk l.prog w K mg base CX0 9 fa fd ["_law_script"] (spLaw K) := by
  have e := hfa.symm.trans (PySem.W.mg_of X G a16)
  cases e
  have T : Txt mg := ⟨PySem.W.mg_none_of X G z_ValueError, PySem.W.mg_none_of X G z_bool, PySem.W.mg_none_of X G z_int, PySem.W.mg_none_of X G z_isinstance, PySem.W.mg_none_of X G z_len, PySem.W.mg_none_of X G z_list, PySem.W.mg_none_of X G z_max, PySem.W.mg_none_of X G z_min, PySem.W.mg_none_of X G z_range, PySem.W.mg_none_of X G z_set, PySem.W.mg_none_of X G z_str, PySem.W.mg_none_of X G z_tuple, PySem.W.mg_none_of X G z_zip, ⟨_, PySem.W.mg_of X G y_LAST_KIND⟩, ⟨_, PySem.W.mg_of X G y_MOST_KINDS⟩, ⟨_, PySem.W.mg_of X G y_MOST_PLACES⟩, ⟨_, PySem.W.mg_of X G y_ROOMS⟩, ⟨_, PySem.W.mg_of X G y_THINGS⟩⟩
  let xs : Xs := ⟨X_DelveError, X_NoCellar, X_NoDeal, X_NoDeed, X_NoPlan, X_NoRow, X_NoText, X_Shut, X_TooMany, X_Wide⟩
  have TX : Tx K mg xs := ⟨PySem.W.mg_of X G ax_DelveError, PySem.W.mg_of X G ax_NoCellar, PySem.W.mg_of X G ax_NoDeal, PySem.W.mg_of X G ax_NoDeed, PySem.W.mg_of X G ax_NoPlan, PySem.W.mg_of X G ax_NoRow, PySem.W.mg_of X G ax_NoText, PySem.W.mg_of X G ax_Shut, PySem.W.mg_of X G ax_TooMany, PySem.W.mg_of X G ax_Wide, ⟨_, _, _, PySem.F.excBase_ValueError, xex_NoDeal, rfl⟩, xmo_NoDeal_0, xis_NoDeal_NoCellar, xis_NoDeal_NoDeal, xis_NoDeal_NoDeed, xis_NoDeal_NoPlan, xis_NoDeal_NoRow, xis_NoDeal_NoText, xis_NoDeal_Shut, xis_NoDeal_TooMany, xis_NoDeal_ValueError, xis_NoDeal_Wide, ⟨g1_NoDeal, g2_NoDeal, g3_NoDeal, g4_NoDeal, g5_NoDeal⟩⟩
  have L_within : Laid K mg "within" s_within ["number", "least", "most"] := laid_mk X G a0 l0 c0 k0 fun _ _ _ _ _ _ us hl => match us, hl with | [_, _, _], _ => rfl
  have L_changed : Laid K mg "changed" s_changed ["parts", "place", "part"] := laid_mk X G a1 l1 c1 k1 fun _ _ _ _ _ _ us hl => match us, hl with | [_, _, _], _ => rfl
  have L_dealt : Laid K mg "dealt" s_dealt ["cellar", "places", "dealing"] := laid_mk X G a2 l2 c2 k2 fun _ _ _ _ _ _ us hl => match us, hl with | [_, _, _], _ => rfl
  have L_check_kinds : Laid K mg "check_kinds" s_check_kinds ["kinds"] := laid_mk X G a3 l3 c3 k3 fun _ _ _ _ _ _ us hl => match us, hl with | [_], _ => rfl
  have L_check_places : Laid K mg "check_places" s_check_places ["cellar", "places"] := laid_mk X G a4 l4 c4 k4 fun _ _ _ _ _ _ us hl => match us, hl with | [_, _], _ => rfl
  have L_check_dealing : Laid K mg "check_dealing" s_check_dealing ["dealing"] := laid_mk X G a5 l5 c5 k5 fun _ _ _ _ _ _ us hl => match us, hl with | [_], _ => rfl
  have L_kinds_of : Laid K mg "kinds_of" s_kinds_of ["dealing"] := laid_mk X G a6 l6 c6 k6 fun _ _ _ _ _ _ us hl => match us, hl with | [_], _ => rfl
  have L__law_cell : Laid K mg "_law_cell" s__law_cell ["_law_script", "_law_k"] := laid_mk X G a7 l7 c7 k7 fun _ _ _ _ _ _ us hl => match us, hl with | [_, _], _ => rfl
  have L__law_gate : Laid K mg "_law_gate" s__law_gate ["_law_cell_here"] := laid_mk X G a8 l8 c8 k8 fun _ _ _ _ _ _ us hl => match us, hl with | [_], _ => rfl
  have L__law_cellar : Laid K mg "_law_cellar" s__law_cellar ["_law_script"] := laid_mk X G a9 l9 c9 k9 fun _ _ _ _ _ _ us hl => match us, hl with | [_], _ => rfl
  have L__law_dealing : Laid K mg "_law_dealing" s__law_dealing ["_law_script", "_law_first", "_law_size"] := laid_mk X G a10 l10 c10 k10 fun _ _ _ _ _ _ us hl => match us, hl with | [_, _, _], _ => rfl
  have L__law_no_deal : Laid K mg "_law_no_deal" s__law_no_deal ["_law_caught"] := laid_mk X G a11 l11 c11 k11 fun _ _ _ _ _ _ us hl => match us, hl with | [_], _ => rfl
  have L__law_rooms : Laid K mg "_law_rooms" s__law_rooms ["_law_one", "_law_cell_here"] := laid_mk X G a12 l12 c12 k12 fun _ _ _ _ _ _ us hl => match us, hl with | [_, _], _ => rfl
  have L__law_refused : Laid K mg "_law_refused" s__law_refused ["_law_one", "_law_rooms_here", "_law_dealing_here"] := laid_mk X G a13 l13 c13 k13 fun _ _ _ _ _ _ us hl => match us, hl with | [_, _, _], _ => rfl
  have L__law_wrong : Laid K mg "_law_wrong" s__law_wrong ["_law_one", "_law_rooms_here", "_law_dealing_here", "_law_cell_here"] := laid_mk X G a14 l14 c14 k14 fun _ _ _ _ _ _ us hl => match us, hl with | [_, _, _, _], _ => rfl
  have L__law_alike : Laid K mg "_law_alike" s__law_alike ["_law_found", "_law_due"] := laid_mk X G a15 l15 c15 k15 fun _ _ _ _ _ _ us hl => match us, hl with | [_, _], _ => rfl
  exact ⟨PySem.W.fnOf "law" "law" (defArgs s_law) (defBody s_law) (defScope s_law) .none kV16 dc16 pm16 an16 cd16 ct16, fun s v => .of_eq rfl, fun base _ _ => ok_law (fun_mk l16 c16 k16) T TX L_within L_changed L_dealt L_check_kinds L_check_places L_check_dealing L_kinds_of L__law_cell L__law_gate L__law_cellar L__law_dealing L__law_no_deal L__law_rooms L__law_refused L__law_wrong L__law_alike⟩
theorem walk {l : PySem.W.OpenLaw} {q : Program} {loose : List Str} {XP : (Str → Option Value) → Heap → Prop} {YP : World → Heap → Prop} {d : DefRec} {K : Params → PySem.W.Frag} (hn : l.most = some 63) (hdf : d.params.defaults = [])
    (hY : ∀ (w : World) (h : Heap), YP w h → (K w.params).In h)
    (F : ∀ (w : World) (mg : Str → Option Value) (fa : Addr) (h : Heap), (K w.params).In h → h.Ns mainGlobals mg → mg d.name = some (.ref fa) →
      ∃ fd : FuncData, (∀ (s : Shared) (u : Value), BindsTo s fd ⟨[u], []⟩ [("_law_script", u)]) ∧ ∀ base : Heap, (K w.params).In base → base.Ns mainGlobals mg → FnOk l.prog w (K w.params) mg base CX0 9 fa fd ["_law_script"] (spLaw (K w.params))) :
    PySem.W.WalkO q loose XP YP l.row.toRowW d [] (fun f vs => PySem.call f vs) :=
  L2.walk_of (n := 63) (k := 9) (x := "_law_script") (CX := fun _ => CX0) (sp := fun w => spLaw (K w.params)) hn (by decide) hdf ⟨rfl, by decide, by decide, rfl⟩ hY F (fun _ _ a ns hl _ hS => ⟨a, ns, rfl, hS, hl, fun _ => rfl⟩) fun _ _ _ _ _ z => z
end Mine
open PySem PySem.W PyProof.Rows
set_option maxRecDepth 100000 in
set_option maxHeartbeats 0 in
theorem PySem.Challenge.cw_delve_k55_cellars_dealt_holds : PySem.Challenge.rw_delve_k55_cellars_dealt.Holds := by
  w_on; o_law; k_head; (case hw => w_witness2)
  k_fill
  refine Mine.walk (l := PySem.Challenge.rw_delve_k55_cellars_dealt) rfl rfl (fun w h Y => PySem.W.kIn_of Y) ?F
  case F =>
    intro w mg fa h KX G hmg
    refine' Mine.all_mk KX G hmg ?a0 ?l0 ?c0 ?k0 ?a1 ?l1 ?c1 ?k1 ?a2 ?l2 ?c2 ?k2 ?a3 ?l3 ?c3 ?k3 ?a4 ?l4 ?c4 ?k4 ?a5 ?l5 ?c5 ?k5 ?a6 ?l6 ?c6 ?k6 ?a7 ?l7 ?c7 ?k7 ?a8 ?l8 ?c8 ?k8 ?a9 ?l9 ?c9 ?k9 ?a10 ?l10 ?c10 ?k10 ?a11 ?l11 ?c11 ?k11 ?a12 ?l12 ?c12 ?k12 ?a13 ?l13 ?c13 ?k13 ?a14 ?l14 ?c14 ?k14 ?a15 ?l15 ?c15 ?k15 ?a16 ?l16 ?c16 ?k16 ?ax_DelveError ?ax_NoCellar ?ax_NoDeal ?ax_NoDeed ?ax_NoPlan ?ax_NoRow ?ax_NoText ?ax_Shut ?ax_TooMany ?ax_Wide ?xex_NoDeal ?xmo_NoDeal_0 ?xis_NoDeal_NoCellar ?xis_NoDeal_NoDeal ?xis_NoDeal_NoDeed ?xis_NoDeal_NoPlan ?xis_NoDeal_NoRow ?xis_NoDeal_NoText ?xis_NoDeal_Shut ?xis_NoDeal_TooMany ?xis_NoDeal_ValueError ?xis_NoDeal_Wide ?g1_NoDeal ?g2_NoDeal ?g3_NoDeal ?g4_NoDeal ?g5_NoDeal ?z_ValueError ?z_bool ?z_int ?z_isinstance ?z_len ?z_list ?z_max ?z_min ?z_range ?z_set ?z_str ?z_tuple ?z_zip ?y_LAST_KIND ?y_MOST_KINDS ?y_MOST_PLACES ?y_ROOMS ?y_THINGS
    (case a0 => k_is)
    (case l0 => k_is)
    (case c0 => k_is)
    (case k0 => k_is)
    (case a1 => k_is)
    (case l1 => k_is)
    (case c1 => k_is)
    (case k1 => k_is)
    (case a2 => k_is)
    (case l2 => k_is)
    (case c2 => k_is)
    (case k2 => k_is)
    (case a3 => k_is)
    (case l3 => k_is)
    (case c3 => k_is)
    (case k3 => k_is)
    (case a4 => k_is)
    (case l4 => k_is)
    (case c4 => k_is)
    (case k4 => k_is)
    (case a5 => k_is)
    (case l5 => k_is)
    (case c5 => k_is)
    (case k5 => k_is)
    (case a6 => k_is)
    (case l6 => k_is)
    (case c6 => k_is)
    (case k6 => k_is)
    (case a7 => k_is)
    (case l7 => k_is)
    (case c7 => k_is)
    (case k7 => k_is)
    (case a8 => k_is)
    (case l8 => k_is)
    (case c8 => k_is)
    (case k8 => k_is)
    (case a9 => k_is)
    (case l9 => k_is)
    (case c9 => k_is)
    (case k9 => k_is)
    (case a10 => k_is)
    (case l10 => k_is)
    (case c10 => k_is)
    (case k10 => k_is)
    (case a11 => k_is)
    (case l11 => k_is)
    (case c11 => k_is)
    (case k11 => k_is)
    (case a12 => k_is)
    (case l12 => k_is)
    (case c12 => k_is)
    (case k12 => k_is)
    (case a13 => k_is)
    (case l13 => k_is)
    (case c13 => k_is)
    (case k13 => k_is)
    (case a14 => k_is)
    (case l14 => k_is)
    (case c14 => k_is)
    (case k14 => k_is)
    (case a15 => k_is)
    (case l15 => k_is)
    (case c15 => k_is)
    (case k15 => k_is)
    (case a16 => k_is)
    (case l16 => k_is)
    (case c16 => k_is)
    (case k16 => k_is)
    (case ax_DelveError => k_is)
    (case ax_NoCellar => k_is)
    (case ax_NoDeal => k_is)
    (case ax_NoDeed => k_is)
    (case ax_NoPlan => k_is)
    (case ax_NoRow => k_is)
    (case ax_NoText => k_is)
    (case ax_Shut => k_is)
    (case ax_TooMany => k_is)
    (case ax_Wide => k_is)
    (case xex_NoDeal => k_exc)
    (case xmo_NoDeal_0 => kts_exm)
    (case xis_NoDeal_NoCellar => kit_is)
    (case xis_NoDeal_NoDeal => kit_is)
    (case xis_NoDeal_NoDeed => kit_is)
    (case xis_NoDeal_NoPlan => kit_is)
    (case xis_NoDeal_NoRow => kit_is)
    (case xis_NoDeal_NoText => kit_is)
    (case xis_NoDeal_Shut => kit_is)
    (case xis_NoDeal_TooMany => kit_is)
    (case xis_NoDeal_ValueError => kit_is)
    (case xis_NoDeal_Wide => kit_is)
    (case g1_NoDeal => k_is)
    (case g2_NoDeal => k_is)
    (case g3_NoDeal => k_is)
    (case g4_NoDeal => k_is)
    (case g5_NoDeal => k_is)
    (case z_ValueError => k_is)
    (case z_bool => k_is)
    (case z_int => k_is)
    (case z_isinstance => k_is)
    (case z_len => k_is)
    (case z_list => k_is)
    (case z_max => k_is)
    (case z_min => k_is)
    (case z_range => k_is)
    (case z_set => k_is)
    (case z_str => k_is)
    (case z_tuple => k_is)
    (case z_zip => k_is)
    (case y_LAST_KIND => k_is)
    (case y_MOST_KINDS => k_is)
    (case y_MOST_PLACES => k_is)
    (case y_ROOMS => k_is)
    (case y_THINGS => k_is)

