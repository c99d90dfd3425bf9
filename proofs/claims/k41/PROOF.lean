import PyProof.Rows.All
import Wide.All
import OpenK.AllK
import Wide.FinOn
import Lean
import PyProof.EqAt
import PyProof.EqKinds
import PyProof.TupleCall
import PyProof.NeKinds
import PyProof.EnumMake
import PyProof.Draws
import PyProof.P3Eq
import PyProof.NeData
import PyProof.ReprRoads
import PyProof.CallFns
import PyProof.SliceSyntax
import PyProof.AutoIntG2
import PyProof.SumWalk
import PyProof.ConsumeWalk
import PySem.Challenge.RW_contactnets_k41_trees_looked_at
set_option Elab.async false
set_option linter.all false
set_option maxRecDepth 100000
set_option maxHeartbeats 1000000
namespace L2
open PySem PySem.Spec PyProof.Rows
abbrev Key := Sum Int Str
def keyIs : Key → Value → Bool
  | .inl k, v => Value.isInt k v
  | .inr x, v => Value.isStrOf x v
def keyH (w : World) : Key → Int
  | .inl k => hashInt k
  | .inr x => hashStr w x
theorem keyIs_shape : ∀ {k : Key} {v : Value}, keyIs k v = true → (∃ i t, k = Sum.inl i ∧ v = Value.int i t) ∨ (∃ x t, k = Sum.inr x ∧ v = Value.str x t)
  | .inl i, v, h => by
    obtain ⟨t, e⟩ := Value.isInt_shape (k := i) (v := v) h
    exact .inl ⟨i, t, rfl, e⟩
  | .inr x, v, h => by
    obtain ⟨t, e⟩ := Value.isStrOf_shape (x := x) (v := v) h
    exact .inr ⟨x, t, rfl, e⟩
theorem keyIs_int (i : Int) (t : Tok) : keyIs (.inl i) (.int i t) = true := by simp [keyIs, Value.isInt]
theorem keyIs_str (x : Str) (t : Tok) : keyIs (.inr x) (.str x t) = true := by simp [keyIs, Value.isStrOf]
theorem key_ll (a b : Int) : decide ((Sum.inl a : Key) = Sum.inl b) = (a == b) := by
  by_cases e : a = b
  · subst e; simp
  · have h : ¬ (Sum.inl a : Key) = Sum.inl b := fun q => e (Sum.inl.inj q)
    rw [decide_eq_false h]
    exact (beq_eq_false_iff_ne.mpr e).symm
theorem key_rr (a b : Str) : decide ((Sum.inr a : Key) = Sum.inr b) = decide (a = b) := by
  by_cases e : a = b
  · subst e; simp
  · have h : ¬ (Sum.inr a : Key) = Sum.inr b := fun q => e (Sum.inr.inj q)
    rw [decide_eq_false h, decide_eq_false e]
theorem key_lr (a : Int) (b : Str) : decide ((Sum.inl a : Key) = Sum.inr b) = false := decide_eq_false (fun q => nomatch q)
theorem key_rl (a : Str) (b : Int) : decide ((Sum.inr a : Key) = Sum.inl b) = false := decide_eq_false (fun q => nomatch q)
def mixKind (prog : Program) (w : World) : PySem.KeyKind prog w Key where
  is := keyIs
  hash := keyH w
  inj := fun v a b ha hb => by
    rcases keyIs_shape ha with ⟨i, t, rfl, rfl⟩ | ⟨x, t, rfl, rfl⟩
    · rcases keyIs_shape hb with ⟨j, u, rfl, e⟩ | ⟨y, u, rfl, e⟩
      · injection e with e1 _; rw [e1]
      · exact nomatch e
    · rcases keyIs_shape hb with ⟨j, u, rfl, e⟩ | ⟨y, u, rfl, e⟩
      · exact nomatch e
      · injection e with e1 _; rw [e1]
  byValue := fun k v h => by
    rcases keyIs_shape h with ⟨i, t, rfl, rfl⟩ | ⟨x, t, rfl, rfl⟩ <;> rfl
  pyHash := fun hv h => by
    rcases keyIs_shape hv with ⟨i, t, rfl, rfl⟩ | ⟨x, t, rfl, rfl⟩
    · exact wpAny_pyHash_int h
    · exact wpAny_pyHash_str h
  eqBool := fun hu hv h => by
    rcases keyIs_shape hu with ⟨i, t, rfl, rfl⟩ | ⟨x, t, rfl, rfl⟩
    · rcases keyIs_shape hv with ⟨j, u, rfl, rfl⟩ | ⟨y, u, rfl, rfl⟩
      · rw [key_ll] at h; exact wpAny_eqBool_int h
      · rw [key_lr] at h; exact SeqAt.EqAt.int_str i t y u _ _ _ _ h
    · rcases keyIs_shape hv with ⟨j, u, rfl, rfl⟩ | ⟨y, u, rfl, rfl⟩
      · rw [key_rl] at h; exact SeqAt.EqAt.str_int x t j u _ _ _ _ h
      · rw [key_rr] at h; exact wpAny_eqBool_str h
  «strs» := fun k x t v h => by
    rcases keyIs_shape h with ⟨i, u, rfl, e⟩ | ⟨y, u, rfl, e⟩
    · exact nomatch e
    · injection e with e1 _
      subst e1
      cases v <;> rfl
theorem mixKind_int (prog : Program) (w : World) (i : Int) (t : Tok) : (mixKind prog w).is (.inl i) (.int i t) = true := keyIs_int i t
theorem mixKind_str (prog : Program) (w : World) (x : Str) (t : Tok) : (mixKind prog w).is (.inr x) (.str x t) = true := keyIs_str x t
end L2
namespace L2
open PySem PySem.Spec PyProof.Rows
inductive V where
  | non | bl (b : Bool) | int (i : Int) | str (x : Str) | byt (b : Array UInt8) | flt (b : UInt64) | ref (a : Addr) | ty (n : String)
  deriving DecidableEq
def RelV : V → Value → Prop
  | .non, u => u = Value.none
  | .bl b, u => u = Value.bool b
  | .int i, u => ∃ t, u = Value.int i t
  | .str x, u => ∃ t, u = Value.str x t
  | .byt b, u => ∃ t, u = Value.bytes b t
  | .flt b, u => ∃ t, u = Value.float b t
  | .ref a, u => u = Value.ref a
  | .ty n, u => u = Value.type n
abbrev Vals : List V → List Value → Prop := Paired RelV
theorem Vals.length {xs : List V} {us : List Value} (r : Vals xs us) : xs.length = us.length := Paired.length r
theorem Vals.get : ∀ {xs : List V} {us : List Value} {i : Nat} {x : V}, Vals xs us → xs[i]? = some x → ∃ u, us[i]? = some u ∧ RelV x u
  | _, _, _, _, .nil, e => by simp at e
  | _, _, 0, _, .cons r _, e => by simp at e; subst e; exact ⟨_, rfl, r⟩
  | _, _, i + 1, x, .cons _ t, e => by
    obtain ⟨u, h1, h2⟩ := Vals.get (i := i) (x := x) t (by simpa using e)
    exact ⟨u, by simpa using h1, h2⟩
theorem Vals.set {x : V} {u : Value} (r : RelV x u) : ∀ {xs : List V} {us : List Value} (i : Nat), Vals xs us → Vals (xs.set i x) (us.set i u)
  | _, _, _, .nil => .nil
  | _, _, 0, .cons _ t => .cons r t
  | _, _, i + 1, .cons q t => .cons q (Vals.set r i t)
theorem Vals.append : ∀ {xs ys : List V} {us ws : List Value}, Vals xs us → Vals ys ws → Vals (xs ++ ys) (us ++ ws)
  | _, _, _, _, .nil, s => s
  | _, _, _, _, .cons r t, s => .cons r (Vals.append t s)
theorem Vals.take : ∀ {xs : List V} {us : List Value} (n : Nat), Vals xs us → Vals (xs.take n) (us.take n)
  | _, _, 0, _ => .nil
  | _, _, _ + 1, .nil => .nil
  | _, _, n + 1, .cons r t => .cons r (Vals.take n t)
theorem Vals.drop : ∀ {xs : List V} {us : List Value} (n : Nat), Vals xs us → Vals (xs.drop n) (us.drop n)
  | _, _, 0, r => r
  | _, _, _ + 1, .nil => .nil
  | _, _, n + 1, .cons _ t => Vals.drop n t
def RelO : Option V → Option Value → Prop
  | some v, some u => RelV v u
  | none, none => True
  | _, _ => False
def KV {κ : Type} : List (κ × V) → List (κ × Value) → Prop := Paired fun (p : κ × V) (q : κ × Value) => p.1 = q.1 ∧ RelV p.2 q.2
def kV : Key → V
  | .inl i => .int i
  | .inr x => .str x
inductive HO where
  /-- a list -/
  | lst (xs : List V)
  /-- a tuple (never changes) -/
  | tup (xs : List V)
  /-- a dict whose keys are ints and texts; one whose keys are tuples of ints and texts (the empty one is both) -/
  | dK (kvs : List (Key × V)) | dT (kvs : List (List Key × V))
  /-- a set of ints: its members, its size -/
  | set (S : Int → Bool) (n : Nat)
  /-- an instance of the class at C, its dict at dx, its attributes -/
  | ins (C dx : Addr) (fs : List (Str × V))
  /-- the dict of the instance at x -/
  | own (x : Addr)
  /-- the dict of an exception -/
  | xd (fs : List (Str × V))
  /-- a bound method, f of x -/
  | met (f x : Addr)
  /-- a range object lo, lo + 1, .. below hi -/
  | rng (lo hi : Int)
  /-- a thing that is known to the object (the script; a dict while a loop walks it): read, never written while it is so -/
  | frz (o : Obj) (u : HO)
  /-- a code object's table -/
  | tbl (ps : Array Value)
  /-- any other thing, by what is true of its one object (a def of one's own: SetO a S n := HO.ext fun h => ..) -/
  | ext (φ : Heap → Prop)
abbrev Hp := Addr → Option HO
def upd (H : Hp) (a : Addr) (o : HO) : Hp := fun b => if b = a then some o else H b
theorem upd_same {H : Hp} {a : Addr} {o : HO} : upd H a o a = some o := by unfold upd; rw [if_pos rfl]
theorem upd_ne {H : Hp} {a b : Addr} {o : HO} (h : b ≠ a) : upd H a o b = H b := by unfold upd; rw [if_neg h]
theorem ne_of {H : Hp} {a b : Addr} {o u : HO} (h : H a = some o) (h' : H b = some u) (d : o ≠ u) : a ≠ b := by
  intro e; subst e; rw [h] at h'; exact d (Option.some.inj h')
theorem ne_of_none {H : Hp} {a b : Addr} {o : HO} (h : H a = some o) (h' : H b = none) : a ≠ b := by
  intro e; subst e; rw [h] at h'; cases h'
section
variable (P : Program) (w : World)
def ObjOk (H : Hp) (h : Heap) (a : Addr) : HO → Prop
  | .lst xs => xs.length ≤ sizeLine ∧ ∃ (its : List Value) (n : Nat), Vals xs its ∧ h.get? a = some { cls := .type "list", data := .seq its.toArray n }
  | .tup xs => xs.length ≤ sizeLine ∧ ∃ its : List Value, Vals xs its ∧ IsTup h a its.toArray
  | .dK kvs => kvs.length ≤ sizeLine ∧ (a == sysModules) = false ∧ ∃ vs, KV kvs vs ∧ h.DictOf (mixKind P w) a vs
  | .dT kvs => kvs.length ≤ sizeLine ∧ (a == sysModules) = false ∧ ∃ xs : List (List Key × Addr × Value),
      Paired (fun (p : List Key × V) (q : List Key × Addr × Value) => p.1 = q.1 ∧ H q.2.1 = some (.tup (p.1.map kV)) ∧ RelV p.2 q.2.2) kvs xs ∧
      ∃ o es ep, h.get? a = some o ∧ o.ExactDict ∧ o.data = .dict es ep ∧ es.toList = xs.map (entryOfKey (tupleKind (mixKind P w))) ∧ (xs.map (·.1)).Nodup
  | .set S n => h.SetOf (intKind P w) a S n
  | .ins C dx fs => H dx = some (.own a) ∧ fs.length ≤ 1000 ∧ dx ≠ a ∧ h.get? a = some (PySem.W.instObj C dx) ∧
      ∃ mA, h.Ns1 dx mA ∧ (∀ f, RelO (fs.lookup f) (mA f)) ∧ PySem.Within mA (fs.map (·.1))
  | .own _ => ∃ o, h.get? a = some o
  | .xd fs => ∃ mA, h.Ns1 a mA ∧ ∀ f, RelO (fs.lookup f) (mA f)
  | .rng lo hi => ∃ t u v, h.get? a = some { cls := .type "range", data := .fields #[.int lo t, .int hi u, .int 1 v] }
  | .frz o u => h.get? a = some o ∧ ObjOk H h a u
  | .tbl ps => h.get? a = some { cls := .none, data := .fields ps }
  | .met f x => h.get? a = some (PySem.W.methodObj (.ref f) (.ref x))
  | .ext φ => φ h ∧ (∃ o, h.get? a = some o) ∧ ∀ h1 h2 : Heap, φ h1 → (∀ o, h1.get? a = some o → h2.get? a = some o) → φ h2
def HOk (H : Hp) (h : Heap) : Prop := ∀ a o, H a = some o → ObjOk P w H h a o
end
section
variable {P : Program} {w : World} {H H' : Hp} {h h' : Heap} {a : Addr} {o : HO}
theorem ObjOk.lt (x : ObjOk P w H h a o) : a < h.objs.size := by
  cases o with
  | lst xs => obtain ⟨_, _, _, _, e⟩ := x; exact Heap.lt_size e
  | tup xs => obtain ⟨_, _, _, p⟩ := x; exact p.lt
  | dK kvs => obtain ⟨_, _, _, _, o, _, _, e, _⟩ := x; exact Heap.lt_size e
  | dT kvs => obtain ⟨_, _, _, _, o, _, _, e, _⟩ := x; exact Heap.lt_size e
  | set S n => obtain ⟨o, _, _, _, e, _⟩ := x; exact Heap.lt_size e
  | ins C dx fs => obtain ⟨_, _, _, e, _⟩ := x; exact Heap.lt_size e
  | own y => obtain ⟨_, e⟩ := x; exact Heap.lt_size e
  | xd fs => obtain ⟨_, ⟨_, _, _, e, _⟩, _⟩ := x; exact Heap.lt_size e
  | rng lo hi => obtain ⟨_, _, _, e⟩ := x; exact Heap.lt_size e
  | frz ob u => obtain ⟨e, _⟩ := x; exact Heap.lt_size e
  | tbl ps => exact Heap.lt_size (show h.get? a = some _ from x)
  | met f y => exact Heap.lt_size (show h.get? a = some _ from x)
  | ext φ => obtain ⟨_, ⟨_, e⟩, _⟩ := x; exact Heap.lt_size e
theorem Paired.mapP {α β : Type} {F G : α → β → Prop} : ∀ {l₁ : List α} {l₂ : List β}, Paired F l₁ l₂ → (∀ a b, F a b → G a b) → Paired G l₁ l₂
  | _, _, .nil, _ => .nil
  | _, _, .cons r t, f => .cons (f _ _ r) (Paired.mapP t f)
theorem ObjOk.stay (x : ObjOk P w H h a o) (k : ∀ b u, (b = a ∨ H b = some (.own a)) → h.get? b = some u → h'.get? b = some u)
    (ho : ∀ b, H b = some (.own a) → H' b = some (.own a)) (ht : ∀ b xs, H b = some (.tup xs) → H' b = some (.tup xs)) : ObjOk P w H' h' a o := by
  induction o with
  | lst xs => obtain ⟨z, its, n, r, e⟩ := x; exact ⟨z, its, n, r, k _ _ (.inl rfl) e⟩
  | tup xs => obtain ⟨z, its, r, ob, e, c⟩ := x; exact ⟨z, its, r, ob, k _ _ (.inl rfl) e, c⟩
  | dK kvs => obtain ⟨z, y, vs, r, ob, es, ep, e, c⟩ := x; exact ⟨z, y, vs, r, ob, es, ep, k _ _ (.inl rfl) e, c⟩
  | dT kvs =>
    obtain ⟨z, y, xs, r, ob, es, ep, e, c⟩ := x
    exact ⟨z, y, xs, Paired.mapP r fun p q z => ⟨z.1, ht _ _ z.2.1, z.2.2⟩, ob, es, ep, k _ _ (.inl rfl) e, c⟩
  | set S n => obtain ⟨ob, es, ep, t, e, c⟩ := x; exact ⟨ob, es, ep, t, k _ _ (.inl rfl) e, c⟩
  | ins C dx fs =>
    obtain ⟨d, z, ne, e, mA, ⟨od, es, ep, e2, c⟩, r⟩ := x
    exact ⟨ho _ d, z, ne, k _ _ (.inl rfl) e, mA, ⟨od, es, ep, k _ _ (.inr d) e2, c⟩, r⟩
  | own y => obtain ⟨ob, e⟩ := x; exact ⟨ob, k _ _ (.inl rfl) e⟩
  | xd fs => obtain ⟨mA, ⟨od, es, ep, e, c⟩, r⟩ := x; exact ⟨mA, ⟨od, es, ep, k _ _ (.inl rfl) e, c⟩, r⟩
  | rng lo hi => obtain ⟨t, u, v, e⟩ := x; exact ⟨t, u, v, k _ _ (.inl rfl) e⟩
  | frz ob u ih => obtain ⟨e, q⟩ := x; exact ⟨k _ _ (.inl rfl) e, ih q⟩
  | tbl ps =>
    have e : h.get? a = some { cls := .none, data := .fields ps } := x
    show h'.get? a = some { cls := .none, data := .fields ps }
    exact k a _ (.inl rfl) e
  | met f y =>
    have e : h.get? a = some (PySem.W.methodObj (.ref f) (.ref y)) := x
    show h'.get? a = some (PySem.W.methodObj (.ref f) (.ref y))
    exact k a _ (.inl rfl) e
  | ext φ => obtain ⟨p, ⟨o, e⟩, st⟩ := x; exact ⟨st _ _ p fun o q => k _ _ (.inl rfl) q, ⟨o, k _ _ (.inl rfl) e⟩, st⟩
theorem HOk.lt (x : HOk P w H h) (e : H a = some o) : a < h.objs.size := (x a o e).lt
theorem HOk.fresh (x : HOk P w H h) (e : h.objs.size ≤ a) : H a = none := by
  cases q : H a with
  | none => rfl
  | some u => exact absurd (Nat.lt_of_lt_of_le (x.lt q) e) (Nat.lt_irrefl _)
theorem HOk.kept (x : HOk P w H h) (k : ∀ b u, h.get? b = some u → h'.get? b = some u) : HOk P w H h' := fun a o e =>
  (x a o e).stay (fun b u _ q => k b u q) (fun _ q => q) fun _ _ q => q
theorem HOk.laid (x : HOk P w H h) (k : ∀ b u, h.get? b = some u → h'.get? b = some u) (hp : h.objs.size ≤ a) (new : ObjOk P w (upd H a o) h' a o) : HOk P w (upd H a o) h' := fun b u e => by
  have hn := x.fresh hp
  by_cases hb : b = a
  · subst hb; rw [upd_same] at e; cases e; exact new
  · rw [upd_ne hb] at e
    exact (x b u e).stay (fun c v _ q => k c v q) (fun c q => by rw [upd_ne (ne_of_none q hn)]; exact q) fun c xs q => by rw [upd_ne (ne_of_none q hn)]; exact q
end
def Rd (H : Hp) (a : Addr) (u : HO) : Prop := H a = some u ∨ ∃ o, H a = some (.frz o u)
theorem Rd.ok {P : Program} {w : World} {H : Hp} {h : Heap} {a : Addr} {u : HO} (r : Rd H a u) (x : HOk P w H h) : ObjOk P w H h a u := by
  rcases r with r | ⟨o, r⟩
  · exact x a u r
  · obtain ⟨_, q⟩ := x a _ r
    exact q
def Mut : Option HO → Prop
  | some (.lst _) => True
  | some (.dK _) => True
  | some (.dT _) => True
  | some (.set _ _) => True
  | some (.ins _ _ _) => True
  | some (.ext _) => True
  | _ => False
section
variable {P : Program} {w : World} {H : Hp} {h h' : Heap} {x e : Addr} {o' : HO}
theorem HOk.write (ok : HOk P w H h) (mu : Mut (H x)) (he : e = x ∨ H e = some (.own x)) (k : ∀ b u, b ≠ e → h.get? b = some u → h'.get? b = some u) (heo : ∃ u, h'.get? e = some u)
    (new : ObjOk P w (upd H x o') h' x o') : HOk P w (upd H x o') h' := fun b u q => by
  have nown : ∀ c y, H c = some (.own y) → c ≠ x := fun c y r z => by subst z; rw [r] at mu; exact mu
  have ntup : ∀ c xs, H c = some (.tup xs) → c ≠ x := fun c xs r z => by subst z; rw [r] at mu; exact mu
  by_cases hb : b = x
  · subst hb; rw [upd_same] at q; cases q; exact new
  · rw [upd_ne hb] at q
    by_cases hbe : b = e
    · have q' : H b = some (.own x) := by
        rcases he with z | z
        · exact absurd (hbe.trans z) hb
        · rw [hbe]; exact z
      rw [q] at q'; cases q'
      obtain ⟨v, hv⟩ := heo
      exact ⟨v, by rw [hbe]; exact hv⟩
    · refine (ok b u q).stay (fun c v hc r => k c v ?_ r) (fun c r => by rw [upd_ne (nown c b r)]; exact r) fun c xs r => by rw [upd_ne (ntup c xs r)]; exact r
      rcases hc with rfl | hc
      · exact hbe
      · rintro rfl
        rcases he with z | z
        · exact nown c b hc z
        · rw [hc] at z; cases z; exact hb rfl
end
structure Un (fs ex : List Addr) (H H' : Hp) (h h' : Heap) : Prop where
  keep : ∀ b o, h.get? b = some o → H b = none → b ∉ fs → b ∉ ex → h'.get? b = some o
  slot : ∀ b o, h.get? b = some o → H b = none → b ∈ fs → b ∉ ex → ∃ sl, h'.get? b = some { o with slots := sl }
  free : ∀ b o, h.get? b = some o → H b = none → b ∉ ex → H' b = none
  there : ∀ b o, h.get? b = some o → b ∉ ex → ∃ o', h'.get? b = some o'
  tups : ∀ b xs, H b = some (.tup xs) → H' b = some (.tup xs)
  frzs : ∀ b o u, H b = some (.frz o u) → H' b = some (.frz o u)
  tbls : ∀ b ps, H b = some (.tbl ps) → ∃ more, H' b = some (.tbl (ps ++ more))
section
variable {fs fs' ex ex' : List Addr} {H H1 H2 : Hp} {h h1 h2 h' : Heap} {a x e : Addr} {o : HO}
theorem Un.any (u : Un fs ex H H1 h h1) {b : Addr} {ob : Obj} (q : h.get? b = some ob) (n : H b = none) (hx : b ∉ ex) : ∃ sl, h1.get? b = some { ob with slots := sl } := by
  by_cases hb : b ∈ fs
  · exact u.slot b ob q n hb hx
  · exact ⟨ob.slots, u.keep b ob q n hb hx⟩
theorem Un.kept (k : ∀ b u, h.get? b = some u → h'.get? b = some u) : Un fs ex H H h h' :=
  ⟨fun b ob q _ _ _ => k b ob q, fun b ob q _ _ _ => ⟨ob.slots, k b ob q⟩, fun _ _ _ n _ => n, fun b ob q _ => ⟨ob, k b ob q⟩, fun _ _ q => q, fun _ _ _ q => q, fun _ ps q => ⟨#[], by rw [q]; simp⟩⟩
theorem Un.refl : Un fs ex H H h h := Un.kept fun _ _ q => q
theorem Un.laid (k : ∀ b u, h.get? b = some u → h'.get? b = some u) (hp : h.objs.size ≤ a) (hn : H a = none) : Un fs ex H (upd H a o) h h' where
  keep := fun b u q _ _ _ => k b u q
  slot := fun b u q _ _ _ => ⟨u.slots, k b u q⟩
  free := fun b u q n _ => by rw [upd_ne (Nat.ne_of_lt (Nat.lt_of_lt_of_le (Heap.lt_size q) hp))]; exact n
  there := fun b u q _ => ⟨u, k b u q⟩
  tups := fun b xs q => by rw [upd_ne (ne_of_none q hn)]; exact q
  frzs := fun b u xs q => by rw [upd_ne (ne_of_none q hn)]; exact q
  tbls := fun b ps q => ⟨#[], by rw [upd_ne (ne_of_none q hn), q]; simp⟩
theorem Un.write (mu : Mut (H x)) (he : e = x ∨ H e = some (.own x)) (k : ∀ b u, b ≠ e → h.get? b = some u → h'.get? b = some u) (heo : ∃ u, h'.get? e = some u) : Un fs ex H (upd H x o) h h' := by
  have hx : ∀ b, H b = none → b ≠ x := fun b n z => by subst z; rw [n] at mu; exact mu
  have hb : ∀ b, H b = none → b ≠ e := fun b n z => by
    subst z
    rcases he with r | r
    · exact hx b n r
    · rw [n] at r; cases r
  have hm : ∀ b u, H b = some u → ¬ Mut (some u) → b ≠ x := fun b u q nm z => by subst z; rw [q] at mu; exact nm mu
  refine ⟨fun b u q n _ _ => k b u (hb b n) q, fun b u q n _ _ => ⟨u.slots, k b u (hb b n) q⟩, fun b u q n _ => by rw [upd_ne (hx b n)]; exact n, fun b u q _ => ?_,
    fun b xs q => by rw [upd_ne (hm b _ q fun z => z)]; exact q, fun b u xs q => by rw [upd_ne (hm b _ q fun z => z)]; exact q, fun b ps q => ⟨#[], by rw [upd_ne (hm b _ q fun z => z), q]; simp⟩⟩
  by_cases hbe : b = e
  · subst hbe; exact heo
  · exact ⟨u, k b u hbe q⟩
end
def trk (h : Heap) (H : Hp) : List Addr := (List.range h.objs.size).filter fun a => (H a).isSome
def hidT (h : Heap) (H : Hp) : Heap := PySem.W.hideAll h (trk h H)
theorem hidT_size (h : Heap) (H : Hp) : (hidT h H).objs.size = h.objs.size := PySem.W.hideAll_size _ _
theorem hidT_get {h : Heap} {H : Hp} {b : Addr} {o : Obj} (e : h.get? b = some o) (n : H b = none) : (hidT h H).get? b = some o :=
  PySem.W.hideAll_get _ e fun hm => by
    have q : (H b).isSome = true := (List.mem_filter.mp hm).2
    rw [n] at q; simp at q
theorem of_hidT {h : Heap} {H : Hp} {b : Addr} {o : Obj} (e : (hidT h H).get? b = some o) : h.get? b = some o ∧ H b = none := by
  have e' : h.get? b = some o := PySem.W.of_hideAll (trk h H) e
  refine ⟨e', ?_⟩
  cases q : H b with
  | none => rfl
  | some x =>
    have hm : b ∈ trk h H := List.mem_filter.mpr ⟨List.mem_range.mpr (Heap.lt_size e'), by simp [q]⟩
    have z : (hidT h H).get? b = none := PySem.W.hideAll_none (trk h H) hm
    rw [z] at e; cases e
def allNews (g h : Heap) (L : Addr) : List (Addr × Obj) := (List.range h.objs.size).filterMap fun a => if a = L ∨ (g.get? a).isSome = true then none else (h.get? a).map fun o => (a, o)
def rest (g h : Heap) (L d : Addr) : List (Addr × Obj) := (allNews g h L).filter fun p => decide (p.1 ≠ d)
end L2
namespace L2
open PySem PySem.Spec PyProof.Rows
structure Mod (K : PySem.W.Frag) (mg : Str → Option Value) (base : Heap) : Prop where
  kin : K.In base
  glob : base.Ns mainGlobals mg
  blt : ∃ mb, base.Ns builtinsNs mb ∧ ∀ x : Str, x ≠ "__name__" → mb x = bootBuiltins x
  nolimit : base.NoLimit
structure Cx where
  prog : Program
  w : World
  K : PySem.W.Frag
  mg : Str → Option Value
  base : Heap
  A : Around
  N : List Str
  s₀ : Shared
  H₀ : Hp
  env : Env
  outer : List Env
  stack : List Env
  ex : List Addr
  fn : Str → Bool
  calm : Bool
  pn : List (Addr × Obj)
  xe : Value → Shared → Prop
def frs (l : List Env) : List Addr := l.filterMap (·.frame)
abbrev Cx.fs (X : Cx) : List Addr := frs X.outer
def Vis (sc : Scope) (x : Str) : Prop := sc.names.lookup x = some .local ∨ sc.names.lookup x = some .cell ∨ sc.names.lookup x = some .free
def Loc (sc : Scope) (x : Str) : Prop := sc.names.lookup x = some .local ∨ sc.names.lookup x = some .cell
def Look (env : Env) (h : Heap) (m : Str → Option Value) (x : Str) (u : Value) : Prop :=
  (env.kindOf x = some .local ∧ m x = some u) ∨ ((env.kindOf x = some .cell ∨ env.kindOf x = some .free) ∧ ∃ c, env.cells.lookup x = some c ∧ h.IsCell c (some u))
structure Cx.Ok (X : Cx) : Prop where
  mod : Mod X.K X.mg X.base
  kind : X.env.scope.kind = .function
  glob : X.env.globals = mainGlobals
  blt : X.env.builtins = builtinsNs
  above : X.s₀.heap.objs.size ≤ X.env.locals
  inj : ∀ x y c, X.env.cells.lookup x = some c → X.env.cells.lookup y = some c → x = y
  has : ∀ x, (X.env.kindOf x = some .cell ∨ X.env.kindOf x = some .free) → ∃ c, X.env.cells.lookup x = some c
  cab : ∀ x c, X.fn x = true → X.env.cells.lookup x = some c → X.s₀.heap.objs.size ≤ c
  hd : X.calm = true → X.A.handled = none
  frames : X.A.frames = some X.stack
  stk : X.stack = X.outer ∨ (X.stack = X.env :: X.outer ∧ X.env.frame = some X.env.locals)
  exf : ∀ b ∈ X.ex, b ≠ X.env.locals ∧ ∀ x c, X.env.cells.lookup x = some c → c ≠ b
  bs : ∀ b o, X.base.get? b = some o → X.s₀.heap.get? b = some o ∧ X.H₀ b = none
  bsz : X.base.objs.size ≤ X.s₀.heap.objs.size
  noex : ∀ b o, X.base.get? b = some o → b ∉ X.ex
  exfs : ∀ b ∈ X.ex, b ∉ X.fs
  funs : X.s₀.heap.FunFrames X.base X.outer
  frf : ∀ b ∈ X.fs, X.H₀ b = none
structure Inv (X : Cx) (pins : List (Addr × Obj)) (σ : List (Option V)) (H : Hp) (s : Shared) : Prop where
  ok : X.Ok
  os : s.os = X.s₀.os
  bare : AllBare s.gens
  base : Un X.fs X.ex X.H₀ H X.s₀.heap s.heap
  loc : ∃ m, s.heap.Ns X.env.locals m ∧ ∀ (i : Nat) (x : Str) (v : V), X.N[i]? = some x → σ[i]? = some (some v) → Vis X.env.scope x → ∃ u, RelV v u ∧ Look X.env s.heap m x u
  cell : ∀ x c, X.env.cells.lookup x = some c → ∃ v, s.heap.IsCell c v
  free : H X.env.locals = none
  freeC : ∀ x c, X.env.cells.lookup x = some c → H c = none
  pin : ∀ p ∈ X.pn ++ pins, s.heap.get? p.1 = some p.2 ∧ H p.1 = none ∧ p.1 ≠ X.env.locals ∧ p.1 ∉ X.fs ∧ ∀ v, p.2.data ≠ .cell v
  hok : HOk X.prog X.w H s.heap
  len : σ.length = X.N.length
section
variable {X : Cx} {pins : List (Addr × Obj)} {σ : List (Option V)} {H H' : Hp} {s : Shared} {h' : Heap}
theorem Cx.Ok.nofr (ok : X.Ok) {b : Addr} {o : Obj} (e : X.base.get? b = some o) : b ∉ X.fs := fun hb => by
  have := (ok.funs.mem hb).1
  rw [e] at this; cases this
theorem Inv.bs (I : Inv X pins σ H s) : ∀ b o, X.base.get? b = some o → s.heap.get? b = some o ∧ H b = none := fun b o e =>
  ⟨I.base.keep b o (I.ok.bs b o e).1 (I.ok.bs b o e).2 (I.ok.nofr e) (I.ok.noex b o e), I.base.free b o (I.ok.bs b o e).1 (I.ok.bs b o e).2 (I.ok.noex b o e)⟩
theorem Inv.bk (I : Inv X pins σ H s) : ∀ b o, X.base.get? b = some o → s.heap.get? b = some o := fun b o e => (I.bs b o e).1
theorem Inv.mod (I : Inv X pins σ H s) : Mod X.K X.mg X.base := I.ok.mod
theorem Inv.kIn (I : Inv X pins σ H s) : X.K.In s.heap := I.ok.mod.kin.keeps I.bk
theorem Inv.lt (I : Inv X pins σ H s) : X.env.locals < s.heap.objs.size := let ⟨_, hn, _⟩ := I.loc; hn.lt
theorem Inv.sz (I : Inv X pins σ H s) : X.s₀.heap.objs.size ≤ s.heap.objs.size := Nat.le_trans I.ok.above (Nat.le_of_lt I.lt)
theorem Inv.nofs (I : Inv X pins σ H s) {a : Addr} (h : s.heap.objs.size ≤ a) : a ∉ X.fs := fun hb => by
  obtain ⟨_, o, ho, _⟩ := I.ok.funs.mem hb
  exact absurd (Nat.lt_of_lt_of_le (Heap.lt_size ho) (Nat.le_trans I.sz h)) (Nat.lt_irrefl _)
theorem Inv.cne (I : Inv X pins σ H s) : ∀ x c, X.env.cells.lookup x = some c → c ≠ X.env.locals := fun x c e z => by
  obtain ⟨v, o, ho, hd⟩ := I.cell x c e
  obtain ⟨m, ⟨o', es, ep, ho', hd', _⟩, _⟩ := I.loc
  rw [z, ho'] at ho; cases ho; rw [hd'] at hd; cases hd
theorem Inv.funs (I : Inv X pins σ H s) : s.heap.FunFrames X.base X.outer := by
  have all : ∀ (l : List Env), (∀ b ∈ frs l, b ∈ X.fs) → X.s₀.heap.FunFrames X.base l → s.heap.FunFrames X.base l := by
    intro l
    induction l with
    | nil => intro _ _; trivial
    | cons env r ih =>
      intro hs hl
      obtain ⟨hk, ⟨L, o, hf, hn, ho, hd⟩, hr⟩ := hl
      have hL : L ∈ X.fs := hs L (by unfold frs; rw [List.filterMap_cons, hf]; exact List.mem_cons_self)
      obtain ⟨sl, e⟩ := I.base.slot L o ho (I.ok.frf L hL) hL fun z => I.ok.exfs L z hL
      exact ⟨hk, ⟨L, _, hf, hn, e, hd⟩, ih (fun b hb => hs b (by unfold frs; rw [List.filterMap_cons, hf]; exact List.mem_cons_of_mem _ hb)) hr⟩
  exact all X.outer (fun _ hb => hb) I.ok.funs
theorem Inv.stack (I : Inv X pins σ H s) : s.heap.FunFrames X.base X.stack := by
  rcases I.ok.stk with e | ⟨e, hf⟩
  · rw [e]; exact I.funs
  · rw [e]
    obtain ⟨m, hn, _⟩ := I.loc
    refine .cons (by rw [I.ok.kind]; decide) hf hn ?_ I.funs
    exact Heap.get?_none_of_le (Nat.le_trans I.ok.bsz I.ok.above)
theorem Inv.stkSub (I : Inv X pins σ H s) : ∀ b ∈ frs X.stack, b ∈ X.env.locals :: X.fs := fun b hb => by
  rcases I.ok.stk with e | ⟨e, hf⟩
  · rw [e] at hb; exact List.mem_cons_of_mem _ hb
  · rw [e] at hb
    unfold frs at hb
    rw [List.filterMap_cons, hf] at hb
    exact hb
theorem Inv.stkFree (I : Inv X pins σ H s) : ∀ b ∈ frs X.stack, H b = none := fun b hb => by
  rcases List.mem_cons.mp (I.stkSub b hb) with e | hb
  · rw [e]; exact I.free
  · obtain ⟨_, o, ho, _⟩ := I.ok.funs.mem hb
    exact I.base.free b o ho (I.ok.frf b hb) fun z => I.ok.exfs b z hb
theorem Inv.step {g' : Array GenState} {t' : Nat} {d' : Drawn} {ch : List Addr} (I : Inv X pins σ H s)
    (hch : ∀ b ∈ ch, (b ∈ X.ex ∨ X.s₀.heap.objs.size ≤ b) ∧ b ≠ X.env.locals ∧ (∀ x c, X.env.cells.lookup x = some c → c ≠ b) ∧ ∀ p ∈ X.pn ++ pins, p.1 ≠ b)
    (keep : ∀ b o, b ≠ X.env.locals → b ∉ X.fs → b ∉ ch → s.heap.get? b = some o → H b = none → h'.get? b = some o)
    (slot : ∀ b o, b ≠ X.env.locals → b ∈ X.fs → b ∉ ch → s.heap.get? b = some o → H b = none → ∃ sl, h'.get? b = some { o with slots := sl }) (free : ∀ b o, b ∉ ch → s.heap.get? b = some o → H b = none → H' b = none)
    (there : ∀ b o, b ∉ ch → s.heap.get? b = some o → ∃ o', h'.get? b = some o')
    (tups : ∀ b xs, H b = some (.tup xs) → H' b = some (.tup xs)) (frzs : ∀ b o u, H b = some (.frz o u) → H' b = some (.frz o u)) (tbls : ∀ b ps, H b = some (.tbl ps) → ∃ more, H' b = some (.tbl (ps ++ more)))
    (ns : ∀ m, s.heap.Ns X.env.locals m → h'.Ns X.env.locals m) (hok : HOk X.prog X.w H' h') (hg : AllBare g') :
    Inv X pins σ H' { s with heap := h', gens := g', drawn := d', toks := t' } := by
  have neL : ∀ b o, X.s₀.heap.get? b = some o → b ≠ X.env.locals := fun b o e => Nat.ne_of_lt (Nat.lt_of_lt_of_le (Heap.lt_size e) I.ok.above)
  have neC : ∀ b o, X.s₀.heap.get? b = some o → b ∉ X.ex → b ∉ ch := fun b o e hx hb => by
    rcases (hch b hb).1 with z | z
    · exact hx z
    · exact absurd (Nat.lt_of_lt_of_le (Heap.lt_size e) z) (Nat.lt_irrefl _)
  have cellK : ∀ x c, X.env.cells.lookup x = some c → ∀ v, s.heap.IsCell c v → h'.IsCell c v := fun x c e v ⟨o, ho, hd⟩ => by
    have nch : c ∉ ch := fun z => (hch c z).2.2.1 x c e rfl
    by_cases hc : c ∈ X.fs
    · obtain ⟨sl, q⟩ := slot c o (I.cne x c e) hc nch ho (I.freeC x c e)
      exact ⟨_, q, hd⟩
    · exact ⟨o, keep c o (I.cne x c e) hc nch ho (I.freeC x c e), hd⟩
  refine ⟨I.ok, I.os, hg, ⟨fun b o e n hb hx => ?_, fun b o e n hb hx => ?_, fun b o e n hx => ?_, fun b o e hx => ?_, fun b xs e => tups b xs (I.base.tups b xs e), fun b o xs e => frzs b o xs (I.base.frzs b o xs e), fun b ps e => ?_⟩, ?_, fun x c e => ?_, ?_, fun x c e => ?_, fun p hp => ?_, hok, I.len⟩
  · exact keep b o (neL b o e) hb (neC b o e hx) (I.base.keep b o e n hb hx) (I.base.free b o e n hx)
  · obtain ⟨sl, e1⟩ := I.base.slot b o e n hb hx
    obtain ⟨sl', e2⟩ := slot b _ (neL b o e) hb (neC b o e hx) e1 (I.base.free b o e n hx)
    exact ⟨sl', e2⟩
  · obtain ⟨o', e1⟩ := I.base.there b o e hx
    exact free b o' (neC b o e hx) e1 (I.base.free b o e n hx)
  · obtain ⟨o', e1⟩ := I.base.there b o e hx
    exact there b o' (neC b o e hx) e1
  · obtain ⟨m1, e1⟩ := I.base.tbls b ps e
    obtain ⟨m2, e2⟩ := tbls b _ e1
    exact ⟨m1 ++ m2, by rw [e2, Array.append_assoc]⟩
  · obtain ⟨m, hn, hl⟩ := I.loc
    refine ⟨m, ns m hn, fun i x v e1 e2 e3 => ?_⟩
    obtain ⟨u, r, l⟩ := hl i x v e1 e2 e3
    refine ⟨u, r, ?_⟩
    rcases l with l | ⟨k, c, e, z⟩
    · exact .inl l
    · exact .inr ⟨k, c, e, cellK x c e _ z⟩
  · obtain ⟨v, z⟩ := I.cell x c e
    exact ⟨v, cellK x c e v z⟩
  · obtain ⟨m, ⟨o, _, _, ho, _⟩, _⟩ := I.loc
    exact free _ o (fun z => (hch _ z).2.1 rfl) ho I.free
  · obtain ⟨v, o, ho, hd⟩ := I.cell x c e
    exact free c o (fun z => (hch c z).2.2.1 x c e rfl) ho (I.freeC x c e)
  · obtain ⟨e, n, ne, nf, d⟩ := I.pin p hp
    have nch : p.1 ∉ ch := fun z => (hch p.1 z).2.2.2 p hp rfl
    exact ⟨keep p.1 p.2 ne nf nch e n, free p.1 p.2 nch e n, ne, nf, d⟩
theorem Inv.un {t' : Nat} (I : Inv X pins σ H s) (u : Un X.fs [] H H' s.heap h') (hok : HOk X.prog X.w H' h') : Inv X pins σ H' { s with heap := h', toks := t' } := by
  obtain ⟨m, ⟨o, es, ep, ho, r⟩, _⟩ := id I.loc
  obtain ⟨sl, hL⟩ := u.any ho I.free (by simp)
  exact I.step (g' := s.gens) (d' := s.drawn) (ch := []) (fun _ z => nomatch z) (fun b o _ hb _ e n => u.keep b o e n hb (by simp)) (fun b o _ hb _ e n => u.slot b o e n hb (by simp)) (fun b o _ e n => u.free b o e n (by simp)) (fun b o _ e => u.there b o e (by simp)) u.tups u.frzs u.tbls (fun m' hm => by
    obtain ⟨o', es', ep', ho', r'⟩ := hm
    rw [ho] at ho'; cases ho'
    exact ⟨_, es', ep', hL, r'⟩) hok I.bare
theorem Inv.call {g' : Array GenState} {t' : Nat} {d' : Drawn} {ch : List Addr} (I : Inv X pins σ H s) (u : Un (frs X.stack) ch H H' s.heap h') (hok : HOk X.prog X.w H' h') (hg : AllBare g')
    (hch : ∀ b ∈ ch, (b ∈ X.ex ∨ X.s₀.heap.objs.size ≤ b) ∧ b ≠ X.env.locals ∧ (∀ x c, X.env.cells.lookup x = some c → c ≠ b) ∧ ∀ p ∈ X.pn ++ pins, p.1 ≠ b) :
    Inv X pins σ H' { s with heap := h', gens := g', drawn := d', toks := t' } := by
  obtain ⟨m, ⟨o, es, ep, ho, r⟩, _⟩ := id I.loc
  obtain ⟨sl, hL⟩ := u.any ho I.free fun z => (hch _ z).2.1 rfl
  exact I.step (ch := ch) hch (fun b o hL hb hc e n => u.keep b o e n (fun z => (List.mem_cons.mp (I.stkSub b z)).elim hL hb) hc) (fun b o _ _ hc e n => u.any e n hc) (fun b o hc e n => u.free b o e n hc) (fun b o hc e => u.there b o e hc) u.tups u.frzs u.tbls (fun m' hm => by
    obtain ⟨o', es', ep', ho', r'⟩ := hm
    rw [ho] at ho'; cases ho'
    exact ⟨_, es', ep', hL, r'⟩) hok hg
theorem Inv.turned {t' : Nat} {it : Addr} (I : Inv X pins σ H s) (k : ∀ b o, b ≠ it → s.heap.get? b = some o → h'.get? b = some o) (hn : H it = none) (hL : it ≠ X.env.locals)
    (h1 : it ∈ X.ex ∨ X.s₀.heap.objs.size ≤ it) (h2 : ∀ x c, X.env.cells.lookup x = some c → c ≠ it) (h3 : ∀ p ∈ X.pn ++ pins, p.1 ≠ it) : Inv X pins σ H { s with heap := h', toks := t' } := by
  have nit : ∀ b u, H b = some u → b ≠ it := fun b u e z => by rw [z, hn] at e; cases e
  refine I.step (g' := s.gens) (d' := s.drawn) (ch := [it]) (fun b hb => ?_) (fun b o _ _ hc e _ => k b o (fun z => hc (by simp [z])) e) (fun b o _ _ hc e _ => ⟨o.slots, k b o (fun z => hc (by simp [z])) e⟩) (fun _ _ _ _ n => n)
    (fun b o hc e => ⟨o, k b o (fun z => hc (by simp [z])) e⟩) (fun _ _ e => e) (fun _ _ _ e => e) (fun b ps e => ⟨#[], by rw [e]; simp⟩) (fun m hm => ?_) (fun b u e => ?_) I.bare
  · have e : b = it := by simpa using hb
    subst e
    exact ⟨h1, hL, h2, h3⟩
  · obtain ⟨o, es, ep, ho, r⟩ := hm
    exact ⟨o, es, ep, k _ o (Ne.symm hL) ho, r⟩
  · refine (I.hok b u e).stay (fun c v hc q => k c v ?_ q) (fun _ q => q) fun _ _ q => q
    rcases hc with z | z
    · rw [z]; exact nit b u e
    · exact nit c _ z
theorem Inv.tok (I : Inv X pins σ H s) (t : Nat) : Inv X pins σ H { s with toks := t } := I.un (h' := s.heap) (t' := t) Un.refl I.hok
theorem Inv.kept {t' : Nat} (I : Inv X pins σ H s) (k : ∀ b u, s.heap.get? b = some u → h'.get? b = some u) : Inv X pins σ H { s with heap := h', toks := t' } := I.un (Un.kept k) (I.hok.kept k)
theorem Inv.laid {a : Addr} {o : HO} {t' : Nat} (I : Inv X pins σ H s) (k : ∀ b u, s.heap.get? b = some u → h'.get? b = some u) (hp : s.heap.objs.size ≤ a) (new : ObjOk X.prog X.w (upd H a o) h' a o) :
    Inv X pins σ (upd H a o) { s with heap := h', toks := t' } := I.un (Un.laid k hp (I.hok.fresh hp)) (I.hok.laid k hp new)
theorem Inv.write {x e : Addr} {o : HO} {t' : Nat} (I : Inv X pins σ H s) (mu : Mut (H x)) (he : e = x ∨ H e = some (.own x)) (k : ∀ b u, b ≠ e → s.heap.get? b = some u → h'.get? b = some u) (heo : ∃ u, h'.get? e = some u)
    (new : ObjOk X.prog X.w (upd H x o) h' x o) : Inv X pins σ (upd H x o) { s with heap := h', toks := t' } := I.un (Un.write mu he k heo) (I.hok.write mu he k heo new)
theorem Inv.weak {σ' : List (Option V)} (I : Inv X pins σ H s) (hl : σ'.length = σ.length) (w : ∀ (i : Nat) v, σ'[i]? = some (some v) → σ[i]? = some (some v)) : Inv X pins σ' H s :=
  ⟨I.ok, I.os, I.bare, I.base, let ⟨m, hn, hl'⟩ := I.loc; ⟨m, hn, fun i x v e1 e2 e3 => hl' i x v e1 (w i v e2) e3⟩, I.cell, I.free, I.freeC, I.pin, I.hok, hl.trans I.len⟩
theorem Inv.pins_of {pins' : List (Addr × Obj)} (I : Inv X pins σ H s) (h : ∀ p ∈ pins', s.heap.get? p.1 = some p.2 ∧ H p.1 = none ∧ p.1 ≠ X.env.locals ∧ p.1 ∉ X.fs ∧ ∀ v, p.2.data ≠ .cell v) : Inv X pins' σ H s :=
  ⟨I.ok, I.os, I.bare, I.base, I.loc, I.cell, I.free, I.freeC, fun p hp => (List.mem_append.mp hp).elim (fun z => I.pin p (List.mem_append_left _ z)) (h p), I.hok, I.len⟩
theorem nodup_ix {N : List Str} (hN : N.Nodup) {i j : Nat} {x : Str} (a : N[i]? = some x) (b : N[j]? = some x) : i = j := by
  obtain ⟨h1, e1⟩ := List.getElem?_eq_some_iff.mp a
  obtain ⟨h2, e2⟩ := List.getElem?_eq_some_iff.mp b
  exact (List.getElem_inj hN).mp (e1.trans e2.symm)
theorem store_ok2 {M : Model} {A : Around} {E : Value → Shared → Prop} {i : Nat} {x : Str} {v : V} {u : Value} {Q : Unit → Shared → Prop} (I : Inv X pins σ H s) (hN : X.N.Nodup) (hi : X.N[i]? = some x) (hx : Loc X.env.scope x) (r : RelV v u)
    (h : ∀ s', Inv X pins (σ.set i (some v)) H s' → (∃ a, Heap.SameBut a s.heap s'.heap ∧ (a = X.env.locals ∨ X.env.cells.lookup x = some a)) → Q () s') (hf : X.fn x = true ∨ X.env.scope.names.lookup x = some .local := by first | exact .inl rfl | exact .inr rfl | assumption) : wpAny M A (storeName X.env x u) Q E s := by
  obtain ⟨m, hn, hl⟩ := id I.loc
  have hcls : (X.env.scope.kind == .class || (X.env.scope.kind == .module && X.env.locals != X.env.globals)) = false := by rw [I.ok.kind]; rfl
  have hiσ : i < σ.length := by rw [I.len]; exact (List.getElem?_eq_some_iff.mp hi).1
  have cne := I.cne
  have tracked : ∀ {a : Addr} {h' : Heap}, (∃ o, s.heap.get? a = some o ∧ H a = none) → Heap.SameBut a s.heap h' → HOk X.prog X.w H h' := fun {a h'} ha hs b ob e => by
    obtain ⟨_, _, hfree⟩ := ha
    refine (I.hok b ob e).stay (fun c w' hc q => (hs.2 c ?_).trans q) (fun _ q => q) fun _ _ q => q
    rintro rfl
    rcases hc with rfl | hc
    · rw [hfree] at e; cases e
    · rw [hfree] at hc; cases hc
  rcases hx with hk | hk
  · refine wpAny_storeName_local hk hn (fun h' hn' hs => ?_) hcls
    obtain ⟨oL, _, _, hoL, _⟩ := id hn
    refine h _ ⟨I.ok, I.os, I.bare, ⟨fun b o e n hb hx => ?_, fun b o e n hb hx => ?_, I.base.free, fun b o e hx => ?_, I.base.tups, I.base.frzs, I.base.tbls⟩, ⟨_, hn', fun j y v' e1 e2 e3 => ?_⟩, fun y c e => ?_, I.free, I.freeC, fun p hp => ?_, tracked ⟨oL, hoL, I.free⟩ hs, by simpa using I.len⟩ ⟨_, hs, .inl rfl⟩
    · exact (hs.2 b (Nat.ne_of_lt (Nat.lt_of_lt_of_le (Heap.lt_size e) I.ok.above))).trans (I.base.keep b o e n hb hx)
    · obtain ⟨sl, e1⟩ := I.base.slot b o e n hb hx
      exact ⟨sl, (hs.2 b (Nat.ne_of_lt (Nat.lt_of_lt_of_le (Heap.lt_size e) I.ok.above))).trans e1⟩
    · obtain ⟨o', e1⟩ := I.base.there b o e hx
      exact ⟨o', (hs.2 b (Nat.ne_of_lt (Nat.lt_of_lt_of_le (Heap.lt_size e) I.ok.above))).trans e1⟩
    · by_cases hj : j = i
      · subst hj
        rw [hi] at e1; cases e1
        rw [List.getElem?_set_self hiσ] at e2
        cases e2
        exact ⟨u, r, .inl ⟨hk, by simp⟩⟩
      · rw [List.getElem?_set_ne (Ne.symm hj)] at e2
        obtain ⟨u', r', q⟩ := hl j y v' e1 e2 e3
        refine ⟨u', r', ?_⟩
        rcases q with ⟨k, e⟩ | ⟨k, c, e, z⟩
        · refine .inl ⟨k, ?_⟩
          have : y ≠ x := fun e => hj (nodup_ix hN e1 (e ▸ hi))
          simp [this, e]
        · exact .inr ⟨k, c, e, z.sameBut hs (cne y c e)⟩
    · obtain ⟨w', z⟩ := I.cell y c e
      exact ⟨w', z.sameBut hs (cne y c e)⟩
    · obtain ⟨e, n, ne, nf, d⟩ := I.pin p hp
      exact ⟨(hs.2 p.1 ne).trans e, n, ne, nf, d⟩
  · have hfn : X.fn x = true := by
      rcases hf with z | z
      · exact z
      · rw [z] at hk; cases hk
    obtain ⟨c, hc⟩ := I.ok.has x (.inl hk)
    obtain ⟨w', z⟩ := I.cell x c hc
    refine wpAny_storeName_cell I.ok.kind hk hc z (fun h' hc' hs => ?_)
    obtain ⟨oc, hoc, hocd⟩ := id z
    refine h { s with heap := h' } ⟨I.ok, I.os, I.bare, ⟨fun b o e n hb hx => ?_, fun b o e n hb hx => ?_, I.base.free, fun b o e hx => ?_, I.base.tups, I.base.frzs, I.base.tbls⟩, ⟨m, hn.sameBut hs (Ne.symm (cne x c hc)), fun j y v' e1 e2 e3 => ?_⟩, fun y c' e => ?_, I.free, I.freeC, fun p hp => ?_, tracked ⟨oc, hoc, I.freeC x c hc⟩ hs, by simpa using I.len⟩ ⟨c, hs, .inr hc⟩
    · exact (hs.2 b (Nat.ne_of_lt (Nat.lt_of_lt_of_le (Heap.lt_size e) (I.ok.cab x c hfn hc)))).trans (I.base.keep b o e n hb hx)
    · obtain ⟨sl, e1⟩ := I.base.slot b o e n hb hx
      exact ⟨sl, (hs.2 b (Nat.ne_of_lt (Nat.lt_of_lt_of_le (Heap.lt_size e) (I.ok.cab x c hfn hc)))).trans e1⟩
    · obtain ⟨o', e1⟩ := I.base.there b o e hx
      exact ⟨o', (hs.2 b (Nat.ne_of_lt (Nat.lt_of_lt_of_le (Heap.lt_size e) (I.ok.cab x c hfn hc)))).trans e1⟩
    · by_cases hj : j = i
      · subst hj
        rw [hi] at e1; cases e1
        rw [List.getElem?_set_self hiσ] at e2
        cases e2
        exact ⟨u, r, .inr ⟨.inl hk, c, hc, hc'⟩⟩
      · rw [List.getElem?_set_ne (Ne.symm hj)] at e2
        obtain ⟨u', r', q⟩ := hl j y v' e1 e2 e3
        refine ⟨u', r', ?_⟩
        rcases q with q | ⟨k, c', e, z'⟩
        · exact .inl q
        · refine .inr ⟨k, c', e, z'.sameBut hs ?_⟩
          rintro rfl
          exact hj (nodup_ix hN e1 (I.ok.inj _ _ _ e hc ▸ hi))
    · by_cases hcc : c' = c
      · subst hcc; exact ⟨_, hc'⟩
      · obtain ⟨w2, z2⟩ := I.cell y c' e
        exact ⟨w2, z2.sameBut hs hcc⟩
    · obtain ⟨e, n, ne, nf, d⟩ := I.pin p hp
      refine ⟨(hs.2 p.1 ?_).trans e, n, ne, nf, d⟩
      intro q
      rw [q, hoc] at e
      have q' : oc = p.2 := Option.some.inj e
      exact d w' (by rw [← q']; exact hocd)
theorem store_ok {M : Model} {A : Around} {E : Value → Shared → Prop} {i : Nat} {x : Str} {v : V} {u : Value} {Q : Unit → Shared → Prop} (I : Inv X pins σ H s) (hN : X.N.Nodup) (hi : X.N[i]? = some x) (hx : Loc X.env.scope x) (r : RelV v u)
    (h : ∀ s', Inv X pins (σ.set i (some v)) H s' → Q () s') (hf : X.fn x = true ∨ X.env.scope.names.lookup x = some .local := by first | exact .inl rfl | exact .inr rfl | assumption) : wpAny M A (storeName X.env x u) Q E s :=
  store_ok2 I hN hi hx r (fun s' I' _ => h s' I') hf
theorem Inv.call' {s' : Shared} {ch : List Addr} (I : Inv X pins σ H s) (ho : s'.os = s.os) (u : Un (frs X.stack) ch H H' s.heap s'.heap) (hok : HOk X.prog X.w H' s'.heap) (hg : AllBare s'.gens)
    (hch : ∀ b ∈ ch, (b ∈ X.ex ∨ X.s₀.heap.objs.size ≤ b) ∧ b ≠ X.env.locals ∧ (∀ x c, X.env.cells.lookup x = some c → c ≠ b) ∧ ∀ p ∈ X.pn ++ pins, p.1 ≠ b) : Inv X pins σ H' s' := by
  obtain ⟨h', g', d', t', o'⟩ := s'
  have e : o' = s.os := ho
  subst e
  exact I.call (g' := g') (t' := t') (d' := d') u hok hg hch
end
abbrev XK := Value → Option Addr → Hp → Prop
abbrev St := List (Option V)
abbrev VK := V → Hp → Prop
abbrev TE := St → Hp → VK → Prop
abbrev TT := St → Hp → (Bool → Hp → Prop) → Prop
abbrev TA := St → Hp → (List V → Hp → Prop) → Prop
structure Ends where
  nx : St → Hp → Prop
  rt : VK
  bk : St → Hp → Prop := fun _ _ => False
  ct : St → Hp → Prop := fun _ _ => False
abbrev TS := Ends → St → Hp → Prop
def EP (X : Cx) (pins : List (Addr × Obj)) (σ : St) (Q : VK) (u : Value) (s' : Shared) : Prop := ∃ v H', Inv X pins σ H' s' ∧ RelV v u ∧ Q v H'
def TP (X : Cx) (pins : List (Addr × Obj)) (σ : St) (Q : Bool → Hp → Prop) (b : Bool) (s' : Shared) : Prop := ∃ H', Inv X pins σ H' s' ∧ Q b H'
def AP (X : Cx) (pins : List (Addr × Obj)) (σ : St) (Q : List V → Hp → Prop) (us : List Value) (s' : Shared) : Prop := ∃ vs H', Inv X pins σ H' s' ∧ Vals vs us ∧ Q vs H'
def SP (X : Cx) (pins : List (Addr × Obj)) (D : Ends) (f : Flow) (s' : Shared) : Prop :=
  match f with
  | .next => ∃ σ' H', Inv X pins σ' H' s' ∧ D.nx σ' H'
  | .brk => ∃ σ' H', Inv X pins σ' H' s' ∧ D.bk σ' H'
  | .cont => ∃ σ' H', Inv X pins σ' H' s' ∧ D.ct σ' H'
  | .ret u => ∃ v σ' H', Inv X pins σ' H' s' ∧ RelV v u ∧ D.rt v H'
def PE (X : Cx) (e : Expr) (t : TE) : Prop :=
  ∀ (pins : List (Addr × Obj)) (s : Shared) (σ : St) (H : Hp) (Q : VK), Inv X pins σ H s → t σ H Q → wpAny (model X.prog X.w) X.A (eval e X.env) (EP X pins σ Q) X.xe s
def PT (X : Cx) (e : Expr) (t : TT) : Prop :=
  ∀ (pins : List (Addr × Obj)) (s : Shared) (σ : St) (H : Hp) (Q : Bool → Hp → Prop), Inv X pins σ H s → t σ H Q → wpAny (model X.prog X.w) X.A (isTrue e X.env (eval e X.env)) (TP X pins σ Q) X.xe s
def PW (X : Cx) (e : Expr) (t : TT) : Prop :=
  ∀ (whole : Sem Value) (pins : List (Addr × Obj)) (s : Shared) (σ : St) (H : Hp) (Q : Bool → Hp → Prop), Inv X pins σ H s → t σ H Q → wpAny (model X.prog X.w) X.A (isTrue e X.env whole) (TP X pins σ Q) X.xe s
theorem PW.pt {X : Cx} {e : Expr} {t : TT} (h : PW X e t) : PT X e t := h _
def PA (X : Cx) (es : List Expr) (t : TA) : Prop :=
  ∀ (pos : Pos) (pins : List (Addr × Obj)) (s : Shared) (σ : St) (H : Hp) (Q : List V → Hp → Prop), Inv X pins σ H s → t σ H Q → wpAny (model X.prog X.w) X.A (spliced (backTo pos (starEach es X.env))) (AP X pins σ Q) X.xe s
def PS (X : Cx) (st : Stmt) (t : TS) : Prop :=
  ∀ (pins : List (Addr × Obj)) (s : Shared) (σ : St) (H : Hp) (D : Ends), Inv X pins σ H s → t D σ H → wpAny (model X.prog X.w) X.A (exec st X.env) (SP X pins D) X.xe s
def PSs (X : Cx) (st : List Stmt) (t : TS) : Prop :=
  ∀ (pins : List (Addr × Obj)) (s : Shared) (σ : St) (H : Hp) (D : Ends), Inv X pins σ H s → t D σ H → wpAny (model X.prog X.w) X.A (execs st X.env) (SP X pins D) X.xe s
theorem thn {α : Type} {t : Sem α} {Q Q' : α → Shared → Prop} {M : Model} {A : Around} {E : Value → Shared → Prop} {s : Shared} (h : wpAny M A t Q E s) (hQ : ∀ a s, Q a s → Q' a s) : wpAny M A t Q' E s := wpAny_mono h hQ fun _ _ x => x
end L2
namespace L2
open PySem PySem.Spec PyProof.Rows
section
variable {X : Cx}
def tVar (i : Nat) : TE := fun σ H Q => ∃ v, σ[i]? = some (some v) ∧ Q v H
def tC (v : V) : TE := fun _ H Q => Q v H
theorem pe_var {i : Nat} {x : Str} {pos : Pos} (hN : X.N[i]? = some x) (hv : Vis X.env.scope x) (hd : (x == ("__debug__" : Str)) = false := by decide) (hcd : (x == ("__classdict__" : Str)) = false := by decide) : PE X (.Name x pos) (tVar i) := by
  intro pins s σ H Q I h
  obtain ⟨v, e, h⟩ := h
  obtain ⟨m, hn, hl⟩ := I.loc
  obtain ⟨u, r, l⟩ := hl i x v hN e hv
  have fin : EP X pins σ Q u s := ⟨v, H, I, r, h⟩
  rcases l with ⟨hk, hm⟩ | ⟨hk, c, hc, hcell⟩
  · exact wpAny_Name (wpAny_loadName_local I.ok.kind hk hn hm fin) hd
  · rcases hk with hk | hk
    · exact wpAny_Name (wpAny_loadName_cell I.ok.kind hk hc hcell fin) hd
    · exact wpAny_Name (wpAny_loadName_free I.ok.kind hk hc hcell fin hcd) hd
theorem pe_int {i j pos} : PE X (.Constant (.int i) j pos) (tC (.int i)) := fun _ _ _ H _ I h => wpAny_Constant_int ⟨.int i, H, I.tok _, ⟨_, rfl⟩, h⟩
theorem pe_bl {b j pos} : PE X (.Constant (.bool b) j pos) (tC (.bl b)) := fun _ _ _ H _ I h => Constant_bool ⟨.bl b, H, I, rfl, h⟩
theorem pe_non {j pos} : PE X (.Constant .none j pos) (tC .non) := fun _ _ _ H _ I h => Constant_none ⟨.non, H, I, rfl, h⟩
theorem pe_str {x j pos} : PE X (.Constant (.str x) j pos) (tC (.str x)) := fun _ _ _ H _ I h => Calls.Constant_str ⟨.str x, H, I.tok _, ⟨_, rfl⟩, h⟩
def Gl (X : Cx) (x : Str) : Prop := X.env.kindOf x = some .globalImplicit
theorem ld_glob {E : Value → Shared → Prop} {pins : List (Addr × Obj)} {s : Shared} {σ : St} {H : Hp} {x : Str} {u : Value} {pos : Pos} {Q : Value → Shared → Prop} (I : Inv X pins σ H s) (hg : Gl X x) (hm : X.mg x = some u) (h : Q u s)
    (hd : (x == ("__debug__" : Str)) = false := by decide) : wpAny (model X.prog X.w) X.A (eval (.Name x pos) X.env) Q E s :=
  Calls.Name_function_global I.ok.kind hg (Calls.loadGlobal_global (by rw [I.ok.glob]; exact I.mod.glob.keeps I.bk) hm h) hd
theorem ld_blt {E : Value → Shared → Prop} {pins : List (Addr × Obj)} {s : Shared} {σ : St} {H : Hp} {x : Str} {u : Value} {pos : Pos} {Q : Value → Shared → Prop} (I : Inv X pins σ H s) (hg : Gl X x) (hm : X.mg x = none) (hv : bootBuiltins x = some u) (h : Q u s)
    (hn : x ≠ "__name__" := by decide) (hd : (x == ("__debug__" : Str)) = false := by decide) : wpAny (model X.prog X.w) X.A (eval (.Name x pos) X.env) Q E s := by
  obtain ⟨mb, h1, h2⟩ := I.mod.blt
  exact Calls.Name_function_global I.ok.kind hg (Calls.loadGlobal_builtin (by rw [I.ok.glob]; exact I.mod.glob.keeps I.bk) hm (by rw [I.ok.blt]; exact h1.keeps I.bk) ((h2 x hn).trans hv) h) hd
theorem pe_bltn {x : Str} {v : V} {u : Value} {pos : Pos} (hg : Gl X x) (hm : X.mg x = none) (hv : bootBuiltins x = some u) (r : RelV v u) (hn : x ≠ "__name__" := by decide) (hd : (x == ("__debug__" : Str)) = false := by decide) : PE X (.Name x pos) (tC v) :=
  fun _ _ _ H _ I h => ld_blt I hg hm hv ⟨v, H, I, r, h⟩ hn hd
variable {a b : Expr} {ta tb : TE} {pos : Pos}
def tB (t : TE) : TT := fun σ H Q => t σ H fun x H1 => ∃ c, x = .bl c ∧ Q c H1
variable {tA tB' : TT} {rest : List Expr}
def tAnd (t u : TT) : TT := fun σ H Q => t σ H fun c H1 => if c = true then u σ H1 Q else Q false H1
def tOr (t u : TT) : TT := fun σ H Q => t σ H fun c H1 => if c = true then Q true H1 else u σ H1 Q
def tNot (t : TT) : TT := fun σ H Q => t σ H fun c H1 => Q (!c) H1
theorem pw_and1 (ha : PT X a tA) : PW X (.BoolOp .And [a] pos) tA := by
  intro wh pins s σ H Q I h
  refine isTrue_and (thn (ha pins s σ H Q I h) fun c s1 e => ?_)
  cases c with
  | true => exact isTrue_and_nil e
  | false => exact e
theorem pw_or1 (ha : PT X a tA) : PW X (.BoolOp .Or [a] pos) tA := by
  intro wh pins s σ H Q I h
  refine isTrue_or (thn (ha pins s σ H Q I h) fun c s1 e => ?_)
  cases c with
  | false => exact isTrue_or_nil e
  | true => exact e
theorem pw_and (ha : PT X a tA) (hb : PW X (.BoolOp .And (b :: rest) pos) tB') : PW X (.BoolOp .And (a :: b :: rest) pos) (tAnd tA tB') := by
  intro wh pins s σ H Q I h
  refine isTrue_and (thn (ha pins s σ H _ I h) fun c s1 ⟨H1, I1, q1⟩ => ?_)
  cases c with
  | true => exact hb wh pins s1 σ H1 Q I1 q1
  | false => exact ⟨H1, I1, q1⟩
theorem pw_or (ha : PT X a tA) (hb : PW X (.BoolOp .Or (b :: rest) pos) tB') : PW X (.BoolOp .Or (a :: b :: rest) pos) (tOr tA tB') := by
  intro wh pins s σ H Q I h
  refine isTrue_or (thn (ha pins s σ H _ I h) fun c s1 ⟨H1, I1, q1⟩ => ?_)
  cases c with
  | true => exact ⟨H1, I1, q1⟩
  | false => exact hb wh pins s1 σ H1 Q I1 q1
theorem pt_not (ha : PT X a tA) : PT X (.UnaryOp .Not a pos) (tNot tA) := by
  intro pins s σ H Q I h
  exact isTrue_not (ha pins s σ H (fun c H1 => Q (!c) H1) I h)
def tAndV (ta tb : TE) : TE := fun σ H Q => ta σ H fun x H1 => ∃ c, x = .bl c ∧ if c = true then tb σ H1 Q else Q (.bl false) H1
def tOrV (ta tb : TE) : TE := fun σ H Q => ta σ H fun x H1 => ∃ c, x = .bl c ∧ if c = true then Q (.bl true) H1 else tb σ H1 Q
def tNotV (ta : TE) : TE := fun σ H Q => ta σ H fun x H1 => ∃ c, x = .bl c ∧ Q (.bl (!c)) H1
theorem pe_one {op} {t : TE} (h : PE X a t) : PE X (.BoolOp op [a] pos) t := fun pins s σ H Q I hw => BoolOp_one (h pins s σ H Q I hw)
theorem pe_and (ha : PE X a ta) (hb : PE X (.BoolOp .And (b :: rest) pos) tb) : PE X (.BoolOp .And (a :: b :: rest) pos) (tAndV ta tb) := by
  intro pins s σ H Q I h
  refine BoolOp_and (thn (ha pins s σ H _ I h) fun v s1 ⟨x, H1, I1, r1, q1⟩ => ?_)
  obtain ⟨c, rfl, q1⟩ := q1
  cases r1
  refine wpAny_truthy_bool ?_
  cases c with
  | true => exact hb pins s1 σ H1 Q I1 q1
  | false => exact ⟨.bl false, H1, I1, rfl, q1⟩
theorem pe_or (ha : PE X a ta) (hb : PE X (.BoolOp .Or (b :: rest) pos) tb) : PE X (.BoolOp .Or (a :: b :: rest) pos) (tOrV ta tb) := by
  intro pins s σ H Q I h
  refine BoolOp_or (thn (ha pins s σ H _ I h) fun v s1 ⟨x, H1, I1, r1, q1⟩ => ?_)
  obtain ⟨c, rfl, q1⟩ := q1
  cases r1
  refine wpAny_truthy_bool ?_
  cases c with
  | false => exact hb pins s1 σ H1 Q I1 q1
  | true => exact ⟨.bl true, H1, I1, rfl, q1⟩
theorem pe_not (ha : PE X a ta) : PE X (.UnaryOp .Not a pos) (tNotV ta) := by
  intro pins s σ H Q I h
  refine UnaryOp_ (thn (ha pins s σ H _ I h) fun v s1 ⟨x, H1, I1, r1, q1⟩ => ?_)
  obtain ⟨c, rfl, q1⟩ := q1
  cases r1
  exact not_of (wpAny_truthy_bool ⟨.bl (!c), H1, I1, rfl, q1⟩)
def tIf (t : TT) (ta tb : TE) : TE := fun σ H Q => t σ H fun c H1 => if c = true then ta σ H1 Q else tb σ H1 Q
theorem pe_ifExp {c : Expr} (hc : PT X c tA) (ha : PE X a ta) (hb : PE X b tb) : PE X (.IfExp c a b pos) (tIf tA ta tb) := by
  intro pins s σ H Q I h
  refine wpAny_IfExp (thn (hc pins s σ H _ I h) fun d s1 ⟨H1, I1, q1⟩ => ?_)
  cases d with
  | true => exact ha pins s1 σ H1 Q I1 q1
  | false => exact hb pins s1 σ H1 Q I1 q1
end
end L2
namespace L2
open PySem PySem.Spec PyProof.Rows
def SqL (K : PySem.W.Frag) (H : Hp) (a : Addr) (xs : List V) : Prop :=
  Rd H a (.lst xs) ∨
    ∃ (o : Obj) (its : Array Value) (n : Nat), K.lookup a = some o ∧ o.cls = .type "list" ∧ o.dict = none ∧ o.data = .seq its n ∧ its.size ≤ sizeLine ∧ Vals xs its.toList
def SqT (K : PySem.W.Frag) (H : Hp) (a : Addr) (xs : List V) : Prop :=
  Rd H a (.tup xs) ∨
    ∃ (o : Obj) (its : Array Value) (n : Nat), K.lookup a = some o ∧ o.cls = .type "tuple" ∧ o.data = .seq its n ∧ its.size ≤ sizeLine ∧ Vals xs its.toList
def absV : Value → Option V
  | .none => some .non
  | .bool b => some (.bl b)
  | .int i _ => some (.int i)
  | .str x _ => some (.str x)
  | .bytes b _ => some (.byt b)
  | .float b _ => some (.flt b)
  | .ref a => some (.ref a)
  | .type n => some (.ty n)
  | _ => none
theorem RelV.abs {x : V} {u : Value} (r : RelV x u) : absV u = some x := by
  cases x with
  | non => cases r; rfl
  | bl _ => cases r; rfl
  | int _ => obtain ⟨t, rfl⟩ := r; rfl
  | str _ => obtain ⟨t, rfl⟩ := r; rfl
  | byt _ => obtain ⟨t, rfl⟩ := r; rfl
  | flt _ => obtain ⟨t, rfl⟩ := r; rfl
  | ref _ => cases r; rfl
  | ty _ => cases r; rfl
theorem RelV.inj {x y : V} {u : Value} (r : RelV x u) (q : RelV y u) : x = y := Option.some.inj (r.abs.symm.trans q.abs)
theorem Vals.inj : ∀ {xs ys : List V} {us : List Value}, Vals xs us → Vals ys us → xs = ys
  | _, _, _, .nil, .nil => rfl
  | _, _, _, .cons r t, .cons r' t' => by rw [r.inj r', Vals.inj t t']
section
variable {X : Cx} {pins : List (Addr × Obj)} {σ : St} {H : Hp} {s : Shared} {a : Addr} {xs ys : List V}
theorem SqL.of {K : PySem.W.Frag} (h : H a = some (.lst xs)) : SqL K H a xs := .inl (.inl h)
theorem SqT.of {K : PySem.W.Frag} (h : H a = some (.tup xs)) : SqT K H a xs := .inl (.inl h)
theorem Inv.list (I : Inv X pins σ H s) (h : SqL X.K H a xs) : ∃ its : List Value, Vals xs its ∧ PlainL s.heap a its.toArray ∧ xs.length ≤ sizeLine := by
  rcases h with h | ⟨o, its, n, hk, hc, hd, hs, hz, r⟩
  · obtain ⟨z, its, n, r, e⟩ := h.ok I.hok
    exact ⟨its, r, ⟨_, n, e, rfl, rfl, rfl⟩, z⟩
  · refine ⟨its.toList, r, ⟨o, n, I.kIn a o hk, hc, hd, by simpa using hs⟩, ?_⟩
    have e := r.length
    simp only [Array.length_toList] at e
    omega
theorem Inv.tuple (I : Inv X pins σ H s) (h : SqT X.K H a xs) : ∃ its : List Value, Vals xs its ∧ IsTup s.heap a its.toArray ∧ xs.length ≤ sizeLine := by
  rcases h with h | ⟨o, its, n, hk, hc, hs, hz, r⟩
  · obtain ⟨z, its, r, p⟩ := h.ok I.hok
    exact ⟨its, r, p, z⟩
  · refine ⟨its.toList, r, ⟨o, I.kIn a o hk, hc, n, by simpa using hs⟩, ?_⟩
    have e := r.length
    simp only [Array.length_toList] at e
    omega
theorem Inv.list_inj (I : Inv X pins σ H s) (h : SqL X.K H a xs) (h' : SqL X.K H a ys) : xs = ys := by
  obtain ⟨its, r, ⟨o, n, e, _, _, d⟩, _⟩ := I.list h
  obtain ⟨its', r', ⟨o', n', e', _, _, d'⟩, _⟩ := I.list h'
  rw [e] at e'; cases e'
  rw [d] at d'
  injection d' with d1 _
  have : its = its' := by simpa using congrArg Array.toList d1
  subst this
  exact r.inj r'
theorem Inv.tuple_inj (I : Inv X pins σ H s) (h : SqT X.K H a xs) (h' : SqT X.K H a ys) : xs = ys := by
  obtain ⟨its, r, ⟨o, e, _, n, d⟩, _⟩ := I.tuple h
  obtain ⟨its', r', ⟨o', e', _, n', d'⟩, _⟩ := I.tuple h'
  rw [e] at e'; cases e'
  rw [d] at d'
  injection d' with d1 _
  have : its = its' := by simpa using congrArg Array.toList d1
  subst this
  exact r.inj r'
end
abbrev Cx.wish (X : Cx) (E : Value → Shared → Prop) : Cx := { X with xe := E }
abbrev Cx.nox (X : Cx) : Cx := X.wish fun _ _ => False
theorem Cx.Ok.wish {X : Cx} (ok : X.Ok) (E : Value → Shared → Prop) : (X.wish E).Ok :=
  ⟨ok.mod, ok.kind, ok.glob, ok.blt, ok.above, ok.inj, ok.has, ok.cab, ok.hd, ok.frames, ok.stk, ok.exf, ok.bs, ok.bsz, ok.noex, ok.exfs, ok.funs, ok.frf⟩
theorem Cx.Ok.unwish {X : Cx} {E : Value → Shared → Prop} (ok : (X.wish E).Ok) : X.Ok :=
  ⟨ok.mod, ok.kind, ok.glob, ok.blt, ok.above, ok.inj, ok.has, ok.cab, ok.hd, ok.frames, ok.stk, ok.exf, ok.bs, ok.bsz, ok.noex, ok.exfs, ok.funs, ok.frf⟩
section
variable {X : Cx} {pins : List (Addr × Obj)} {σ : St} {H : Hp} {s : Shared} {E : Value → Shared → Prop}
theorem Inv.wish (I : Inv X pins σ H s) (E : Value → Shared → Prop) : Inv (X.wish E) pins σ H s := ⟨I.ok.wish E, I.os, I.bare, I.base, I.loc, I.cell, I.free, I.freeC, I.pin, I.hok, I.len⟩
theorem Inv.unwish (I : Inv (X.wish E) pins σ H s) : Inv X pins σ H s := ⟨I.ok.unwish, I.os, I.bare, I.base, I.loc, I.cell, I.free, I.freeC, I.pin, I.hok, I.len⟩
theorem SP.unwish {D : Ends} {f : Flow} {s' : Shared} (h : SP (X.wish E) pins D f s') : SP X pins D f s' := by
  cases f with
  | next => obtain ⟨σ', H', I, q⟩ := h; exact ⟨σ', H', I.unwish, q⟩
  | brk => obtain ⟨σ', H', I, q⟩ := h; exact ⟨σ', H', I.unwish, q⟩
  | cont => obtain ⟨σ', H', I, q⟩ := h; exact ⟨σ', H', I.unwish, q⟩
  | ret u => obtain ⟨v, σ', H', I, r, q⟩ := h; exact ⟨v, σ', H', I.unwish, r, q⟩
theorem PSs.nox {st : List Stmt} {t : TS} (h : PSs X.nox st t) : PSs X st t := fun pins s σ H D I hw =>
  wpAny_mono (h pins s σ H D (I.wish _) hw) (fun _ _ q => q.unwish) fun _ _ z => False.elim z
end
section
variable {X : Cx} {st : Stmt} {rest : List Stmt} {t u : TS} {e : Expr} {te : TE} {pos : Pos}
def tNext : TS := fun D σ H => D.nx σ H
def tSeq (t u : TS) : TS := fun D σ H => t { D with nx := u D } σ H
theorem pss_nil : PSs X [] tNext := fun _ _ σ H _ I h => wpAny_execs_nil ⟨σ, H, I, h⟩
theorem pss_cons (h1 : PS X st t) (h2 : PSs X rest u) : PSs X (st :: rest) (tSeq t u) := by
  intro pins s σ H D I h
  refine wpAny_execs_cons (thn (h1 pins s σ H { D with nx := u D } I h) fun f s1 q => ?_)
  cases f with
  | next =>
    obtain ⟨σ', H', I', q⟩ := q
    exact h2 pins s1 σ' H' D I' q
  | ret v => exact q
  | brk => exact q
  | cont => exact q
def tBreak : TS := fun D σ H => D.bk σ H
def tCont : TS := fun D σ H => D.ct σ H
theorem ps_pass : PS X (.Pass pos) tNext := fun _ _ σ H _ I h => wpAny_Pass ⟨σ, H, I, h⟩
theorem ps_break : PS X (.Break pos) tBreak := fun _ _ σ H _ I h => wpAny_Break ⟨σ, H, I, h⟩
theorem ps_continue : PS X (.Continue pos) tCont := fun _ _ σ H _ I h => wpAny_Continue ⟨σ, H, I, h⟩
theorem Inv.quiet {pins : List (Addr × Obj)} {σ : St} {H : Hp} {s : Shared} (I : Inv X pins σ H s) : interactive X.env = false := by simp [interactive, I.ok.kind]
def tDrop (te : TE) : TS := fun D σ H => te σ H fun _ H1 => D.nx σ H1
theorem ps_expr (he : PE X e te) (hs : swapsWith e none pos.line X.env = pure false := by rfl) : PS X (.Expr e pos) (tDrop te) := by
  intro pins s σ H D I h
  exact wpAny_Expr_any (thn (he pins s σ H _ I h) fun v s1 ⟨x, H1, I1, r1, q1⟩ => ⟨σ, H1, I1, q1⟩) I.quiet hs
def tRet (te : TE) : TS := fun D σ H => te σ H D.rt
theorem ps_ret (he : PE X e te) : PS X (.Return (some e) pos) (tRet te) := by
  intro pins s σ H D I h
  exact wpAny_Return_some (thn (he pins s σ H _ I h) fun v s1 ⟨x, H1, I1, r1, q1⟩ => ⟨x, σ, H1, I1, r1, q1⟩)
def tRetN : TS := fun D _ H => D.rt .non H
theorem ps_retN : PS X (.Return none pos) tRetN := fun _ _ σ H _ I h => wpAny_Return_none ⟨.non, σ, H, I, rfl, h⟩
def tIfS (c : TT) (t u : TS) : TS := fun D σ H => c σ H fun b H1 => if b = true then t D σ H1 else u D σ H1
theorem ps_if {c : Expr} {a b : List Stmt} {tc : TT} (hc : PT X c tc) (ha : PSs X a t) (hb : PSs X b u) : PS X (.If c a b pos) (tIfS tc t u) := by
  intro pins s σ H D I h
  refine wpAny_If (thn (hc pins s σ H _ I h) fun d s1 ⟨H1, I1, q1⟩ => ?_)
  cases d with
  | true => exact ha pins s1 σ H1 D I1 q1
  | false => exact hb pins s1 σ H1 D I1 q1
def tNever : TS := fun _ _ _ => False
theorem ps_never : PS X st tNever := fun _ _ _ _ _ _ h => h.elim
end
abbrev TG := V → St → Hp → (St → Hp → Prop) → Prop
abbrev TGs := List V → St → Hp → (St → Hp → Prop) → Prop
def PG (X : Cx) (target : Expr) (t : TG) : Prop :=
  ∀ (pins : List (Addr × Obj)) (s : Shared) (σ : St) (H : Hp) (v : V) (u : Value) (Q : St → Hp → Prop), Inv X pins σ H s → RelV v u → t v σ H Q →
    wpAny (model X.prog X.w) X.A (assign target X.env u) (fun _ s' => ∃ σ' H', Inv X pins σ' H' s' ∧ Q σ' H') X.xe s
def PGs (X : Cx) (ts : List Expr) (t : TGs) : Prop :=
  ∀ (pins : List (Addr × Obj)) (s : Shared) (σ : St) (H : Hp) (vs : List V) (us : List Value) (Q : St → Hp → Prop), Inv X pins σ H s → Vals vs us → t vs σ H Q →
    wpAny (model X.prog X.w) X.A (assignInOrder ((assignEach ts X.env).map (·.2)) us) (fun _ s' => ∃ σ' H', Inv X pins σ' H' s' ∧ Q σ' H') X.xe s
abbrev TSet := V → V → V → Hp → (Hp → Prop) → Prop
def PSet (X : Cx) (t : TSet) : Prop :=
  ∀ (pins : List (Addr × Obj)) (s : Shared) (σ : St) (H : Hp) (o i v : V) (ov iv u : Value) (Q : Hp → Prop), Inv X pins σ H s → RelV o ov → RelV i iv → RelV v u → t o i v H Q →
    wpAny (model X.prog X.w) X.A (setItem ov iv u) (fun _ s' => ∃ H', Inv X pins σ H' s' ∧ Q H') X.xe s
section
variable {X : Cx} {pos : Pos}
def gName (i : Nat) : TG := fun v σ H Q => Q (σ.set i (some v)) H
theorem pg_name {i : Nat} {x : Str} (hN : X.N.Nodup) (hi : X.N[i]? = some x) (hx : Loc X.env.scope x) (hf : X.fn x = true ∨ X.env.scope.names.lookup x = some .local := by first | exact .inl rfl | exact .inr rfl | assumption) : PG X (.Name x pos) (gName i) := by
  intro pins s σ H v u Q I r h
  exact wpAny_assign_Name (store_ok I hN hi hx r (fun s' I' => ⟨_, H, I', h⟩) hf)
def gNil : TGs := fun vs σ H Q => vs = [] ∧ Q σ H
def gCons (t : TG) (u : TGs) : TGs := fun vs σ H Q => ∃ v r, vs = v :: r ∧ t v σ H fun σ' H' => u r σ' H' Q
theorem pgs_nil : PGs X [] gNil := by
  intro pins s σ H vs us Q I r h
  obtain ⟨e, h⟩ := h
  subst e
  cases r
  exact assignInOrder_nil ⟨σ, H, I, h⟩
theorem pgs_cons {e : Expr} {es : List Expr} {t : TG} {u : TGs} (h1 : PG X e t) (h2 : PGs X es u)
    (hs : (assignEach (e :: es) X.env).map (·.2) = assign e X.env :: (assignEach es X.env).map (·.2) := by rfl) : PGs X (e :: es) (gCons t u) := by
  intro pins s σ H vs us Q I r h
  obtain ⟨v, vr, e1, h⟩ := h
  subst e1
  cases r with
  | cons r rr =>
    rw [hs]
    refine assignInOrder_cons (thn (h1 pins s σ H _ _ _ I r h) fun _ s1 ⟨σ1, H1, I1, q1⟩ => ?_)
    exact h2 pins s1 σ1 H1 _ _ Q I1 rr q1
def gTup (K : PySem.W.Frag) (n : Nat) (t : TGs) : TG := fun v σ H Q => ∃ a xs, v = .ref a ∧ SqT K H a xs ∧ xs.length = n ∧ t xs σ H Q
theorem pg_tup {es : List Expr} {k : Nat} {t : TGs} {n : Nat} (hc : X.calm = true) (h : PGs X es t)
    (hn : (assignEach es X.env).length = n := by rfl) (hst : (assignEach es X.env).findIdx? (·.1) = none := by rfl) : PG X (.Tuple es k pos) (gTup X.K n t) := by
  intro pins s σ H v u Q I r hw
  obtain ⟨a, xs, e1, hq, hl, hw⟩ := hw
  subst e1
  cases r
  obtain ⟨its, rv, ht, hz⟩ := I.tuple hq
  refine assign_Tuple_tuple (I.ok.hd hc) ht (by simp [hn, ← hl, rv.length]) hst fun h' hx => ?_
  have I1 : Inv X pins σ H { s with heap := h' } := I.kept (t' := s.toks) fun b o e => hx b o (Nat.ne_of_lt (Heap.lt_size e)) e
  exact h pins _ σ H xs _ Q I1 (by simpa using rv) hw
def gSub (to ti : TE) (t : TSet) : TG := fun v σ H Q => to σ H fun o H1 => ti σ H1 fun i H2 => t o i v H2 fun H3 => Q σ H3
theorem pg_sub {o i : Expr} {to ti : TE} {t : TSet} (ho : PE X o to) (hi : PE X i ti) (hs : PSet X t)
    (ha : ∀ v, assign (.Subscript o i pos) X.env v = (do
      let ov ← holding [v] (eval o X.env)
      let iv ← holding [v, ov] (eval i X.env)
      standAt pos
      holding [v, ov, iv] (setItem ov iv v)
      release [v, ov, iv] []) := by intro _; rfl) : PG X (.Subscript o i pos) (gSub to ti t) := by
  intro pins s σ H v u Q I r h
  rw [ha]
  refine wpAny_bind (wpAny_holding (thn (ho pins s σ H _ I h) fun ov s1 ⟨x, H1, I1, r1, q1⟩ => ?_))
  refine wpAny_bind (wpAny_holding (thn (hi pins s1 σ H1 _ I1 q1) fun iv s2 ⟨y, H2, I2, r2, q2⟩ => ?_))
  refine wpAny_bind (wpAny_standAt (wpAny_bind (wpAny_holding (thn (hs pins s2 σ H2 x y v ov iv u _ I2 r1 r2 r q2) fun _ s3 ⟨H3, I3, q3⟩ => ?_))))
  exact wpAny_release ⟨σ, H3, I3, q3⟩
def tAsg (te : TE) (g : TG) : TS := fun D σ H => te σ H fun x H1 => g x σ H1 D.nx
theorem ps_asg {tg e : Expr} {te : TE} {g : TG} (he : PE X e te) (hg : PG X tg g) (hs : swapsWithSole [tg] e pos.line X.env = pure false := by rfl) (hw : swappedStores [tg] e X.env = pure none := by rfl)
    (h1 : (assignEach [tg] X.env).map (·.2) = [assign tg X.env] := by rfl) : PS X (.Assign [tg] e pos) (tAsg te g) := by
  intro pins s σ H D I h
  refine wpAny_Assign_stores (thn (he pins s σ H _ I h) fun v s1 ⟨x, H1, I1, r1, q1⟩ => ?_) hs hw
  rw [h1]
  exact thn (hg pins s1 σ H1 x v _ I1 r1 q1) fun _ s2 q => q
end
section
variable {X : Cx} {pos : Pos}
def tWhile (c : TT) (tb : TS) : TS := fun D σ H => ∃ W : Nat → St → Hp → Prop, (∃ m, W m σ H) ∧ ∀ m σ H, W m σ H →
  c σ H fun b H1 => if b = true then ∃ N : St → Hp → Prop, (∀ σ' H', N σ' H' → ∃ m', m' < m ∧ W m' σ' H') ∧ tb { D with nx := N, ct := N, bk := D.nx } σ H1 else D.nx σ H1
theorem ps_while {c : Expr} {body : List Stmt} {tc : TT} {tb : TS} (hp : PassesOwn (model X.prog X.w) X.A X.env X.xe) (hc : PT X c tc) (hb : PSs X body tb) : PS X (.While c body [] pos) (tWhile tc tb) := by
  intro pins s σ H D I h
  obtain ⟨W, ⟨m0, w0⟩, turn⟩ := h
  refine wpAny_While (codeAny_whileLoop (fun n s' => ∃ σ' H', Inv X pins σ' H' s' ∧ W n σ' H') ?_ m0 ⟨σ, H, I, w0⟩)
  rintro n s1 ⟨σ1, H1, I1, w1⟩
  refine wpAny_passesOwn hp (thn (hc pins s1 σ1 H1 _ I1 (turn n σ1 H1 w1)) fun b s2 ⟨H2, I2, q2⟩ => ?_)
  cases b with
  | true =>
    obtain ⟨N, hN, q2⟩ := q2
    rw [if_pos rfl]
    refine wpAny_passesOwn hp (thn (hb pins s2 σ1 H2 _ I2 q2) fun f s3 q3 => ?_)
    cases f with
    | next =>
      obtain ⟨σ3, H3, I3, n3⟩ := q3
      obtain ⟨m', hm, w3⟩ := hN σ3 H3 n3
      exact ⟨m', hm, σ3, H3, I3, w3⟩
    | cont =>
      obtain ⟨σ3, H3, I3, n3⟩ := q3
      obtain ⟨m', hm, w3⟩ := hN σ3 H3 n3
      exact ⟨m', hm, σ3, H3, I3, w3⟩
    | brk => exact q3
    | ret v => exact q3
  | false =>
    rw [if_neg Bool.false_ne_true]
    exact wpAny_execs_nil ⟨σ1, H2, I2, q2⟩
end
structure It where
  go : Nat → Hp → Prop
  yld : Nat → Hp → V → Hp → Prop
  stop : Nat → Hp → Prop
def FpOk (X : Cx) (pins : List (Addr × Obj)) (H : Hp) (b : Addr) : Prop :=
  H b = none ∧ b ≠ X.env.locals ∧ b ∉ X.fs ∧ (b ∈ X.ex ∨ X.s₀.heap.objs.size ≤ b) ∧ (∀ x c, X.env.cells.lookup x = some c → c ≠ b) ∧ ∀ p ∈ X.pn ++ pins, p.1 ≠ b
theorem Inv.fpOk {X : Cx} {pins : List (Addr × Obj)} {σ : St} {H H' : Hp} {s : Shared} {b : Addr} (I : Inv X pins σ H s) (hb : s.heap.objs.size ≤ b) (hn : H' b = none) : FpOk X pins H' b := by
  refine ⟨hn, Nat.ne_of_gt (Nat.lt_of_lt_of_le I.lt hb), I.nofs hb, .inr (Nat.le_trans I.sz hb), fun x c e z => ?_, fun p hp z => ?_⟩
  · obtain ⟨v, q⟩ := I.cell x c e
    exact absurd (Nat.lt_of_lt_of_le q.lt (by rw [z]; exact hb)) (Nat.lt_irrefl _)
  · exact absurd (Nat.lt_of_lt_of_le (Heap.lt_size (I.pin p hp).1) (by rw [z]; exact hb)) (Nat.lt_irrefl _)
structure Turn (P : Program) (w : World) (K : PySem.W.Frag) (tg : Expr) (J : It) (fp : List Addr) (it : Addr) (tn : Nat → Heap → Prop) : Prop where
  mem : it ∈ fp
  obj : ∀ i h, tn i h → ∀ b ∈ fp, ∃ o, h.get? b = some o ∧ ∀ v, o.data ≠ .cell v
  keep : ∀ i h h', tn i h → (∀ b ∈ fp, ∀ o, h.get? b = some o → h'.get? b = some o) → tn i h'
  item : ∀ (X : Cx), X.prog = P → X.w = w → X.K = K → X.calm = true → ∀ (i : Nat) (pins : List (Addr × Obj)) (s : Shared) (σ : St) (H : Hp) (E : Value → Shared → Prop), Inv X pins σ H s → (∀ b ∈ fp, FpOk X pins H b) → tn i s.heap → J.go i H →
    wpAny (model P w) X.A (pyNext (.ref it)) (fun r s1 => ∃ u, r = some u ∧
      wpAny (model P w) X.A (letOwnedTupleGo tg (.ref it) u) (fun _ s2 => ∃ x H', Inv X pins σ H' s2 ∧ RelV x u ∧ J.yld i H x H' ∧ tn (i + 1) s2.heap ∧ ∀ b ∈ fp, H' b = none) E s1) E s
  done : ∀ (X : Cx), X.prog = P → X.w = w → X.K = K → X.calm = true → ∀ (i : Nat) (pins : List (Addr × Obj)) (s : Shared) (σ : St) (H : Hp) (E : Value → Shared → Prop), Inv X pins σ H s → (∀ b ∈ fp, FpOk X pins H b) → tn i s.heap → J.stop i H →
    wpAny (model P w) X.A (pyNext (.ref it)) (fun r s1 => r = none ∧ Inv X pins σ H s1) E s
  self : ∀ (A : Around) (i : Nat) (s : Shared) (Q : Value → Shared → Prop) (E : Value → Shared → Prop), tn i s.heap → Q (.ref it) s → wpAny (model P w) A (pyIter (.ref it)) Q E s
abbrev TI := St → Hp → (It → Hp → Prop) → Prop
def PIE (X : Cx) (pins : List (Addr × Obj)) (σ : St) (tg : Expr) (R : It → Hp → Prop) (itv : Value) (s2 : Shared) : Prop :=
  ∃ (it : Addr) (fp : List Addr) (tn : Nat → Heap → Prop) (J : It) (H' : Hp), itv = .ref it ∧ Inv X pins σ H' s2 ∧ Turn X.prog X.w X.K tg J fp it tn ∧ tn 0 s2.heap ∧ (∀ b ∈ fp, FpOk X pins H' b) ∧ R J H'
def PI (X : Cx) (tg iter : Expr) (wi : TI) : Prop :=
  ∀ (pins : List (Addr × Obj)) (s : Shared) (σ : St) (H : Hp) (R : It → Hp → Prop), Inv X pins σ H s → wi σ H R →
    wpAny (model X.prog X.w) X.A (eval iter X.env) (fun v s1 => wpAny (model X.prog X.w) X.A (pyIter v) (PIE X pins σ tg R) X.xe s1) X.xe s
theorem go_of {M : Model} {A : Around} {E : Value → Shared → Prop} {s : Shared} {tg : Expr} {it : Addr} {u : Value} {o : Obj} {n : String} {vs : Array Value} {Q : Unit → Shared → Prop} (ho : s.heap.get? it = some o) (hc : o.cls = .type n) (hd : o.data = .fields vs)
    (hn : ["enumerate", "zip", "dict_itemiterator", "dict_reverseitemiterator", "odict_iterator", "itertools.zip_longest", "itertools.pairwise"].contains n = false) (hQ : Q () s) : wpAny M A (letOwnedTupleGo tg (.ref it) u) Q E s := by
  unfold letOwnedTupleGo
  cases tg <;> first
    | exact wpAny_pure hQ
    | (cases u <;> first
        | exact wpAny_pure hQ
        | (refine wpAny_bind (wpAny_load ho ?_)
           rw [hc, hd]
           show wpAny M A (if (["enumerate", "zip", "dict_itemiterator", "dict_reverseitemiterator", "odict_iterator", "itertools.zip_longest", "itertools.pairwise"].contains n && vs[0]? == some (rawInt _)) = true then _ else _) Q E s
           rw [if_neg (by intro h; rw [hn, Bool.false_and] at h; cases h)]
           exact wpAny_pure hQ))
def Itl (K : PySem.W.Frag) (a : Addr) : It :=
  ⟨fun i H => ∃ xs x, SqL K H a xs ∧ xs[i]? = some x, fun i H x H' => H' = H ∧ ∀ xs, SqL K H a xs → xs[i]? = some x, fun i H => ∃ xs, SqL K H a xs ∧ xs.length ≤ i⟩
def Itt (K : PySem.W.Frag) (a : Addr) : It :=
  ⟨fun i H => ∃ xs x, SqT K H a xs ∧ xs[i]? = some x, fun i H x H' => H' = H ∧ ∀ xs, SqT K H a xs → xs[i]? = some x, fun i H => ∃ xs, SqT K H a xs ∧ xs.length ≤ i⟩
def Itr (lo : Int) (n : Nat) : It := ⟨fun i _ => i < n, fun i H x H' => H' = H ∧ x = .int (lo + i), fun i _ => n ≤ i⟩
theorem turn_list {P : Program} {w : World} {K : PySem.W.Frag} {tg : Expr} (a it : Addr) : Turn P w K tg (Itl K a) [it] it (fun i h => h.IsListIter it a i) where
  mem := by simp
  obj := fun i h st b hb => by
    have e : b = it := by simpa using hb
    subst e
    obtain ⟨o, e, c, d⟩ := st
    exact ⟨o, e, fun v z => by rw [d] at z; cases z⟩
  keep := fun i h h' st k => st.at fun o e => k it (by simp) o e
  item := by
    intro X hP hw hK hc i pins s σ H E I hf st hg
    subst hP hw hK
    obtain ⟨xs, x, hq, hx⟩ := hg
    obtain ⟨its, rv, p, hz⟩ := I.list hq
    obtain ⟨u, hu, ru⟩ := rv.get hx
    obtain ⟨f0, f1, f2, f3, f4, f5⟩ := hf it (by simp)
    refine wpAny_pyNext_list_item st p.isList (x := u) (by simpa using hu) fun h' st' sb => ?_
    have I1 : Inv X pins σ H { s with heap := h' } := I.turned (t' := s.toks) (fun b o hb e => (sb.2 b hb).trans e) f0 f1 f3 f4 f5
    obtain ⟨o, e, c, d⟩ := id st'
    exact ⟨u, rfl, go_of (s := { s with heap := h' }) e c d (by decide) ⟨x, H, I1, ru, ⟨rfl, fun ys hy => by rw [I.list_inj hy hq]; exact hx⟩, st', fun b hb => (hf b hb).1⟩⟩
  done := by
    intro X hP hw hK hc i pins s σ H E I hf st hg
    subst hP hw hK
    obtain ⟨xs, hq, hx⟩ := hg
    obtain ⟨its, rv, p, hz⟩ := I.list hq
    obtain ⟨f0, f1, f2, f3, f4, f5⟩ := hf it (by simp)
    have hl := rv.length
    exact wpAny_pyNext_list_end (I.ok.hd hc) st p.isList (by simp; omega) fun h' eb => ⟨rfl, I.turned (t' := s.toks) (fun b o hb e => eb b o hb e) f0 f1 f3 f4 f5⟩
  self := fun _ _ _ _ _ st h => wpAny_pyIter_listiter st h
theorem turn_tuple {P : Program} {w : World} {K : PySem.W.Frag} {tg : Expr} (a it : Addr) : Turn P w K tg (Itt K a) [it] it (fun i h => h.IsTupleIter it a i) where
  mem := by simp
  obj := fun i h st b hb => by
    have e : b = it := by simpa using hb
    subst e
    obtain ⟨o, e, c, d⟩ := st
    exact ⟨o, e, fun v z => by rw [d] at z; cases z⟩
  keep := fun i h h' st k => st.at fun o e => k it (by simp) o e
  item := by
    intro X hP hw hK hc i pins s σ H E I hf st hg
    subst hP hw hK
    obtain ⟨xs, x, hq, hx⟩ := hg
    obtain ⟨its, rv, p, hz⟩ := I.tuple hq
    obtain ⟨u, hu, ru⟩ := rv.get hx
    obtain ⟨f0, f1, f2, f3, f4, f5⟩ := hf it (by simp)
    refine wpAny_pyNext_tuple_item st (show s.heap.IsTuple a its.toArray from p) (x := u) (by simpa using hu) fun h' st' sb => ?_
    have I1 : Inv X pins σ H { s with heap := h' } := I.turned (t' := s.toks) (fun b o hb e => (sb.2 b hb).trans e) f0 f1 f3 f4 f5
    obtain ⟨o, e, c, d⟩ := id st'
    exact ⟨u, rfl, go_of (s := { s with heap := h' }) e c d (by decide) ⟨x, H, I1, ru, ⟨rfl, fun ys hy => by rw [I.tuple_inj hy hq]; exact hx⟩, st', fun b hb => (hf b hb).1⟩⟩
  done := by
    intro X hP hw hK hc i pins s σ H E I hf st hg
    subst hP hw hK
    obtain ⟨xs, hq, hx⟩ := hg
    obtain ⟨its, rv, p, hz⟩ := I.tuple hq
    obtain ⟨f0, f1, f2, f3, f4, f5⟩ := hf it (by simp)
    have hl := rv.length
    exact wpAny_pyNext_tuple_end (I.ok.hd hc) st (show s.heap.IsTuple a its.toArray from p) (by simp; omega) fun h' eb => ⟨rfl, I.turned (t' := s.toks) (fun b o hb e => eb b o hb e) f0 f1 f3 f4 f5⟩
  self := fun _ _ _ _ _ st h => wpAny_pyIter_tupleiter st h
theorem turn_range {P : Program} {w : World} {K : PySem.W.Frag} {tg : Expr} (it : Addr) (lo : Int) (n : Nat) : Turn P w K tg (Itr lo n) [it] it (fun i h => IsRangeIter h it (lo + (i : Nat) * 1) ((n : Int) - (i : Nat)) 1) where
  mem := by simp
  obj := fun i h st b hb => by
    have e : b = it := by simpa using hb
    subst e
    exact ⟨_, st, fun v z => by
      have z' : Data.fields _ = Data.cell v := z
      cases z'⟩
  keep := fun i h h' st k => k it (by simp) _ st
  item := by
    intro X hP hw hK hc i pins s σ H E I hf st hg
    subst hP hw hK
    obtain ⟨f0, f1, f2, f3, f4, f5⟩ := hf it (by simp)
    have W := Walks.range (prog := X.prog) (w := X.w) (I.ok.hd hc) it lo 1 n
    refine W.item i s _ _ hg st fun v h' tk hv st' kk => ?_
    obtain ⟨t, rfl⟩ := hv
    have I1 : Inv X pins σ H { s with heap := h', toks := tk } := I.turned (fun b o hb e => kk b o (by simpa using hb) e) f0 f1 f3 f4 f5
    refine ⟨_, rfl, go_of (s := { s with heap := h', toks := tk }) (n := "range_iterator") st' rfl rfl (by decide) ⟨.int (lo + i), H, I1, ⟨t, ?_⟩, ⟨rfl, rfl⟩, st', fun b hb => (hf b hb).1⟩⟩
    rw [Int.mul_one]
  done := by
    intro X hP hw hK hc i pins s σ H E I hf st hg
    subst hP hw hK
    obtain ⟨f0, f1, f2, f3, f4, f5⟩ := hf it (by simp)
    exact wpAny_pyNext_range_end (I.ok.hd hc) st (by have : n ≤ i := hg; omega) fun h' eb => ⟨rfl, I.turned (t' := s.toks) (fun b o hb e => eb b o hb e) f0 f1 f3 f4 f5⟩
  self := fun _ _ _ _ _ st h => wpAny_pyIter_rangeiter st h
end L2
namespace L2
open PySem PySem.Spec PyProof.Rows
section
variable {X : Cx} {tg : Expr}
theorem range_it {pins : List (Addr × Obj)} {σ : St} {H : Hp} {s : Shared} {R : It → Hp → Prop} {E : Value → Shared → Prop} {lo hi : Int} {t u v : Tok} {tk : Nat} (I : Inv X pins σ H s) (h1 : -(2 ^ 62) ≤ lo) (h2 : lo < 2 ^ 62) (h3 : -(2 ^ 62) ≤ hi) (h4 : hi < 2 ^ 62)
    (q : R (Itr lo (hi - lo).toNat) H) : wpAny (model X.prog X.w) X.A (pyIter (.ref s.heap.objs.size)) (PIE X pins σ tg R) E { s with heap := s.heap.push { cls := .type "range", data := .fields #[.int lo t, .int hi u, .int 1 v] }, toks := tk } := by
  refine wpAny_pyIter_range (IsRange.new ..) (small_one h1 h2 h3 h4) ?_
  have I1 : Inv X pins σ H { s with heap := s.heap.push { cls := .type "range", data := .fields #[.int lo t, .int hi u, .int 1 v] }, toks := tk } := I.kept fun b o e => Heap.get?_push_of_some _ e
  refine ⟨(s.heap.push { cls := .type "range", data := .fields #[.int lo t, .int hi u, .int 1 v] }).objs.size, [(s.heap.push { cls := .type "range", data := .fields #[.int lo t, .int hi u, .int 1 v] }).objs.size], _, _, H, rfl,
    I1.kept (t' := tk) fun b o e => Heap.get?_push_of_some _ e, turn_range _ lo (hi - lo).toNat, ?_, fun b hb => ?_, q⟩
  · have e1 : lo + ((0 : Nat) : Int) * 1 = lo := by simp
    have e2 : (((hi - lo).toNat : Nat) : Int) - ((0 : Nat) : Int) = Builtin.Range.rangeSize lo hi 1 := by rw [rangeSize_one]; split <;> omega
    show IsRangeIter _ _ (lo + ((0 : Nat) : Int) * 1) ((((hi - lo).toNat : Nat) : Int) - ((0 : Nat) : Int)) 1
    rw [e1, e2]
    exact Heap.get?_push_size _ rfl
  · have e : b = (s.heap.push { cls := .type "range", data := .fields #[.int lo t, .int hi u, .int 1 v] }).objs.size := by simpa using hb
    subst e
    exact I1.fpOk (Nat.le_refl _) (I1.hok.fresh (Nat.le_refl _))
def iRng1 (ta : TA) : TI := fun σ H R => ta σ H fun vs H1 => ∃ j : Int, vs = [.int j] ∧ -(2 ^ 62) ≤ j ∧ j < 2 ^ 62 ∧ R (Itr 0 j.toNat) H1
def iRng2 (ta : TA) : TI := fun σ H R => ta σ H fun vs H1 => ∃ i j : Int, vs = [.int i, .int j] ∧ (-(2 ^ 62) ≤ i ∧ i < 2 ^ 62 ∧ -(2 ^ 62) ≤ j ∧ j < 2 ^ 62) ∧ R (Itr i (j - i).toNat) H1
theorem pi_range1 {a : Expr} {ta : TA} {p pos : Pos} (hg : Gl X "range") (hm : X.mg "range" = none) (ha : PA X [a] ta) (hs : starEach [a] X.env = [(false, eval a X.env)] := by rfl) : PI X tg (.Call (.Name "range" p) [a] [] pos) (iRng1 ta) := by
  intro pins s σ H R I h
  refine Call_ (ld_blt I hg hm boot_range (PyProof.Rows.callWith_type1 (thn (ha pos pins s σ H _ I h) fun us s1 ⟨vs, H1, I1, r1, q1⟩ => ?_) hs rfl))
  obtain ⟨j, e, q1, q2, q⟩ := q1
  subst e
  cases r1 with
  | cons r rr =>
    cases rr
    obtain ⟨t, rfl⟩ := r
    exact call_range_1 (range_it I1 (by omega) (by omega) q1 q2 (by simpa using q))
theorem pi_range2 {a b : Expr} {ta : TA} {p pos : Pos} (hg : Gl X "range") (hm : X.mg "range" = none) (ha : PA X [a, b] ta) (hs : starEach [a, b] X.env = [(false, eval a X.env), (false, eval b X.env)] := by rfl) (hs2 : starEach [b] X.env = [(false, eval b X.env)] := by rfl) :
    PI X tg (.Call (.Name "range" p) [a, b] [] pos) (iRng2 ta) := by
  intro pins s σ H R I h
  refine Call_ (ld_blt I hg hm boot_range (PyProof.Rows.callWith_type1 (thn (ha pos pins s σ H _ I h) fun us s1 ⟨vs, H1, I1, r1, q1⟩ => ?_) (by rw [hs, hs2]) (by rw [hs2]; rfl)))
  obtain ⟨i, j, e, ⟨q1, q2, q3, q4⟩, q⟩ := q1
  subst e
  cases r1 with
  | cons r rr =>
    cases rr with
    | cons r' rr =>
      cases rr
      obtain ⟨t, rfl⟩ := r
      obtain ⟨t', rfl⟩ := r'
      exact call_range_2 (range_it I1 q1 q2 q3 q4 q)
def tFor (wi : TI) (g : TG) (tb : TS) : TS := fun D σ H => wi σ H fun J H1 => ∃ W : Nat → Nat → St → Hp → Prop, (∃ m, W 0 m σ H1) ∧ ∀ i m σ H, W i m σ H →
  (J.stop i H ∧ D.nx σ H) ∨ (J.go i H ∧ ∃ N : St → Hp → Prop, (∀ σ' H', N σ' H' → ∃ m', m' < m ∧ W (i + 1) m' σ' H') ∧ ∀ x H', J.yld i H x H' → g x σ H' fun σ2 H2 => tb { D with nx := N, ct := N, bk := D.nx } σ2 H2)
def pinsAt (fp : List Addr) (h : Heap) : List (Addr × Obj) := fp.filterMap fun b => (h.get? b).map fun o => (b, o)
theorem mem_pinsAt {fp : List Addr} {h : Heap} {b : Addr} {o : Obj} (hb : b ∈ fp) (e : h.get? b = some o) : (b, o) ∈ pinsAt fp h := List.mem_filterMap.mpr ⟨b, hb, by rw [e]; rfl⟩
theorem of_pinsAt {fp : List Addr} {h : Heap} {p : Addr × Obj} (hp : p ∈ pinsAt fp h) : p.1 ∈ fp ∧ h.get? p.1 = some p.2 := by
  obtain ⟨b, hb, e⟩ := List.mem_filterMap.mp hp
  cases q : h.get? b with
  | none => rw [q] at e; cases e
  | some o =>
    rw [q] at e
    have e' : (b, o) = p := Option.some.inj e
    subst e'
    exact ⟨hb, q⟩
theorem Inv.pinned {pins : List (Addr × Obj)} {σ : St} {H : Hp} {s : Shared} {fp : List Addr} (I : Inv X pins σ H s) (hf : ∀ b ∈ fp, FpOk X pins H b) (ho : ∀ b ∈ fp, ∃ o, s.heap.get? b = some o ∧ ∀ v, o.data ≠ .cell v) : Inv X (pins ++ pinsAt fp s.heap) σ H s :=
  I.pins_of fun p hp => (List.mem_append.mp hp).elim (fun z => I.pin p (List.mem_append_right _ z)) fun z => by
    obtain ⟨hb, e⟩ := of_pinsAt z
    obtain ⟨f0, f1, f2, _⟩ := hf p.1 hb
    obtain ⟨o, e', d⟩ := ho p.1 hb
    rw [e] at e'; cases e'
    exact ⟨e, f0, f1, f2, d⟩
theorem Inv.unpinned {pins pl : List (Addr × Obj)} {σ : St} {H : Hp} {s : Shared} (I : Inv X (pins ++ pl) σ H s) : Inv X pins σ H s := I.pins_of fun p hp => I.pin p (List.mem_append_right _ (List.mem_append_left _ hp))
theorem ps_for {iter : Expr} {body : List Stmt} {wi : TI} {g : TG} {tb : TS} {pos : Pos} (hp : PassesOwn (model X.prog X.w) X.A X.env X.xe) (hc : X.calm = true) (hi : PI X tg iter wi) (hg : PG X tg g) (hb : PSs X body tb)
    (hs : ∀ x, foldedSetIterable iter X.env x = pure x := by intro _; rfl) : PS X (.For tg iter body [] pos) (tFor wi g tb) := by
  intro pins s σ H D I h
  refine wpAny_For (thn (hi pins s σ H _ I h) fun v s1 h1 => thn h1 fun itv s2 h2 => ?_) hs
  obtain ⟨it, fp, tn, J, H2, e, I2, T, st2, f2, W, ⟨m0, w0⟩, turn⟩ := h2
  subst e
  have stat : ∀ {H' : Hp}, (∀ b ∈ fp, H' b = none) → ∀ b ∈ fp, FpOk X pins H' b := fun hn b hb => ⟨hn b hb, (f2 b hb).2⟩
  refine codeAny_forLoop_any (fun n s' => ∃ i σ' H', Inv X pins σ' H' s' ∧ tn i s'.heap ∧ (∀ b ∈ fp, H' b = none) ∧ W i n σ' H') ?_ m0 ⟨0, σ, H2, I2, st2, fun b hb => (f2 b hb).1, w0⟩
  rintro n s3 ⟨i, σ3, H3, I3, st3, fr3, w3⟩
  rcases turn i n σ3 H3 w3 with ⟨stop, qn⟩ | ⟨go, N, hN, step⟩
  · refine wpAny_passesOwn hp (thn (T.done X rfl rfl rfl hc i pins s3 σ3 H3 X.xe I3 (stat fr3) st3 stop) fun r s4 ⟨hr, I4⟩ => ?_)
    subst hr
    exact wpAny_execs_nil ⟨σ3, H3, I4, qn⟩
  · refine wpAny_passesOwn hp (thn (T.item X rfl rfl rfl hc i pins s3 σ3 H3 X.xe I3 (stat fr3) st3 go) fun r s4 ⟨u, hr, h4⟩ => ?_)
    subst hr
    refine wpAny_passesOwn hp (thn h4 fun _ s5 ⟨x, H5, I5, r5, y5, st5, fr5⟩ => ?_)
    have I5' := I5.pinned (stat fr5) (T.obj _ _ st5)
    refine wpAny_passesOwn hp (thn (hg _ s5 σ3 H5 x u _ I5' r5 (step x H5 y5)) fun _ s6 ⟨σ6, H6, I6, q6⟩ => ?_)
    refine wpAny_passesOwn hp (thn (hb _ s6 σ6 H6 _ I6 q6) fun f s7 q7 => ?_)
    have again : ∀ {σ7 : St} {H7 : Hp}, Inv X (pins ++ pinsAt fp s5.heap) σ7 H7 s7 → N σ7 H7 → ∃ m, m < n ∧ ∃ i σ' H', Inv X pins σ' H' s7 ∧ tn i s7.heap ∧ (∀ b ∈ fp, H' b = none) ∧ W i m σ' H' := fun {σ7 H7} I7 n7 => by
      obtain ⟨m', hm, w7⟩ := hN σ7 H7 n7
      refine ⟨m', hm, i + 1, σ7, H7, I7.unpinned, T.keep _ _ _ st5 fun b hb o e => (I7.pin (b, o) (List.mem_append_right _ (List.mem_append_right _ (mem_pinsAt hb e)))).1, fun b hb => ?_, w7⟩
      obtain ⟨o, e, d⟩ := T.obj _ _ st5 b hb
      exact (I7.pin (b, o) (List.mem_append_right _ (List.mem_append_right _ (mem_pinsAt hb e)))).2.1
    cases f with
    | next => obtain ⟨σ7, H7, I7, n7⟩ := q7; exact again I7 n7
    | cont => obtain ⟨σ7, H7, I7, n7⟩ := q7; exact again I7 n7
    | brk => obtain ⟨σ7, H7, I7, q7⟩ := q7; exact ⟨σ7, H7, I7.unpinned, q7⟩
    | ret v => obtain ⟨x7, σ7, H7, I7, r7, q7⟩ := q7; exact ⟨x7, σ7, H7, I7.unpinned, r7, q7⟩
end
end L2
namespace L2
open PySem PySem.Spec PyProof.Rows
abbrev R2 := V → V → Hp → VK → Prop
def OpR (X : Cx) (f : Value → Value → Sem Value) (r : R2) : Prop :=
  ∀ (pins : List (Addr × Obj)) (s : Shared) (σ : St) (H : Hp) (x y : V) (v u : Value) (Q : VK), Inv X pins σ H s → RelV x v → RelV y u → r x y H Q →
    wpAny (model X.prog X.w) X.A (f v u) (EP X pins σ Q) X.xe s
def UnR (X : Cx) (f : Value → Sem Value) (r : V → Hp → VK → Prop) : Prop :=
  ∀ (pins : List (Addr × Obj)) (s : Shared) (σ : St) (H : Hp) (x : V) (v : Value) (Q : VK), Inv X pins σ H s → RelV x v → r x H Q →
    wpAny (model X.prog X.w) X.A (f v) (EP X pins σ Q) X.xe s
def CallR (X : Cx) (f : Value) (r : List V → Hp → VK → Prop) : Prop :=
  ∀ (pins : List (Addr × Obj)) (s : Shared) (σ : St) (H : Hp) (xs : List V) (us : List Value) (Q : VK), Inv X pins σ H s → Vals xs us → r xs H Q →
    wpAny (model X.prog X.w) X.A (call f us) (EP X pins σ Q) X.xe s
def TruR (X : Cx) (r : V → Hp → (Bool → Hp → Prop) → Prop) : Prop :=
  ∀ (pins : List (Addr × Obj)) (s : Shared) (σ : St) (H : Hp) (x : V) (v : Value) (Q : Bool → Hp → Prop), Inv X pins σ H s → RelV x v → r x H Q →
    wpAny (model X.prog X.w) X.A (truthy v) (TP X pins σ Q) X.xe s
def tOp (r : R2) (ta tb : TE) : TE := fun σ H Q => ta σ H fun x H1 => tb σ H1 fun y H2 => r x y H2 Q
def tUn (r : V → Hp → VK → Prop) (ta : TE) : TE := fun σ H Q => ta σ H fun x H1 => r x H1 Q
def rI (C : Int → Int → Prop) (g : Int → Int → V) : R2 := fun x y H Q => ∃ i j, x = .int i ∧ y = .int j ∧ C i j ∧ Q (g i j) H
def rI0 (g : Int → Int → V) : R2 := fun x y H Q => ∃ i j, x = .int i ∧ y = .int j ∧ Q (g i j) H
def rU (g : Int → V) : V → Hp → VK → Prop := fun x H Q => ∃ i, x = .int i ∧ Q (g i) H
section
variable {X : Cx} {a b c : Expr} {ta tb tc : TE} {pos : Pos}
theorem binT (ha : PE X a ta) (hb : PE X b tb) {pins : List (Addr × Obj)} {s : Shared} {σ : St} {H : Hp} {R : V → V → Hp → Prop} (I : Inv X pins σ H s)
    (h : ta σ H fun x H1 => tb σ H1 fun y H2 => R x y H2) {Q : Value → Shared → Prop} {f : Value → Value → Sem Value}
    (hf : ∀ v u s2 x y H2, Inv X pins σ H2 s2 → RelV x v → RelV y u → R x y H2 → wpAny (model X.prog X.w) X.A (f v u) Q X.xe s2) :
    wpAny (model X.prog X.w) X.A (eval a X.env) (fun v s₁ => wpAny (model X.prog X.w) X.A (eval b X.env) (fun u s₂ => wpAny (model X.prog X.w) X.A (f v u) Q X.xe s₂) X.xe s₁) X.xe s := by
  refine thn (ha pins s σ H _ I h) fun v s1 ⟨x, H1, I1, r1, q1⟩ => ?_
  refine thn (hb pins s1 σ H1 _ I1 q1) fun u s2 ⟨y, H2, I2, r2, q2⟩ => ?_
  exact hf v u s2 x y H2 I2 r1 r2 q2
theorem pe_op {op : Operator} {r : R2} (ho : OpR X (binaryOp op) r) (ha : PE X a ta) (hb : PE X b tb) : PE X (.BinOp a op b pos) (tOp r ta tb) := by
  intro pins s σ H Q I h
  exact wpAny_BinOp (binT ha hb I h fun v u s2 x y H2 I2 rx ry q => ho pins s2 σ H2 x y v u Q I2 rx ry q)
theorem pe_un {op : UnaryOp} {r : V → Hp → VK → Prop} (ho : UnR X (unaryOp op) r) (ha : PE X a ta) : PE X (.UnaryOp op a pos) (tUn r ta) := by
  intro pins s σ H Q I h
  exact UnaryOp_ (thn (ha pins s σ H _ I h) fun v s1 ⟨x, H1, I1, r1, q1⟩ => ho pins s1 σ H1 x v Q I1 r1 q1)
theorem opI {f : Value → Value → Sem Value} {C : Int → Int → Prop} {g : Int → Int → Int}
    (rule : ∀ (i j : Int) (t u : Tok) (s : Shared) (Q : Value → Shared → Prop) (E : Value → Shared → Prop), C i j → Q (.int (g i j) s.toks) { s with toks := s.toks + 1 } → wpAny (model X.prog X.w) X.A (f (.int i t) (.int j u)) Q E s) :
    OpR X f (rI C fun i j => .int (g i j)) := by
  intro pins s σ H x y v u Q I rx ry h
  obtain ⟨i, j, rfl, rfl, hc, q⟩ := h
  obtain ⟨t, rfl⟩ := rx
  obtain ⟨t', rfl⟩ := ry
  exact rule i j t t' s _ _ hc ⟨.int (g i j), H, I.tok _, ⟨_, rfl⟩, q⟩
theorem opI0 {f : Value → Value → Sem Value} {g : Int → Int → Int}
    (rule : ∀ (i j : Int) (t u : Tok) (s : Shared) (Q : Value → Shared → Prop) (E : Value → Shared → Prop), Q (.int (g i j) s.toks) { s with toks := s.toks + 1 } → wpAny (model X.prog X.w) X.A (f (.int i t) (.int j u)) Q E s) :
    OpR X f (rI0 fun i j => .int (g i j)) := by
  intro pins s σ H x y v u Q I rx ry h
  obtain ⟨i, j, rfl, rfl, q⟩ := h
  obtain ⟨t, rfl⟩ := rx
  obtain ⟨t', rfl⟩ := ry
  exact rule i j t t' s _ _ ⟨.int (g i j), H, I.tok _, ⟨_, rfl⟩, q⟩
theorem opB0 {f : Value → Value → Sem Value} {g : Int → Int → Bool}
    (rule : ∀ (i j : Int) (t u : Tok) (s : Shared) (Q : Value → Shared → Prop) (E : Value → Shared → Prop), Q (.bool (g i j)) s → wpAny (model X.prog X.w) X.A (f (.int i t) (.int j u)) Q E s) :
    OpR X f (rI0 fun i j => .bl (g i j)) := by
  intro pins s σ H x y v u Q I rx ry h
  obtain ⟨i, j, rfl, rfl, q⟩ := h
  obtain ⟨t, rfl⟩ := rx
  obtain ⟨t', rfl⟩ := ry
  exact rule i j t t' s _ _ ⟨.bl (g i j), H, I, rfl, q⟩
def CDiv (i j : Int) : Prop := 0 < j ∧ j < 1073741824
def CPow (i j : Int) : Prop := 0 ≤ j ∧ j ≤ 1000000 ∧ i.natAbs < 2 ^ 64
def CMul (i j : Int) : Prop := (-(2 ^ 64) < i ∧ i < 2 ^ 64) ∨ (-(2 ^ 64) < j ∧ j < 2 ^ 64)
theorem CMul.ok {i j : Int} (h : CMul i j) : IntMulOk i j := by
  rcases h with ⟨h1, h2⟩ | ⟨h1, h2⟩
  · exact .of_left (intBits_le_64 h1 h2)
  · exact .of_right (intBits_le_64 h1 h2)
theorem two_pow_nn (k : Nat) : (0 : Int) ≤ 2 ^ k := by
  rw [two_pow_cast]
  exact Int.natCast_nonneg _
theorem op_add : OpR X (binaryOp .Add) (rI0 fun i j => .int (i + j)) := opI0 fun _ _ _ _ _ _ _ q => add_int q
theorem op_sub : OpR X (binaryOp .Sub) (rI0 fun i j => .int (i - j)) := opI0 fun _ _ _ _ _ _ _ q => sub_int q
theorem op_mul : OpR X (binaryOp .Mult) (rI CMul fun i j => .int (i * j)) := opI fun _ _ _ _ _ _ _ hc q => mul_int q hc.ok
theorem op_fdiv : OpR X (binaryOp .FloorDiv) (rI CDiv fun i j => .int (i / j)) := opI fun i j _ _ _ _ _ hc q => by
  have h1 : (0 : Int) < j := hc.1
  have h2 : j < 1073741824 := hc.2
  exact floordiv_int (by omega) (by rw [Int.fdiv_eq_ediv_of_nonneg i (by omega)]; exact q) (.inl (PyProof.noPylong_small (by omega)))
theorem op_mod : OpR X (binaryOp .Mod) (rI (fun _ j => 0 < j) fun i j => .int (i % j)) := opI fun i j _ _ _ _ _ hc q => by
  have h1 : (0 : Int) < j := hc
  exact mod_int' (by omega) (by rw [Int.fmod_eq_emod_of_nonneg i (by omega)]; exact q)
theorem op_pow : OpR X (binaryOp .Pow) (rI CPow fun i j => .int (i ^ j.toNat)) := opI fun _ _ _ _ _ _ _ hc q => pow_int_small hc.1 hc.2.1 hc.2.2 q
theorem op_shl : OpR X (binaryOp .LShift) (rI CPow fun i j => .int (i * 2 ^ j.toNat)) := opI fun _ _ _ _ _ _ _ hc q => lshift_int_small hc.1 hc.2.1 hc.2.2 q
theorem op_shr : OpR X (binaryOp .RShift) (rI (fun _ j => 0 ≤ j) fun i j => .int (i / 2 ^ j.toNat)) := opI fun i j _ _ _ _ _ hc q =>
  rshift_int hc (by rw [Int.fdiv_eq_ediv_of_nonneg i (two_pow_nn _)]; exact q)
theorem op_and : OpR X (binaryOp .BitAnd) (rI0 fun i j => .int (Builtin.bitAnd i j)) := opI0 fun _ _ _ _ _ _ _ q => and_int q
theorem op_or : OpR X (binaryOp .BitOr) (rI0 fun i j => .int (Builtin.bitOr i j)) := opI0 fun _ _ _ _ _ _ _ q => or_int q
theorem op_xor : OpR X (binaryOp .BitXor) (rI0 fun i j => .int (Builtin.bitXor i j)) := opI0 fun _ _ _ _ _ _ _ q => xor_int q
theorem unI {f : Value → Sem Value} {g : Int → Int}
    (rule : ∀ (i : Int) (t : Tok) (s : Shared) (Q : Value → Shared → Prop) (E : Value → Shared → Prop), Q (.int (g i) s.toks) { s with toks := s.toks + 1 } → wpAny (model X.prog X.w) X.A (f (.int i t)) Q E s) :
    UnR X f (rU fun i => .int (g i)) := by
  intro pins s σ H x v Q I rx h
  obtain ⟨i, rfl, q⟩ := h
  obtain ⟨t, rfl⟩ := rx
  exact rule i t s _ _ ⟨.int (g i), H, I.tok _, ⟨_, rfl⟩, q⟩
theorem un_neg : UnR X (unaryOp .USub) (rU fun i => .int (-i)) := unI fun _ _ _ _ _ q => neg_int q
end
def scal : V → V → Bool
  | .non, .non => true | .non, .int _ => true | .int _, .non => true | .non, .bl _ => true | .bl _, .non => true | .non, .str _ => true | .str _, .non => true
  | .int _, .int _ => true | .bl _, .bl _ => true | .str _, .str _ => true | .byt _, .byt _ => true
  | .int _, .str _ => true | .str _, .int _ => true | .bl _, .str _ => true | .str _, .bl _ => true
  | _, _ => false
def rEq : R2 := fun x y H Q => scal x y = true ∧ Q (.bl (decide (x = y))) H
def rNe : R2 := fun x y H Q => scal x y = true ∧ Q (.bl (!decide (x = y))) H
theorem dec_int {i j : Int} : decide (V.int i = V.int j) = (i == j) := by
  rw [Bool.eq_iff_iff]
  simp
theorem dec_bl {i j : Bool} : decide (V.bl i = V.bl j) = (i == j) := by
  rw [Bool.eq_iff_iff]
  simp
theorem dec_str {i j : Str} : decide (V.str i = V.str j) = (i == j) := by
  rw [Bool.eq_iff_iff]
  simp
theorem dec_byt {i j : Array UInt8} : decide (V.byt i = V.byt j) = (i.toList == j.toList) := by
  rw [Bool.eq_iff_iff]
  cases i
  cases j
  simp
section
variable {X : Cx} {a b c : Expr} {ta tb tc : TE} {pos : Pos}
theorem fin_bl {pins : List (Addr × Obj)} {σ : St} {H : Hp} {s : Shared} {Q : VK} {k k' : Bool} (I : Inv X pins σ H s) (q : Q (.bl k) H) (e : k = k') : EP X pins σ Q (.bool k') s := by
  subst e
  exact ⟨.bl k, H, I, rfl, q⟩
theorem op_eq : OpR X (compareOp .Eq) rEq := by
  intro pins s σ H x y v u Q I rx ry h
  obtain ⟨hs, q⟩ := h
  cases x with
  | non =>
    cases rx
    cases y with
    | non => cases ry; exact PySem.EqNone.eq_none_none (fin_bl I q (by simp))
    | bl j => cases ry; exact PySem.EqNone.eq_none_bool (fin_bl I q (by simp))
    | int j => obtain ⟨t', rfl⟩ := ry; exact PySem.EqNone.eq_none_int (fin_bl I q (by simp))
    | str j => obtain ⟨t', rfl⟩ := ry; exact PySem.EqNone.eq_none_str (fin_bl I q (by simp))
    | _ => exact absurd (show false = true from hs) Bool.false_ne_true
  | bl i =>
    cases rx
    cases y with
    | non => cases ry; exact PySem.EqNone.eq_bool_none (fin_bl I q (by simp))
    | bl j => cases ry; exact eq_bool (fin_bl I q dec_bl)
    | str j => obtain ⟨t', rfl⟩ := ry; exact PySem.EqMixed.eq_bool_str (fin_bl I q (by simp))
    | _ => exact absurd (show false = true from hs) Bool.false_ne_true
  | int i =>
    obtain ⟨t, rfl⟩ := rx
    cases y with
    | non => cases ry; exact PySem.EqNone.eq_int_none (fin_bl I q (by simp))
    | int j => obtain ⟨t', rfl⟩ := ry; exact eq_int (fin_bl I q dec_int)
    | str j => obtain ⟨t', rfl⟩ := ry; exact PySem.EqMixed.eq_int_str (fin_bl I q (by simp))
    | _ => exact absurd (show false = true from hs) Bool.false_ne_true
  | str i =>
    obtain ⟨t, rfl⟩ := rx
    cases y with
    | non => cases ry; exact PySem.EqNone.eq_str_none (fin_bl I q (by simp))
    | bl j => cases ry; exact PySem.EqMixed.eq_str_bool (fin_bl I q (by simp))
    | int j => obtain ⟨t', rfl⟩ := ry; exact PySem.EqMixed.eq_str_int (fin_bl I q (by simp))
    | str j => obtain ⟨t', rfl⟩ := ry; exact eq_str (fin_bl I q dec_str)
    | _ => exact absurd (show false = true from hs) Bool.false_ne_true
  | byt i =>
    obtain ⟨t, rfl⟩ := rx
    cases y with
    | byt j => obtain ⟨t', rfl⟩ := ry; exact PySem.W.eq_bytes (fin_bl I q dec_byt)
    | _ => exact absurd (show false = true from hs) Bool.false_ne_true
  | _ => cases y <;> exact absurd (show false = true from hs) Bool.false_ne_true
theorem op_ne : OpR X (compareOp .NotEq) rNe := by
  intro pins s σ H x y v u Q I rx ry h
  obtain ⟨hs, q⟩ := h
  cases x with
  | non =>
    cases rx
    cases y with
    | non => cases ry; exact PySem.EqNone.ne_none_none (fin_bl I q (by simp))
    | bl j => cases ry; exact PySem.EqNone.ne_none_bool (fin_bl I q (by simp))
    | int j => obtain ⟨t', rfl⟩ := ry; exact PySem.EqNone.ne_none_int (fin_bl I q (by simp))
    | str j => obtain ⟨t', rfl⟩ := ry; exact PySem.EqNone.ne_none_str (fin_bl I q (by simp))
    | _ => exact absurd (show false = true from hs) Bool.false_ne_true
  | bl i =>
    cases rx
    cases y with
    | non => cases ry; exact PySem.EqNone.ne_bool_none (fin_bl I q (by simp))
    | bl j => cases ry; exact ne_bool (fin_bl I q (congrArg not dec_bl))
    | str j => obtain ⟨t', rfl⟩ := ry; exact PySem.EqMixed.ne_bool_str (fin_bl I q (by simp))
    | _ => exact absurd (show false = true from hs) Bool.false_ne_true
  | int i =>
    obtain ⟨t, rfl⟩ := rx
    cases y with
    | non => cases ry; exact PySem.EqNone.ne_int_none (fin_bl I q (by simp))
    | int j => obtain ⟨t', rfl⟩ := ry; exact ne_int (fin_bl I q (congrArg not dec_int))
    | str j => obtain ⟨t', rfl⟩ := ry; exact PySem.EqMixed.ne_int_str (fin_bl I q (by simp))
    | _ => exact absurd (show false = true from hs) Bool.false_ne_true
  | str i =>
    obtain ⟨t, rfl⟩ := rx
    cases y with
    | non => cases ry; exact PySem.EqNone.ne_str_none (fin_bl I q (by simp))
    | bl j => cases ry; exact PySem.EqMixed.ne_str_bool (fin_bl I q (by simp))
    | int j => obtain ⟨t', rfl⟩ := ry; exact PySem.EqMixed.ne_str_int (fin_bl I q (by simp))
    | str j => obtain ⟨t', rfl⟩ := ry; exact ne_str (fin_bl I q (congrArg not dec_str))
    | _ => exact absurd (show false = true from hs) Bool.false_ne_true
  | byt i =>
    obtain ⟨t, rfl⟩ := rx
    cases y with
    | byt j => obtain ⟨t', rfl⟩ := ry; exact PySem.W.ne_bytes (fin_bl I q (congrArg not dec_byt))
    | _ => exact absurd (show false = true from hs) Bool.false_ne_true
  | _ => cases y <;> exact absurd (show false = true from hs) Bool.false_ne_true
theorem op_lt : OpR X (compareOp .Lt) (rI0 fun i j => .bl (decide (i < j))) := opB0 fun _ _ _ _ _ _ _ q => lt_int q
theorem op_le : OpR X (compareOp .LtE) (rI0 fun i j => .bl (decide (i ≤ j))) := opB0 fun _ _ _ _ _ _ _ q => le_int q
theorem op_gt : OpR X (compareOp .Gt) (rI0 fun i j => .bl (decide (j < i))) := opB0 fun _ _ _ _ _ _ _ q => gt_int q
theorem op_ge : OpR X (compareOp .GtE) (rI0 fun i j => .bl (decide (j ≤ i))) := opB0 fun _ _ _ _ _ _ _ q => ge_int q
theorem op_isN : OpR X (compareOp .Is) (fun x y H Q => y = .non ∧ Q (.bl (decide (x = .non))) H) := by
  intro pins s σ H x y v u Q I rx ry h
  obtain ⟨rfl, q⟩ := h
  cases ry
  refine is_none_gen (fin_bl I q ?_)
  cases x <;> first
    | (cases rx; rfl)
    | (obtain ⟨t, rfl⟩ := rx; rfl)
theorem op_notN : OpR X (compareOp .IsNot) (fun x y H Q => y = .non ∧ Q (.bl (!decide (x = .non))) H) := by
  intro pins s σ H x y v u Q I rx ry h
  obtain ⟨rfl, q⟩ := h
  cases ry
  refine isnot_none_gen (fin_bl I q ?_)
  cases x <;> first
    | (cases rx; rfl)
    | (obtain ⟨t, rfl⟩ := rx; rfl)
theorem pe_cmpR {op : CmpOp} {r : R2} (ho : OpR X (compareOp op) r) (ha : PE X a ta) (hb : PE X b tb) (hm : behindInMarks op b = false) : PE X (.Compare a [op] [b] pos) (tOp r ta tb) := by
  intro pins s σ H Q I h
  exact wpAny_Compare1 (binT ha hb I h fun v u s2 x y H2 I2 rx ry q => ho pins s2 σ H2 x y v u Q I2 rx ry q) hm
def tTest (t : TE) : TT := fun σ H Q => t σ H fun x H' => ∃ k, x = .bl k ∧ Q k H'
theorem pt_cmpR {op : CmpOp} {r : R2} (ho : OpR X (compareOp op) r) (ha : PE X a ta) (hb : PE X b tb) (hm : behindInMarks op b = false) : PT X (.Compare a [op] [b] pos) (tTest (tOp r ta tb)) := by
  intro pins s σ H Q I h
  refine wpAny_isTrue_Compare1 (thn (ha pins s σ H _ I h) fun v s1 ⟨x, H1, I1, r1, q1⟩ => thn (hb pins s1 σ H1 _ I1 q1) fun u s2 ⟨y, H2, I2, r2, q2⟩ =>
    thn (ho pins s2 σ H2 x y v u _ I2 r1 r2 q2) fun c s3 ⟨z, H3, I3, r3, k, e, q3⟩ => ?_) hm
  subst e
  cases r3
  exact wpAny_truthy_bool ⟨H3, I3, q3⟩
def tChain (r r' : R2) (ta tb tc : TE) : TE := fun σ H Q => ta σ H fun x H1 => tb σ H1 fun y H2 => r x y H2 fun z H3 => ∃ k, z = .bl k ∧
  (if k = true then tc σ H3 fun w' H4 => r' y w' H4 Q else Q (.bl false) H3)
theorem pe_chain {op op' : CmpOp} {r r' : R2} (ho : OpR X (compareOp op) r) (ho' : OpR X (compareOp op') r') (ha : PE X a ta) (hb : PE X b tb) (hc : PE X c tc)
    (hm : lastMarks [op, op'] [b, c] = false := by with_unfolding_all rfl) : PE X (.Compare a [op, op'] [b, c] pos) (tChain r r' ta tb tc) := by
  intro pins s σ H Q I h
  refine Compare_chain (thn (ha pins s σ H _ I h) fun v s1 ⟨x, H1, I1, r1, q1⟩ => chain_link (thn (hb pins s1 σ H1 _ I1 q1) fun u s2 ⟨y, H2, I2, r2, q2⟩ =>
    thn (ho pins s2 σ H2 x y v u _ I2 r1 r2 q2) fun d s3 ⟨z, H3, I3, r3, k, e, q3⟩ => ?_)) hm
  subst e
  cases r3
  refine wpAny_truthy_bool ?_
  cases k with
  | false => exact ite_ff ⟨.bl false, H3, I3, rfl, q3⟩
  | true => exact ite_tt (chain_last (thn (hc pins s3 σ H3 _ I3 q3) fun w' s4 ⟨z', H4, I4, r4, q4⟩ => ho' pins s4 σ H4 y z' u w' Q I4 r2 r4 q4))
theorem pt_chain {op op' : CmpOp} {r r' : R2} (ho : OpR X (compareOp op) r) (ho' : OpR X (compareOp op') r') (ha : PE X a ta) (hb : PE X b tb) (hc : PE X c tc)
    (hm : lastMarks [op, op'] [b, c] = false := by with_unfolding_all rfl) : PT X (.Compare a [op, op'] [b, c] pos) (tTest (tChain r r' ta tb tc)) := by
  intro pins s σ H Q I h
  refine isTrue_chain (thn (ha pins s σ H _ I h) fun v s1 ⟨x, H1, I1, r1, q1⟩ => test_link (thn (hb pins s1 σ H1 _ I1 q1) fun u s2 ⟨y, H2, I2, r2, q2⟩ =>
    thn (ho pins s2 σ H2 x y v u _ I2 r1 r2 q2) fun d s3 ⟨z, H3, I3, r3, k, e, q3⟩ => ?_)) hm
  subst e
  cases r3
  refine wpAny_truthy_bool ?_
  cases k with
  | false =>
    obtain ⟨k', e', q'⟩ := q3
    cases e'
    exact ite_ff ⟨H3, I3, q'⟩
  | true =>
    refine ite_tt (test_last (thn (hc pins s3 σ H3 _ I3 q3) fun w' s4 ⟨z', H4, I4, r4, q4⟩ => thn (ho' pins s4 σ H4 y z' u w' _ I4 r2 r4 q4) fun d' s5 ⟨z2, H5, I5, r5, k2, e2, q5⟩ => ?_))
    subst e2
    cases r5
    exact wpAny_truthy_bool ⟨H5, I5, q5⟩
def TruV (K : PySem.W.Frag) (x : V) (H : Hp) (k : Bool) : Prop :=
  match x with
  | .non => k = false
  | .bl b => k = b
  | .int i => k = (i != 0)
  | .str y => y.length ≤ sizeLine ∧ k = ((y.length : Int) != 0)
  | .byt y => y.size ≤ sizeLine ∧ k = ((y.size : Int) != 0)
  | .ref p => (∃ xs, SqL K H p xs ∧ k = !xs.isEmpty) ∨ (∃ xs, SqT K H p xs ∧ k = !xs.isEmpty) ∨ ∃ kvs, H p = some (.dK kvs) ∧ k = !kvs.isEmpty
  | _ => False
theorem isEmpty_kv {κ : Type} {kvs : List (κ × V)} {vs : List (κ × Value)} (r : KV kvs vs) : (!vs.isEmpty) = !kvs.isEmpty := by
  cases r <;> rfl
theorem isEmpty_of {xs : List V} {its : List Value} (r : Vals xs its) : (!its.toArray.isEmpty) = !xs.isEmpty := by
  cases r <;> simp
theorem line63 : (sizeLine : Nat) < 2 ^ 63 := by rw [sizeLine_eq]; decide
theorem tru_ok : TruR X (fun x H Q => ∃ k, TruV X.K x H k ∧ Q k H) := by
  intro pins s σ H x v Q I rx h
  obtain ⟨k, e, q⟩ := h
  have hl := line63
  have hs : sizeLine = 16777216 := sizeLine_eq
  cases x with
  | non =>
    cases rx
    have e' : k = false := e
    subst e'
    exact truthy_none ⟨H, I, q⟩
  | bl b =>
    cases rx
    have e' : k = b := e
    subst e'
    exact wpAny_truthy_bool ⟨H, I, q⟩
  | int i =>
    obtain ⟨t, rfl⟩ := rx
    have e' : k = (i != 0) := e
    subst e'
    exact PySem.P.truthy_int ⟨H, I, q⟩
  | str y =>
    obtain ⟨t, rfl⟩ := rx
    obtain ⟨hy, e'⟩ : y.length ≤ sizeLine ∧ k = ((y.length : Int) != 0) := e
    subst e'
    exact PySem.P.truthy_str (by omega) ⟨H, I.tok _, q⟩
  | byt y =>
    obtain ⟨t, rfl⟩ := rx
    obtain ⟨hy, e'⟩ : y.size ≤ sizeLine ∧ k = ((y.size : Int) != 0) := e
    subst e'
    exact PySem.W.truthy_bytes (by omega) ⟨H, I.tok _, q⟩
  | ref p =>
    cases rx
    have e' : (∃ xs, SqL X.K H p xs ∧ k = !xs.isEmpty) ∨ (∃ xs, SqT X.K H p xs ∧ k = !xs.isEmpty) ∨ ∃ kvs, H p = some (.dK kvs) ∧ k = !kvs.isEmpty := e
    rcases e' with ⟨xs, hx, e'⟩ | ⟨xs, hx, e'⟩ | ⟨kvs, hx, e'⟩
    · subst e'
      obtain ⟨its, r, pl, hz⟩ := I.list hx
      have hlen := r.length
      exact wpAny_truthy_list pl.isList (by simp only [List.size_toArray]; omega) ⟨H, I.tok _, by rw [isEmpty_of r]; exact q⟩
    · subst e'
      obtain ⟨its, r, pl, hz⟩ := I.tuple hx
      have hlen := r.length
      exact truthy_tuple pl (by simp only [List.size_toArray]; omega) ⟨H, I.tok _, by rw [isEmpty_of r]; exact q⟩
    · subst e'
      obtain ⟨hz, hS, vs, r, m⟩ : kvs.length ≤ sizeLine ∧ (p == sysModules) = false ∧ ∃ vs, KV kvs vs ∧ s.heap.DictOf (mixKind X.prog X.w) p vs := I.hok p _ hx
      have hlen : kvs.length = vs.length := Paired.length r
      exact wpAny_truthy_dict hS m (by omega) ⟨H, I.tok _, by rw [isEmpty_kv r]; exact q⟩
  | _ => exact (show False from e).elim
theorem pt_truth (ha : PE X a ta) (he : ∀ whole, isTrue a X.env whole = (do let v ← whole; standAt a.pos; holding [v] (truthy v))) :
    PT X a (fun σ H Q => ta σ H fun x H' => ∃ k, TruV X.K x H' k ∧ Q k H') := by
  intro pins s σ H Q I h
  exact isTrue_plain (thn (ha pins s σ H _ I h) fun v s1 ⟨x, H1, I1, r1, q1⟩ => tru_ok pins s1 σ H1 x v Q I1 r1 q1) (he _)
theorem op_add_str : OpR X (binaryOp .Add) (fun x y H Q => ∃ i j, x = .str i ∧ y = .str j ∧ i.length + j.length ≤ sizeLine ∧ Q (.str (i ++ j)) H) := by
  intro pins s σ H x y v u Q I rx ry h
  obtain ⟨i, j, rfl, rfl, hz, q⟩ := h
  obtain ⟨t, rfl⟩ := rx
  obtain ⟨t', rfl⟩ := ry
  exact add_str (fun t' tk => ⟨.str (i ++ j), H, I.tok _, ⟨_, rfl⟩, q⟩) hz
theorem vals1 {x : V} {us : List Value} (r : Vals [x] us) : ∃ u, us = [u] ∧ RelV x u := by
  cases r with
  | cons r1 r2 => cases r2; exact ⟨_, rfl, r1⟩
theorem vals2 {x y : V} {us : List Value} (r : Vals [x, y] us) : ∃ u w', us = [u, w'] ∧ RelV x u ∧ RelV y w' := by
  cases r with
  | cons r1 r2 =>
    cases r2 with
    | cons r3 r4 => cases r4; exact ⟨_, _, rfl, r1, r3⟩
theorem call_max2 (hc : X.calm = true) : CallR X (.builtin "max") (fun xs H Q => ∃ i j, xs = [.int i, .int j] ∧ Q (.int (if j > i then j else i)) H) := by
  intro pins s σ H xs us Q I r h
  obtain ⟨i, j, rfl, q⟩ := h
  obtain ⟨u, w', rfl, ⟨t, rfl⟩, ⟨t', rfl⟩⟩ := vals2 r
  refine max_two_ints (I.ok.hd hc) fun h' tk k => ⟨_, H, I.kept k, ?_, q⟩
  by_cases hj : j > i
  · rw [if_pos hj, if_pos hj]; exact ⟨_, rfl⟩
  · rw [if_neg hj, if_neg hj]; exact ⟨_, rfl⟩
theorem call_min2 (hc : X.calm = true) : CallR X (.builtin "min") (fun xs H Q => ∃ i j, xs = [.int i, .int j] ∧ Q (.int (if j < i then j else i)) H) := by
  intro pins s σ H xs us Q I r h
  obtain ⟨i, j, rfl, q⟩ := h
  obtain ⟨u, w', rfl, ⟨t, rfl⟩, ⟨t', rfl⟩⟩ := vals2 r
  refine min_two_ints (I.ok.hd hc) fun h' tk k => ⟨_, H, I.kept k, ?_, q⟩
  by_cases hj : j < i
  · rw [if_pos hj, if_pos hj]; exact ⟨_, rfl⟩
  · rw [if_neg hj, if_neg hj]; exact ⟨_, rfl⟩
theorem call_int1 : CallR X (.type "int") (fun xs H Q => (∃ i, xs = [.int i] ∧ Q (.int i) H) ∨ ∃ k, xs = [.bl k] ∧ Q (.int (if k then 1 else 0)) H) := by
  intro pins s σ H xs us Q I r h
  rcases h with ⟨i, rfl, q⟩ | ⟨k, rfl, q⟩
  · obtain ⟨u, rfl, t, rfl⟩ := vals1 r
    exact call_int_int ⟨.int i, H, I, ⟨_, rfl⟩, q⟩
  · obtain ⟨u, rfl, r1⟩ := vals1 r
    cases r1
    exact call_int_bool ⟨.int (if k then 1 else 0), H, I.tok _, ⟨_, rfl⟩, q⟩
end
end L2
namespace L2
open PySem PySem.Spec PyProof.Rows
structure ObjM (h : Heap) (x dx C : Addr) (mA : Str → Option Value) : Prop where
  obj : h.get? x = some (PySem.W.instObj C dx)
  ns : h.Ns1 dx mA
  ne : dx ≠ x
section
variable {prog : Program} {w : World} {A : Around} {E : Value → Shared → Prop} {s : Shared} {K : PySem.W.Frag} {x dx C f : Addr} {mA : Str → Option Value} {name : Str} {v : Value}
end
theorem RelO.some_of {v : V} {o : Option Value} (r : RelO (some v) o) : ∃ u, o = some u ∧ RelV v u := by
  cases o with
  | none => exact (show False from r).elim
  | some u => exact ⟨u, rfl, r⟩
section
variable {P : Program} {w : World} {H H' : Hp} {h h' : Heap} {a C dx : Addr} {fs fs' : List (Str × V)}
end
structure Cls (K : PySem.W.Frag) (C : Addr) : Prop where
  pg : PySem.W.plainGet K C Str.empty = true
  hd : PySem.W.hasDictIn K C = true
  po : PySem.W.plainOver K C = true
  sa : PySem.W.findIn K (.ref C) "__setattr__" = some (some (.builtin "object.__setattr__"))
structure Con (K : PySem.W.Frag) (C : Addr) (f : Str) (v : V) (u : Value) : Prop where
  at_ : PySem.W.findIn K (.ref C) f = some (some u)
  rel : RelV v u
  get : PySem.W.specialIn K u "__get__" = some none
  cp : PySem.W.copiedNames.contains f = false
structure Meth (K : PySem.W.Frag) (C : Addr) (m : Str) (f : Addr) : Prop where
  at_ : PySem.W.findIn K (.ref C) m = some (some (.ref f))
  fn : PySem.W.isFn K (.ref f) = true
  kp : PySem.W.keepIn K (.ref f) = true
section
variable {X : Cx} {pins : List (Addr × Obj)} {σ : St} {H : Hp} {s : Shared} {a C dx : Addr} {fs : List (Str × V)} {f : Str} {v : V} {A : Around} {E : Value → Shared → Prop}
end
section
variable {X : Cx} {o e value : Expr} {f : Str} {pos pos' tpos : Pos} {ta tv : TE}
end
section
variable {X : Cx} {pins : List (Addr × Obj)} {σ : St} {H : Hp} {s : Shared} {A : Around} {E : Value → Shared → Prop} {Q : Value → Shared → Prop} {c : Value} {b : Bool}
inductive TyOf (K : PySem.W.Frag) (H : Hp) : V → Value → Prop where
  | non : TyOf K H .non (.type "NoneType")
  | bl (x : Bool) : TyOf K H (.bl x) (.type "bool")
  | int (i : Int) : TyOf K H (.int i) (.type "int")
  | str (x : Str) : TyOf K H (.str x) (.type "str")
  | flt (x : UInt64) : TyOf K H (.flt x) (.type "float")
  | lst {a : Addr} {xs : List V} (e : H a = some (.lst xs)) : TyOf K H (.ref a) (.type "list")
  | frz {a : Addr} {o : Obj} {xs : List V} (e : H a = some (.frz o (.lst xs))) : TyOf K H (.ref a) (.type "list")
  | tup {a : Addr} {xs : List V} (e : H a = some (.tup xs)) : TyOf K H (.ref a) (.type "tuple")
  | dK {a : Addr} {kvs : List (Key × V)} (e : H a = some (.dK kvs)) : TyOf K H (.ref a) (.type "dict")
  | dT {a : Addr} {kvs : List (List Key × V)} (e : H a = some (.dT kvs)) : TyOf K H (.ref a) (.type "dict")
  | ins {a C dx : Addr} {fs : List (Str × V)} (e : H a = some (.ins C dx fs)) (cl : Cls K C) (ha : PySem.W.findIn K (.ref C) "__class__" = some (some (.builtin "object.__class__")))
      (hn : PySem.W.specialIn K (.builtin "object.__class__") "__get__" = some (some (.builtin "getset_descriptor.__get__"))) (htk : PySem.W.takesIn K (.builtin "object.__class__") = some true)
      (hm : PySem.W.mroIn K C (.type "object") = some true) : TyOf K H (.ref a) (.ref C)
end
end L2
namespace L2
open PySem PySem.Spec PyProof.Rows
structure Room (k : Nat) (A : Around) : Prop where
  hd : A.handled = none
  dp : A.depth + 3 * k + 5 < recursionLimit
  un : A.units + 16 * k + 200 < cLine
  gd : A.guards = some []
theorem Room.mono {j k : Nat} {A : Around} (r : Room k A) (h : j ≤ k) : Room j A := ⟨r.hd, by have := r.dp; omega, by have := r.un; omega, r.gd⟩
theorem Room.deeper {k : Nat} {A : Around} (r : Room (k + 1) A) (env : Env) : Room k (A.deeper env) :=
  ⟨r.hd, by have := r.dp; show A.depth + 1 + 3 * k + 5 < _; omega, by have := r.un; show A.units + 3 + 16 * k + 200 < _; omega, r.gd⟩
theorem Room.depth {k : Nat} {A : Around} (r : Room k A) : A.depth < recursionLimit := by have := r.dp; omega
theorem Room.units {k : Nat} {A : Around} (r : Room k A) : A.units + 64 < cLine := by have := r.un; omega
theorem Room.units0 {k : Nat} {A : Around} (r : Room k A) : A.units < cLine := by have := r.un; omega
def tNil : TA := fun _ H Q => Q [] H
def tCons (ta : TE) (tr : TA) : TA := fun σ H Q => ta σ H fun x H1 => tr σ H1 fun xs H2 => Q (x :: xs) H2
section
variable {X : Cx} {e : Expr} {es : List Expr} {te : TE} {t : TA} {pos : Pos}
theorem pa_nil : PA X [] tNil := fun _ _ _ _ H Q I h => Calls.spliced_nil ⟨[], H, I, .nil, h⟩
theorem pa_cons (ha : PE X e te) (hr : PA X es t) (hs : starEach (e :: es) X.env = (false, eval e X.env) :: starEach es X.env := by rfl) : PA X (e :: es) (tCons te t) := by
  intro pos pins s σ H Q I h
  rw [hs]
  show wpAny _ _ (spliced ((false, eval e X.env) :: backTo pos (starEach es X.env))) _ _ s
  refine Calls.spliced_cons (thn (ha pins s σ H _ I h) fun u s1 ⟨x, H1, I1, r1, q1⟩ => ?_)
  exact thn (hr pos pins s1 σ H1 _ I1 q1) fun us s2 ⟨xs, H2, I2, r2, q2⟩ => ⟨x :: xs, H2, I2, .cons r1 r2, q2⟩
def tTup (t : TA) : TE := fun σ H Q => t σ H fun xs H1 => xs.length ≤ sizeLine ∧ ∀ p, H1 p = none → Q (.ref p) (upd H1 p (.tup xs))
def tLst (t : TA) : TE := fun σ H Q => t σ H fun xs H1 => xs.length ≤ sizeLine ∧ ∀ p, H1 p = none → Q (.ref p) (upd H1 p (.lst xs))
theorem pe_tup {x1} (h : PA X es t) : PE X (.Tuple es x1 pos) (tTup t) := by
  intro pins s σ H Q I hq
  refine wpAny_Tuple_spliced (thn (h pos pins s σ H _ I hq) fun us s1 ⟨xs, H1, I1, r, z, q⟩ => ⟨by rw [← r.length]; exact z, ?_⟩)
  have hf : H1 s1.heap.objs.size = none := I1.hok.fresh (Nat.le_refl _)
  refine ⟨.ref s1.heap.objs.size, upd H1 s1.heap.objs.size (.tup xs), I1.laid (t' := s1.toks) (fun b u e => Heap.get?_push_of_some _ e) (Nat.le_refl _) ?_, rfl, q _ hf⟩
  exact ⟨z, us, r, ⟨_, Heap.get?_push_size _ rfl, rfl, _, rfl⟩⟩
theorem pe_lst (h : PA X es t) : PE X (.List es pos) (tLst t) := by
  intro pins s σ H Q I hq
  refine wpAny_List_spliced (thn (h pos pins s σ H _ I hq) fun us s1 ⟨xs, H1, I1, r, z, q⟩ => ⟨by rw [← r.length]; exact z, ?_⟩)
  have hf : H1 s1.heap.objs.size = none := I1.hok.fresh (Nat.le_refl _)
  refine ⟨.ref s1.heap.objs.size, upd H1 s1.heap.objs.size (.lst xs), I1.laid (t' := s1.toks) (fun b u e => Heap.get?_push_of_some _ e) (Nat.le_refl _) ?_, rfl, q _ hf⟩
  exact ⟨z, us, 0, r, Heap.get?_push_size _ rfl⟩
end
abbrev Sp := List V → Hp → VK → XK → Prop
abbrev CXT := List Env → Hp → Shared → XK → Value → Shared → Prop
structure Env0 (P : Program) (w : World) (K : PySem.W.Frag) (mg : Str → Option Value) (base : Heap) (A : Around) (outer : List Env) (s : Shared) (H : Hp) : Prop where
  frames : A.frames = some outer
  mod : Mod K mg base
  bs : ∀ b o, base.get? b = some o → s.heap.get? b = some o ∧ H b = none
  bsz : base.objs.size ≤ s.heap.objs.size
  funs : s.heap.FunFrames base outer
  frf : ∀ b ∈ frs outer, H b = none
  hok : HOk P w H s.heap
  bare : AllBare s.gens
def CE (outer : List Env) (P : Program) (w : World) (H : Hp) (s : Shared) (Q : VK) (u : Value) (s' : Shared) : Prop :=
  ∃ v H', s'.os = s.os ∧ AllBare s'.gens ∧ Un (frs outer) [] H H' s.heap s'.heap ∧ HOk P w H' s'.heap ∧ RelV v u ∧ Q v H'
def CR (CX : CXT) (outer : List Env) (P : Program) (w : World) (H : Hp) (s : Shared) (Q : VK) (E : XK) (r : Result) (s' : Shared) : Prop :=
  match r with
  | .ok (.ret u) => CE outer P w H s Q u s'
  | .ok _ => False
  | .error e => CX outer H s E e s'
structure FnOk (P : Program) (w : World) (K : PySem.W.Frag) (mg : Str → Option Value) (base : Heap) (CX : CXT) (k : Nat) (f : Addr) (fd : FuncData) (ps : List Str) (sp : Sp) : Prop where
  len : ∀ vs H Q E, sp vs H Q E → vs.length = ps.length
  run : ∀ (A : Around) (outer : List Env) (s : Shared) (H : Hp) (args : Args) (us : List Value) (vs : List V) (Q : VK) (E : XK), Room k A → Env0 P w K mg base A outer s H → BindsTo s fd args (ps.zip us) → Vals vs us → sp vs H Q E →
    codeAny (model P w) A (.call (.ref f) args) (CR CX outer P w H s Q E) s
theorem FnOk.imp {P : Program} {w : World} {K : PySem.W.Frag} {mg : Str → Option Value} {base : Heap} {CX : CXT} {k : Nat} {f : Addr} {fd : FuncData} {ps : List Str} {sp sp' : Sp} (F : FnOk P w K mg base CX k f fd ps sp)
    (h : ∀ vs H Q E, sp' vs H Q E → sp vs H Q E) : FnOk P w K mg base CX k f fd ps sp' :=
  ⟨fun vs H Q E q => F.len vs H Q E (h _ _ _ _ q), fun A outer s H args us vs Q E hr he hb hv hs => F.run A outer s H args us vs Q E hr he hb hv (h _ _ _ _ hs)⟩
section
variable {X : Cx} {pins : List (Addr × Obj)} {σ : St} {H : Hp} {s s' : Shared}
theorem Inv.env0 (I : Inv X pins σ H s) : Env0 X.prog X.w X.K X.mg X.base X.A X.stack s H :=
  ⟨I.ok.frames, I.ok.mod, I.bs, Nat.le_trans I.ok.bsz I.sz, I.stack, I.stkFree, I.hok, I.bare⟩
theorem Inv.after {Q : VK} {u : Value} (I : Inv X pins σ H s) (h : CE X.stack X.prog X.w H s Q u s') : EP X pins σ Q u s' := by
  obtain ⟨v, H', os, bare, un, hok, r, q⟩ := h
  obtain ⟨hh, g, d, t, os'⟩ := s'
  obtain rfl : os' = s.os := os
  exact ⟨v, H', I.call (h' := hh) (g' := g) (d' := d) (t' := t) (ch := []) un hok bare (fun b z => absurd z (by simp)), r, q⟩
end
def tCall (sp : Sp) (dvs : List V) (E : XK) (t : TA) : TE := fun σ H Q => t σ H fun vs H1 => sp (vs ++ dvs) H1 Q E
def Binds (K : PySem.W.Frag) (fd : FuncData) (ps : List Str) (ds : List Value) : Prop :=
  ∀ (s : Shared) (us : List Value), K.In s.heap → (us ++ ds).length = ps.length → BindsTo s fd ⟨us, []⟩ (ps.zip (us ++ ds))
theorem Binds.all {K : PySem.W.Frag} {fd : FuncData} {ps : List Str} (h : ∀ us : List Value, us.length = ps.length → bindArgs fd ⟨us, []⟩ = pure (ps.zip us)) : Binds K fd ps [] := fun s us _ hl => by
  rw [List.append_nil] at hl ⊢
  exact .of_eq (h us hl)
def Passes (CX : CXT) (X : Cx) (E : XK) : Prop := ∀ (pins : List (Addr × Obj)) (σ : St) (H : Hp) (s : Shared) (e : Value) (s' : Shared), Inv X pins σ H s → CX X.stack H s E e s' → X.xe e s'
section
variable {X : Cx} {CX : CXT} {k : Nat} {f C : Addr} {fd : FuncData} {ps : List Str} {sp : Sp} {dvs : List V} {ds : List Value} {E : XK} {x m : Str} {p pos apos : Pos} {e o : Expr} {es : List Expr} {ta : TE} {t : TA}
theorem run_fn {pins : List (Addr × Obj)} {σ : St} {H : Hp} {s : Shared} {Q : VK} {us : List Value} {vs : List V} (F : FnOk X.prog X.w X.K X.mg X.base CX k f fd ps sp) (hr : Room k X.A) (hb : Binds X.K fd ps ds) (hd : Vals dvs ds) (hx : Passes CX X E)
    (I : Inv X pins σ H s) (r : Vals vs us) (h : sp (vs ++ dvs) H Q E) : wpAny (model X.prog X.w) X.A (call (.ref f) us) (EP X pins σ Q) X.xe s := by
  have r2 : Vals (vs ++ dvs) (us ++ ds) := r.append hd
  have hl : (us ++ ds).length = ps.length := by rw [← r2.length]; exact F.len _ _ _ _ h
  refine wpAny_call (codeAny_mono (F.run X.A X.stack s H ⟨us, []⟩ (us ++ ds) (vs ++ dvs) Q E hr I.env0 (hb s us I.kIn hl) r2 h) fun r s' hq => ?_)
  cases r with
  | error e => exact hx pins σ H s e s' I hq
  | ok fl =>
    cases fl with
    | ret u => exact I.after hq
    | next => exact False.elim hq
    | brk => exact False.elim hq
    | cont => exact False.elim hq
theorem pe_call (F : FnOk X.prog X.w X.K X.mg X.base CX k f fd ps sp) (hr : Room k X.A) (hg : Gl X x) (hm : X.mg x = some (.ref f)) (hk : PySem.W.keepIn X.K (.ref f) = true) (hb : Binds X.K fd ps ds) (hd : Vals dvs ds) (hx : Passes CX X E)
    (ha : PA X (e :: es) t) (hdb : (x == ("__debug__" : Str)) = false := by decide) (he : starEach (e :: es) X.env = (false, eval e X.env) :: starEach es X.env := by rfl) (hpl : (backTo pos (starEach es X.env)).any (·.1) = false := by rfl) :
    PE X (.Call (.Name x p) (e :: es) [] pos) (tCall sp dvs E t) := by
  intro pins s σ H Q I h
  refine wpAny_Call_Name_kw (ld_glob I hg hm ?_ hdb)
  refine PySem.W.callWith_K (h₀ := X.base) I.ok.mod.kin hk (thn (ha pos pins s σ H _ I h) fun us s1 ⟨vs, H1, I1, r, q⟩ => ⟨I1.kIn, ?_⟩) he hpl
  exact run_fn F hr hb hd hx I1 r q
structure Mk (K : PySem.W.Frag) (C f : Addr) : Prop where
  makes : PySem.W.makesIn K C = true
  init : PySem.W.findIn K (.ref C) "__init__" = some (some (.ref f))
  fn : PySem.W.isFn K (.ref f) = true
  kp : PySem.W.keepIn K (.ref C) = true
end
section
variable {X : Cx} {CX : CXT} {k : Nat} {f C : Addr} {fd : FuncData} {ps ks : List Str} {sp : Sp} {E : XK} {x m : Str} {p pos apos kpos : Pos} {e o : Expr} {es : List Expr} {kws : List Keyword} {te ta : TE} {t tk : TA} {nm : Option Str}
structure KBinds (K : PySem.W.Frag) (fd : FuncData) (ps ks : List Str) (g : List Value → List Value → List Value) (gV : List V → List V → List V) : Prop where
  to : ∀ (s : Shared) (us ws : List Value), K.In s.heap → (g us ws).length = ps.length → BindsTo s fd ⟨us, ks.zip ws⟩ (ps.zip (g us ws))
  rel : ∀ {vs : List V} {us : List Value} {zs : List V} {ws : List Value}, Vals vs us → Vals zs ws → Vals (gV vs zs) (g us ws)
variable {g : List Value → List Value → List Value} {gV : List V → List V → List V}
end
structure FnScope (N P : List Str) (sc : Scope) : Prop where
  kind : sc.kind = .function
  co : sc.isCoroutine = false
  gen : sc.isGenerator = false
  nd : N.Nodup
  pre : N.take P.length = P
  par : ∀ x ∈ P, sc.names.lookup x = some .local ∨ sc.names.lookup x = some .cell
  nofree : ∀ y ∈ sc.names, y.2 ≠ .free
theorem bindL_out {kindOf : Str → Option NameKind} {x : Str} : ∀ {binds : List (Str × Value)} {m : Str → Option Value}, (∀ v, (x, v) ∉ binds) → bindL kindOf binds m x = m x
  | [], _, _ => rfl
  | (n, v) :: r, m, h => by
    unfold bindL
    rw [bindL_out fun w hw => h w (List.mem_cons_of_mem _ hw)]
    split
    · have : x ≠ n := by rintro rfl; exact h v List.mem_cons_self
      simp [this]
    · rfl
theorem bindC_out {kindOf : Str → Option NameKind} {x : Str} : ∀ {binds : List (Str × Value)} {m : Str → Option Value}, (∀ v, (x, v) ∉ binds) → bindC kindOf binds m x = m x
  | [], _, _ => rfl
  | (n, v) :: r, m, h => by
    unfold bindC
    rw [bindC_out fun w hw => h w (List.mem_cons_of_mem _ hw)]
    split
    · rfl
    · have : x ≠ n := by rintro rfl; exact h v List.mem_cons_self
      simp [this]
theorem bindL_get {kindOf : Str → Option NameKind} {x : Str} {v : Value} : ∀ {P : List Str} {vs : List Value} {i : Nat} {m : Str → Option Value}, P.Nodup → P[i]? = some x → vs[i]? = some v → kindOf x = some .local →
    bindL kindOf (P.zip vs) m x = some v
  | [], _, _, _, _, h, _, _ => by simp at h
  | _ :: _, [], _, _, _, _, h, _ => by simp at h
  | p :: P, w :: vs, 0, m, nd, h1, h2, hk => by
    simp at h1 h2; subst h1; subst h2
    show bindL kindOf ((p, w) :: P.zip vs) m p = _
    unfold bindL
    rw [bindL_out fun v hv => (List.nodup_cons.mp nd).1 (List.of_mem_zip hv).1, if_pos hk]
    simp
  | p :: P, w :: vs, i + 1, m, nd, h1, h2, hk => by
    show bindL kindOf ((p, w) :: P.zip vs) m x = _
    unfold bindL
    exact bindL_get (i := i) (List.nodup_cons.mp nd).2 (by simpa using h1) (by simpa using h2) hk
theorem bindC_get {kindOf : Str → Option NameKind} {x : Str} {v : Value} : ∀ {P : List Str} {vs : List Value} {i : Nat} {m : Str → Option Value}, P.Nodup → P[i]? = some x → vs[i]? = some v → kindOf x ≠ some .local →
    bindC kindOf (P.zip vs) m x = some v
  | [], _, _, _, _, h, _, _ => by simp at h
  | _ :: _, [], _, _, _, _, h, _ => by simp at h
  | p :: P, w :: vs, 0, m, nd, h1, h2, hk => by
    simp at h1 h2; subst h1; subst h2
    show bindC kindOf ((p, w) :: P.zip vs) m p = _
    unfold bindC
    rw [bindC_out fun v hv => (List.nodup_cons.mp nd).1 (List.of_mem_zip hv).1, if_neg hk]
    simp
  | p :: P, w :: vs, i + 1, m, nd, h1, h2, hk => by
    show bindC kindOf ((p, w) :: P.zip vs) m x = _
    unfold bindC
    exact bindC_get (i := i) (List.nodup_cons.mp nd).2 (by simpa using h1) (by simpa using h2) hk
def start (N : List Str) (vs : List V) : St := vs.map some ++ List.replicate (N.length - vs.length) none
def cxOf (CX : CXT) (P : Program) (w : World) (K : PySem.W.Frag) (mg : Str → Option Value) (base : Heap) (N : List Str) (qual : Str) (scope : Scope) (f : Addr) (cd : Value) (A : Around) (outer : List Env) (s : Shared) (H : Hp) (E : XK) : Cx where
  prog := P
  w := w
  K := K
  mg := mg
  base := base
  A := A.deeper (envOfC qual scope s.heap.objs.size f cd)
  N := N
  s₀ := s
  H₀ := H
  env := envOfC qual scope s.heap.objs.size f cd
  outer := outer
  stack := envOfC qual scope s.heap.objs.size f cd :: outer
  ex := []
  calm := true
  fn := fun _ => true
  pn := []
  xe := fun e s' => wpAny (model P w) (A.deeper (envOfC qual scope s.heap.objs.size f cd)) (leaving (envOfC qual scope s.heap.objs.size f cd) e) (fun _ s'' => CX outer H s E e s'') (fun e' s'' => CX outer H s E e' s'') s'
theorem cell_has {sc : Scope} {n : Nat} {x : Str} (h : sc.names.lookup x = some .cell) : ∃ c, (cellsFrom n sc.names []).lookup x = some c := by
  have q := PySem.W.cellsFrom_some sc.names n [] (.inl h)
  exact Option.isSome_iff_exists.mp q
theorem inv_start {CX : CXT} {P : Program} {w : World} {K : PySem.W.Frag} {mg : Str → Option Value} {base : Heap} {N ps : List Str} {qual : Str} {scope : Scope} {f : Addr} {cd : Value} {A : Around} {outer : List Env} {s s1 : Shared} {H : Hp} {E : XK} {us : List Value} {vs : List V}
    (S : FnScope N ps scope) (hd : A.handled = none) (e0 : Env0 P w K mg base A outer s H) (hl : vs.length = ps.length) (r : Vals vs us)
    (x : InCallC s s.heap.objs.size (bindL (envOfC qual scope s.heap.objs.size f cd).kindOf (ps.zip us) fun _ => none) (cellsFrom (s.heap.objs.size + 1) scope.names []) (bindC (envOfC qual scope s.heap.objs.size f cd).kindOf (ps.zip us) fun _ => none) s1) :
    Inv (cxOf CX P w K mg base N qual scope f cd A outer s H E) [] (start N vs) H s1 := by
  have hpl : ps.length ≤ N.length := by have := congrArg List.length S.pre; rw [List.length_take] at this; omega
  obtain ⟨h1, tk, rfl, hk⟩ := x.done
  have noA : ∀ b : Addr, b ∉ (cxOf CX P w K mg base N qual scope f cd A outer s H E).ex := fun b z => absurd (show b ∈ ([] : List Addr) from z) (by simp)
  refine ⟨⟨e0.mod, S.kind, rfl, rfl, Nat.le_refl _, fun y z c h1 h2 => ?_, fun y hy => ?_, fun y c _ h => ?_, fun _ => hd, Around.frames_deeper e0.frames, .inr ⟨rfl, rfl⟩, fun b z => absurd z (noA b), e0.bs, e0.bsz, fun b _ _ => noA b, fun b z => absurd z (noA b), e0.funs, e0.frf⟩,
    rfl, e0.bare, Un.kept hk, ⟨_, x.toInCall.ns, fun i y v h1 h2 h3 => ?_⟩, fun y c h => ⟨_, x.cell y c h⟩, e0.hok.fresh (Nat.le_refl _), fun y c h => ?_, fun p hp => absurd (show p ∈ ([] : List (Addr × Obj)) from hp) (by simp), e0.hok.kept hk, ?_⟩
  · exact name_of_addr x.apart (PySem.mem_of_lookup h1) (PySem.mem_of_lookup h2)
  · have hy : scope.names.lookup y = some .cell ∨ scope.names.lookup y = some .free := hy
    rcases hy with hy | hy
    · exact cell_has hy
    · exact absurd rfl (S.nofree _ (PySem.mem_of_lookup hy))
  · exact Nat.le_of_lt (x.above y c (PySem.mem_of_lookup h))
  · have hi : i < vs.length := by
      unfold start at h2
      by_cases hi : i < vs.length
      · exact hi
      · rw [List.getElem?_append_right (by simpa using hi)] at h2
        rw [List.getElem?_replicate] at h2
        split at h2 <;> cases h2
    have ha : vs[i]? = some v := by
      unfold start at h2
      rw [List.getElem?_append_left (by simpa using hi), List.getElem?_map] at h2
      cases e : vs[i]? with
      | none => rw [e] at h2; cases h2
      | some a => rw [e] at h2; cases h2; rfl
    obtain ⟨u, hu, rv⟩ := r.get ha
    have hp : ps[i]? = some y := by
      rw [← S.pre, List.getElem?_take_of_lt (by omega)]; exact h1
    have ndP : ps.Nodup := by rw [← S.pre]; exact S.nd.sublist (List.take_sublist _ _)
    refine ⟨u, rv, ?_⟩
    rcases S.par y (List.mem_of_getElem? hp) with k | k
    · exact .inl ⟨k, bindL_get ndP hp hu k⟩
    · obtain ⟨c, e⟩ := cell_has (n := s.heap.objs.size + 1) k
      refine .inr ⟨.inl k, c, e, ?_⟩
      have q := x.cell y c e
      rw [bindC_get ndP hp hu (by show scope.names.lookup y ≠ _; rw [k]; decide)] at q
      exact q
  · exact e0.hok.fresh (Nat.le_of_lt (x.above y c (PySem.mem_of_lookup h)))
  · unfold start
    show _ = N.length
    rw [List.length_append, List.length_map, List.length_replicate]
    omega
theorem fn_of {CX : CXT} {P : Program} {w : World} {K : PySem.W.Frag} {mg : Str → Option Value} {base : Heap} {k : Nat} {f : Addr} {name qual : Str} {params : Arguments} {body : List Stmt} {scope : Scope} {dV kV doc pm cdv ct oc : Value} {an od : Option Addr}
    {osl : Array (Option Value)} {N ps : List Str} {sp : Sp} (lk : K.lookup f = some ⟨oc, od, .func (PySem.W.fnOf name qual params body scope dV kV doc pm an cdv ct), osl⟩) (hcd : PySem.W.codeIn K cdv qual = true) (S : FnScope N ps scope)
    (len : ∀ vs H Q E, sp vs H Q E → vs.length = ps.length)
    (hbody : ∀ (A : Around) (outer : List Env) (s : Shared) (H : Hp) (vs : List V) (Q : VK) (E : XK), Room k (A.deeper (envOfC qual scope s.heap.objs.size f cdv)) → sp vs H Q E →
      ∃ t, PSs (cxOf CX P w K mg base N qual scope f cdv A outer s H E) body t ∧ t { nx := fun _ H' => Q .non H', rt := Q } (start N vs) H) :
    FnOk P w K mg base CX (k + 1) f (PySem.W.fnOf name qual params body scope dV kV doc pm an cdv ct) ps sp := by
  refine ⟨len, fun A outer s H args us vs Q E hr e0 hb r hsp => ?_⟩
  have hl := len _ _ _ _ hsp
  have KX : K.In s.heap := e0.mod.kin.keeps fun b o e => (e0.bs b o e).1
  have lim : s.heap.NoLimit := e0.mod.nolimit.keeps fun b o e => (e0.bs b o e).1
  have hkind : ∀ y ∈ ps.zip us, scope.names.lookup y.1 = some .local ∨ (scope.names.lookup y.1 = some .cell ∧ ((cellsFrom (s.heap.objs.size + 1) scope.names []).lookup y.1).isSome = true) := fun ⟨n, v⟩ hy => by
    rcases S.par n (List.of_mem_zip hy).1 with q | q
    · exact .inl q
    · exact .inr ⟨q, PySem.W.cellsFrom_some _ _ _ (.inl q)⟩
  refine codeAny_call_function hr.depth (KX _ _ lk) rfl S.co S.gen rfl (PySem.W.codeRec_of KX hcd) (hb _ _ _ _ ?_)
  refine wpAny_newFunctionEnv_cells S.kind hkind fun env he s1 x => ?_
  subst he
  refine ⟨lim.keeps x.toInCall.keep, codeAny_func ?_⟩
  obtain ⟨t, ht, hq⟩ := hbody A outer s H vs Q E (hr.deeper _) hsp
  have I : Inv (cxOf CX P w K mg base N qual scope f cdv A outer s H E) [] (start N vs) H s1 := inv_start S hr.hd e0 hl r x
  refine wpAny_mono (ht [] s1 (start N vs) H _ I hq) (fun fl s' hs => ?_) fun e s' hs => hs
  have fin : ∀ {σ' : St} {H' : Hp} {v : V} {u : Value}, Inv (cxOf CX P w K mg base N qual scope f cdv A outer s H E) [] σ' H' s' → RelV v u → Q v H' → CE outer P w H s Q u s' :=
    fun {σ' H' v u} J rv q => ⟨v, H', J.os, J.bare, J.base, J.hok, rv, q⟩
  cases fl with
  | ret u =>
    obtain ⟨v, σ', H', J, rv, q⟩ := hs
    exact fin J rv q
  | next =>
    obtain ⟨σ', H', J, q⟩ := hs
    exact fin (v := V.non) (u := Value.none) J rfl q
  | brk =>
    obtain ⟨_, _, _, q⟩ := hs
    exact False.elim q
  | cont =>
    obtain ⟨_, _, _, q⟩ := hs
    exact False.elim q
end L2
namespace L2
open PySem PySem.Spec PyProof.Rows
section
variable {X : Cx} {x : Str} {p pos : Pos} {e : Expr} {es : List Expr} {t : TA} {id T : String} {r : List V → Hp → VK → Prop}
def tCB (r : List V → Hp → VK → Prop) (t : TA) : TE := fun σ H Q => t σ H fun vs H1 => r vs H1 Q
theorem pe_callB (hc : CallR X (.builtin id) r) (hg : Gl X x) (hm : X.mg x = none) (hv : bootBuiltins x = some (.builtin id)) (ha : PA X (e :: es) t) (hn : x ≠ "__name__" := by decide) (hdb : (x == ("__debug__" : Str)) = false := by decide)
    (he : starEach (e :: es) X.env = (false, eval e X.env) :: starEach es X.env := by rfl) (hpl : (backTo pos (starEach es X.env)).any (·.1) = false := by rfl) : PE X (.Call (.Name x p) (e :: es) [] pos) (tCB r t) := by
  intro pins s σ H Q I h
  refine wpAny_Call_Name_kw (ld_blt I hg hm hv ?_ hn hdb)
  exact PyProof.Rows.callWith_builtin1 (thn (ha pos pins s σ H _ I h) fun us s1 ⟨vs, H1, I1, r1, q1⟩ => hc pins s1 σ H1 vs us Q I1 r1 q1) he hpl
theorem pe_callTy (hc : CallR X (.type T) r) (hg : Gl X x) (hm : X.mg x = none) (hv : bootBuiltins x = some (.type T)) (ha : PA X (e :: es) t) (hn : x ≠ "__name__" := by decide) (hdb : (x == ("__debug__" : Str)) = false := by decide)
    (he : starEach (e :: es) X.env = (false, eval e X.env) :: starEach es X.env := by rfl) (hpl : (backTo pos (starEach es X.env)).any (·.1) = false := by rfl) : PE X (.Call (.Name x p) (e :: es) [] pos) (tCB r t) := by
  intro pins s σ H Q I h
  refine wpAny_Call_Name_kw (ld_blt I hg hm hv ?_ hn hdb)
  exact PyProof.Rows.callWith_type1 (thn (ha pos pins s σ H _ I h) fun us s1 ⟨vs, H1, I1, r1, q1⟩ => hc pins s1 σ H1 vs us Q I1 r1 q1) he hpl
end
end L2
namespace HT
open PySem PyProof.Rows
section
open PySem.SeqAt
open PySem.AutoSeq1 (wpAny_loadPart')
open PySem.MeetsSeq PySem.MeetsSeq2 PySem.MeetsSeq3
end
section
variable {prog : Program} {w : World} {A : Around} {E : Value → Shared → Prop} {s : Shared}
theorem cat_tup {t b : Addr} {vs ws : List Value} {Q : Value → Shared → Prop} (ht : IsTup s.heap t vs.toArray) (hb : IsTup s.heap b ws.toArray) (hv : vs ≠ [])
    (h1 : ws = [] → Q (.ref t) s) (h2 : ws ≠ [] → Q (.ref s.heap.objs.size) { s with heap := s.heap.push { cls := .type "tuple", data := .seq (vs ++ ws).toArray } })
    (hsz : vs.length + ws.length ≤ sizeLine) : wpAny (model prog w) A (binaryOp .Add (.ref t) (.ref b)) Q E s := by
  obtain ⟨⟨cls, dd, data, sl⟩, ho, hc, n, hd⟩ := id ht
  obtain ⟨⟨cls2, dd2, data2, sl2⟩, ho2, hc2, n2, hd2⟩ := id hb
  simp only at hc hd hc2 hd2
  subst hc hd hc2 hd2
  have e : vs.toArray ++ ws.toArray = (vs ++ ws).toArray := by simp
  by_cases hw : ws = []
  · exact concat_meets ⟨_, ho, rfl⟩ ⟨_, ho2, rfl⟩ noFill_tuple_add seq_tuple_add PySem.F.slot_tuple_add PySem.F.entry_tuple_add (PySem.F.args_tuple_add_2 _ _)
      (tuple_addW1 t b vs.toArray ws.toArray n n2 dd dd2 sl sl2 (by simpa using hv) (by simp [hw])) ⟨ho, ho2, h1 hw⟩
  · refine concat_meets ⟨_, ho, rfl⟩ ⟨_, ho2, rfl⟩ noFill_tuple_add seq_tuple_add PySem.F.slot_tuple_add PySem.F.entry_tuple_add (PySem.F.args_tuple_add_2 _ _)
      (tuple_addW2 t b vs.toArray ws.toArray n n2 dd dd2 sl sl2 (by simpa using hv) (by simpa using hw) (by rw [List.size_toArray, List.size_toArray]; exact hsz)) ⟨ho, ho2, ?_⟩
    rw [e]
    exact h2 hw
def sIx (n d : Nat) : Option Int → Nat
  | none => d
  | some v => if v < 0 then (v + (n : Int)).toNat else min v.toNat n
theorem sIx_none (n d : Nat) : sIx n d none = d := rfl
theorem sIx_nat (n d k : Nat) : sIx n d (some (k : Int)) = min k n := by
  show (if (k : Int) < 0 then ((k : Int) + (n : Int)).toNat else min (k : Int).toNat n) = min k n
  rw [if_neg (by omega), Int.toNat_natCast]
theorem sIx_le (n d : Nat) (hd : d ≤ n) (o : Option Int) : sIx n d o ≤ n := by
  cases o with
  | none => exact hd
  | some v =>
    show (if v < 0 then (v + (n : Int)).toNat else min v.toNat n) ≤ n
    by_cases hv : v < 0
    · rw [if_pos hv]; omega
    · rw [if_neg hv]; exact Nat.min_le_right _ _
theorem clip_eq (v : Int) (n d : Nat) : (if v < 0 then max (v + (n : Int)) 0 else min v (n : Int)) = ((sIx n d (some v) : Nat) : Int) := by
  show (if v < 0 then max (v + (n : Int)) 0 else min v (n : Int)) = (((if v < 0 then (v + (n : Int)).toNat else min v.toNat n) : Nat) : Int)
  by_cases hv : v < 0
  · simp only [if_pos hv]; omega
  · simp only [if_neg hv]; omega
theorem adjust_gen (lo hi : Option Int) (n : Nat) : Builtin.Slice.sliceAdjust lo hi 1 (n : Int) = (((sIx n 0 lo : Nat) : Int), ((sIx n n hi : Nat) : Int)) := by
  have h1 : ¬ ((1 : Int) < 0) := by omega
  unfold Builtin.Slice.sliceAdjust
  simp only [h1, if_false]
  refine Prod.ext ?_ ?_
  · cases lo with
    | none => rfl
    | some v => exact clip_eq v n 0
  · cases hi with
    | none => rfl
    | some v => exact clip_eq v n n
theorem places_gen (i j : Nat) : Builtin.Slice.slicePlaces (i : Int) (j : Int) 1 = j - i := by
  unfold Builtin.Slice.slicePlaces
  have h1 : (1 : Int) > 0 := by omega
  simp only [h1, if_true, Int.ediv_one]
  split <;> omega
theorem slicePart_ {v : Value} {o : Option Int} {Q : Option Int → Shared → Prop} (p : IsPart v o) (h : Q o s) : wpAny (model prog w) A (Builtin.Slice.slicePartIndex v) Q E s := by
  cases p with
  | none => exact slicePart_none h
  | int i t => exact slicePart_int h
theorem sliceApplied_gen {sl : Addr} {vl vu : Value} {lo hi : Option Int} {n : Nat} {Q : Int × Int × Nat → Shared → Prop} (hs : s.heap.IsSliceOf sl vl vu .none) (pl : IsPart vl lo) (pu : IsPart vu hi)
    (h : Q (((sIx n 0 lo : Nat) : Int), 1, sIx n n hi - sIx n 0 lo) s) : wpAny (model prog w) A (Builtin.Slice.sliceApplied (.ref sl) (pure (n : Int))) Q E s := by
  obtain ⟨os, hos, hcs, hds⟩ := id hs
  unfold Builtin.Slice.sliceApplied Builtin.Slice.sliceFields
  refine wpAny_bind (wpAny_bind (wpAny_field hos hds (x := vl) rfl (wpAny_bind (wpAny_field hos hds (x := vu) rfl (wpAny_bind (wpAny_field hos hds (x := .none) rfl (wpAny_pure ?_)))))))
  refine wpAny_bind (slicePart_none ?_)
  show wpAny _ _ (if ((1 : Int) == 0) = true then _ else _) _ _ s
  rw [if_neg (by decide)]
  refine wpAny_bind (slicePart_ pl (wpAny_bind (slicePart_ pu (wpAny_bind (wpAny_pure ?_)))))
  show wpAny _ _ (match Builtin.Slice.sliceAdjust lo hi 1 (n : Int) with | (lo, hi) => pure (lo, (1 : Int), Builtin.Slice.slicePlaces lo hi 1)) _ _ s
  rw [adjust_gen lo hi n]
  show wpAny _ _ (pure (((sIx n 0 lo : Nat) : Int), (1 : Int), Builtin.Slice.slicePlaces ((sIx n 0 lo : Nat) : Int) ((sIx n n hi : Nat) : Int) 1)) _ _ s
  rw [places_gen]
  exact wpAny_pure h
theorem pick_gen (xs : Array Value) (i k : Nat) : ((List.range k).filterMap fun (m : Nat) => xs[((i : Int) + (m : Int) * 1).toNat]?).toArray = ((xs.toList.drop i).take k).toArray := by
  have e : (fun (m : Nat) => xs[((i : Int) + (m : Int) * 1).toNat]?) = fun m => xs[i + m]? := by
    funext m
    have : ((i : Int) + (m : Int) * 1).toNat = i + m := by omega
    rw [this]
  rw [e]
  have := pick_run xs i k
  rw [List.filterMap_map] at this
  have e2 : ((fun x => xs[x]?) ∘ fun x => i + x) = fun m => xs[i + m]? := rfl
  rw [e2] at this
  rw [this]
theorem getItem_tuple_cut {t sl : Addr} {items : Array Value} {vl vu : Value} {lo hi : Option Int} {Q : Value → Shared → Prop} (ht : IsTup s.heap t items) (hs : s.heap.IsSliceOf sl vl vu .none) (pl : IsPart vl lo) (pu : IsPart vu hi)
    (hw : ¬ (sIx items.size 0 lo = 0 ∧ sIx items.size items.size hi = items.size))
    (h : Q (.ref s.heap.objs.size) { s with heap := s.heap.push { cls := .type "tuple", data := .seq ((items.toList.drop (sIx items.size 0 lo)).take (sIx items.size items.size hi - sIx items.size 0 lo)).toArray } })
    (hsz : items.size ≤ sizeLine) : wpAny (model prog w) A (getItem (.ref t) (.ref sl)) Q E s := by
  have htake : sizeOk (.seq ((items.toList.drop (sIx items.size 0 lo)).take (sIx items.size items.size hi - sIx items.size 0 lo)).toArray) := by
    show ((items.toList.drop (sIx items.size 0 lo)).take (sIx items.size items.size hi - sIx items.size 0 lo)).toArray.size ≤ sizeLine
    rw [List.size_toArray, List.length_take, List.length_drop, Array.length_toList]
    omega
  have hj : sIx items.size items.size hi ≤ items.size := sIx_le _ _ (Nat.le_refl _) hi
  obtain ⟨os, hos, hcs, hds⟩ := id hs
  have hTs : s.TypeIs (.ref sl) "slice" := ⟨os, hos, hcs⟩
  unfold getItem
  try with_reducible refine wpAny_holding ?_
  first | refine wpAny_bind (wpAny_pure ?_) | skip
  refine wpAny_bind (wpAny_sequenceKey ht.typeIs (by decide) ?_)
  refine wpAny_bind (wpAny_callSpecial?_slot (name := Str.ofString "__getitem__") ht.typeIs PyProof.Rows.slot_tuple_getitem
    (wpAny_call_entry PyProof.Rows.slot_tuple_getitem ht.typeIs entry_tuple_getitem ?_ (args_tuple_getitem _ _)))
  show wpAny _ _ (Builtin.Tuple.tupleItemsOf (.ref t) >>= _) _ _ s
  refine wpAny_bind (tupleItemsOf_ ht ?_)
  refine wpAny_bind (wpAny_typeOf hTs ?_)
  rw [if_pos (by decide)]
  refine wpAny_bind (sliceApplied_gen hs pl pu ?_)
  have hno : ¬ ((((sIx items.size 0 lo : Nat) : Int) == 0 && (1 : Int) == 1 && (sIx items.size items.size hi - sIx items.size 0 lo) == items.size) = true) := by
    intro q
    rw [Bool.and_eq_true, Bool.and_eq_true] at q
    have q1 : ((sIx items.size 0 lo : Nat) : Int) = 0 := eq_of_beq q.1.1
    have q2 : sIx items.size items.size hi - sIx items.size 0 lo = items.size := eq_of_beq q.2
    exact hw ⟨by omega, by omega⟩
  show wpAny _ _ (if (((sIx items.size 0 lo : Nat) : Int) == 0 && (1 : Int) == 1 && (sIx items.size items.size hi - sIx items.size 0 lo) == items.size) = true then _ else _) _ _ s
  rw [if_neg hno, pick_gen]
  first
    | exact wpAny_bind (m := Builtin.Tuple.tupleExact _) (wpAny_newObj_type (wpAny_pure ⟨_, rfl, wpAny_pure h⟩) htake)
    | exact wpAny_bind (m := Builtin.Tuple.tupleExact _) (wpAny_newObj_type (wpAny_bind (wpAny_pure (wpAny_pure ⟨_, rfl, wpAny_pure h⟩))) htake)
    | exact wpAny_bind (wpAny_bind (m := Builtin.Tuple.tupleExact _) (wpAny_newObj_type (wpAny_pure (wpAny_pure ⟨_, rfl, wpAny_pure h⟩)) htake))
    | exact wpAny_bind (wpAny_bind (m := Builtin.Tuple.tupleExact _) (wpAny_newObj_type (wpAny_pure ⟨_, rfl, wpAny_pure h⟩) htake))
end
end HT
namespace L2
open PySem PySem.Spec PyProof.Rows
abbrev TO := St → Hp → (Option Int → Hp → Prop) → Prop
def PO (X : Cx) (e : Option Expr) (t : TO) : Prop :=
  ∀ (pins : List (Addr × Obj)) (s : Shared) (σ : St) (H : Hp) (Q : Option Int → Hp → Prop), Inv X pins σ H s → t σ H Q →
    wpAny (model X.prog X.w) X.A (evalPart e X.env) (fun u s' => ∃ o H', Inv X pins σ H' s' ∧ IsPart u o ∧ Q o H') X.xe s
def tNoPart : TO := fun _ H Q => Q none H
def tPart (t : TE) : TO := fun σ H Q => t σ H fun x H1 => ∃ i, x = .int i ∧ Q (some i) H1
section
variable {X : Cx} {e : Expr} {te : TE} {lo hi : Option Expr} {tl th : TO} {pos p2 : Pos}
theorem po_none : PO X none tNoPart := by
  intro pins s σ H Q I h
  rw [evalPart_none]
  exact wpAny_pure ⟨none, H, I, .none, h⟩
theorem po_some (h : PE X e te) : PO X (some e) (tPart te) := by
  intro pins s σ H Q I hw
  rw [evalPart_some]
  refine thn (h pins s σ H _ I hw) fun u s1 ⟨x, H1, I1, r1, q1⟩ => ?_
  obtain ⟨i, rfl, q⟩ := q1
  obtain ⟨t, rfl⟩ := r1
  exact ⟨some i, H1, I1, .int i t, q⟩
def SlR (X : Cx) (r : V → Option Int → Option Int → Hp → VK → Prop) : Prop :=
  ∀ (pins : List (Addr × Obj)) (s : Shared) (σ : St) (H : Hp) (x : V) (v vl vu : Value) (lo hi : Option Int) (sl : Addr) (Q : VK), Inv X pins σ H s → RelV x v → s.heap.IsSliceOf sl vl vu .none → IsPart vl lo → IsPart vu hi → r x lo hi H Q →
    ∃ T id, typeLookup (.type T) "__getitem__" = pure (some (.builtin id)) ∧ s.TypeIs v T ∧ wpAny (model X.prog X.w) X.A (getItem v (.ref sl)) (EP X pins σ Q) X.xe s
def tSl (r : V → Option Int → Option Int → Hp → VK → Prop) (te : TE) (tl th : TO) : TE := fun σ H Q => te σ H fun x H1 => tl σ H1 fun l H2 => th σ H2 fun u H3 => r x l u H3 Q
theorem pe_slice {r : V → Option Int → Option Int → Hp → VK → Prop} (hr : SlR X r) (he : PE X e te) (hl : PO X lo tl) (hu : PO X hi th) : PE X (.Subscript e (.Slice lo hi none p2) pos) (tSl r te tl th) := by
  intro pins s σ H Q I h
  refine Subscript_ (thn (he pins s σ H _ I h) fun v s1 ⟨x, H1, I1, r1, q1⟩ => ?_)
  refine wpAny_Slice (thn (hl pins s1 σ H1 _ I1 q1) fun vl s2 ⟨l, H2, I2, pl, q2⟩ => thn (hu pins s2 σ H2 _ I2 q2) fun vu s3 ⟨u, H3, I3, pu, q3⟩ => ?_)
  rw [evalPart_none]
  refine wpAny_pure ?_
  have I4 : Inv X pins σ H3 { s3 with heap := s3.heap.push { cls := .type "slice", data := .fields #[vl, vu, .none] } } := I3.kept (t' := s3.toks) fun b ob q => Heap.get?_push_of_some _ q
  obtain ⟨T, id, hT, ht, hg⟩ := hr pins { s3 with heap := s3.heap.push { cls := .type "slice", data := .fields #[vl, vu, .none] } } σ H3 x v vl vu l u s3.heap.objs.size Q I4 r1 (Heap.IsSliceOf.new ..) pl pu q3
  show wpAny (model X.prog X.w) X.A (subscriptTail e (.Slice lo hi none p2) v (.ref s3.heap.objs.size)) (EP X pins σ Q) X.xe { s3 with heap := s3.heap.push { cls := .type "slice", data := .fields #[vl, vu, .none] } }
  exact tail_any (ops := [.ref s3.heap.objs.size, v]) ht hT hg (by with_unfolding_all rfl)
def cutV (xs : List V) (lo hi : Option Int) : List V := (xs.drop (HT.sIx xs.length 0 lo)).take (HT.sIx xs.length xs.length hi - HT.sIx xs.length 0 lo)
theorem cutV_length (xs : List V) (lo hi : Option Int) : (cutV xs lo hi).length ≤ xs.length := by
  unfold cutV
  rw [List.length_take, List.length_drop]
  omega
def rSlT (K : PySem.W.Frag) : V → Option Int → Option Int → Hp → VK → Prop := fun x lo hi H Q => ∃ a xs, x = .ref a ∧ SqT K H a xs ∧
  ¬ (HT.sIx xs.length 0 lo = 0 ∧ HT.sIx xs.length xs.length hi = xs.length) ∧ ∀ p, H p = none → Q (.ref p) (upd H p (.tup (cutV xs lo hi)))
theorem sl_tup : SlR X (rSlT X.K) := by
  intro pins s σ H x v vl vu lo hi sl Q I rx hs pl pu h
  obtain ⟨a, xs, rfl, hx, hw, q⟩ := h
  cases rx
  obtain ⟨its, r, ht, hz⟩ := I.tuple hx
  have hlen : its.toArray.size = xs.length := by rw [List.size_toArray]; exact r.length.symm
  refine ⟨"tuple", _, PyProof.Rows.slot_tuple_getitem.lookup, ht.typeIs, ?_⟩
  refine HT.getItem_tuple_cut ht hs pl pu (by rw [hlen]; exact hw) ?_ (by rw [hlen]; exact hz)
  rw [hlen]
  refine ⟨.ref s.heap.objs.size, _, I.laid (t' := s.toks) (o := .tup (cutV xs lo hi)) (fun b ob q => Heap.get?_push_of_some _ q) (Nat.le_refl _) ?_, rfl, q _ (I.hok.fresh (Nat.le_refl _))⟩
  exact ⟨Nat.le_trans (cutV_length xs lo hi) hz, _, (r.drop (HT.sIx xs.length 0 lo)).take (HT.sIx xs.length xs.length hi - HT.sIx xs.length 0 lo), IsTup.new _ _⟩
def rCatT (K : PySem.W.Frag) : R2 := fun x y H Q => ∃ a b xs ys, x = .ref a ∧ y = .ref b ∧ SqT K H a xs ∧ SqT K H b ys ∧ xs ≠ [] ∧ xs.length + ys.length ≤ sizeLine ∧
  (ys = [] → Q (.ref a) H) ∧ (ys ≠ [] → ∀ p, H p = none → Q (.ref p) (upd H p (.tup (xs ++ ys))))
theorem Vals.nil_iff {xs : List V} {us : List Value} (r : Vals xs us) : us = [] ↔ xs = [] := by
  cases r with
  | nil => simp
  | cons _ _ => simp
theorem op_catT : OpR X (binaryOp .Add) (rCatT X.K) := by
  intro pins s σ H x y v u Q I rx ry h
  obtain ⟨a, b, xs, ys, rfl, rfl, ha, hb, hx, hz, q1, q2⟩ := h
  cases rx
  cases ry
  obtain ⟨its, r1, p1, _⟩ := I.tuple ha
  obtain ⟨its2, r2, p2, _⟩ := I.tuple hb
  refine HT.cat_tup p1 p2 (fun z => hx (r1.nil_iff.mp z)) (fun z => ⟨.ref a, H, I, rfl, q1 (r2.nil_iff.mp z)⟩) (fun z => ?_) (by rw [← r1.length, ← r2.length]; exact hz)
  refine ⟨.ref s.heap.objs.size, _, I.laid (t' := s.toks) (o := .tup (xs ++ ys)) (fun b ob q => Heap.get?_push_of_some _ q) (Nat.le_refl _) ?_, rfl, q2 (fun w => z (r2.nil_iff.mpr w)) _ (I.hok.fresh (Nat.le_refl _))⟩
  exact ⟨by rw [List.length_append]; exact hz, _, r1.append r2, IsTup.new _ _⟩
end
end L2
namespace L2
open PySem PySem.Spec PyProof.Rows
def ixN (n : Nat) (i : Int) : Option Nat := if 0 ≤ i then (if i < n then some i.toNat else none) else if -(n : Int) ≤ i then some (i + n).toNat else none
def atI {α : Type} (xs : List α) (i : Int) : Option α := (ixN xs.length i).bind fun j => xs[j]?
theorem ixN_seq {n : Nat} {i : Int} {j : Nat} (h : ixN n i = some j) : seqIndex? i n = some j ∧ j < n ∧ -(n : Int) ≤ i ∧ i < n := by
  unfold ixN at h
  by_cases h0 : 0 ≤ i
  · rw [if_pos h0] at h
    by_cases h1 : i < n
    · rw [if_pos h1] at h
      have e : i.toNat = j := Option.some.inj h
      exact ⟨by rw [seqIndex_of h0 h1, e], by omega, by omega, h1⟩
    · rw [if_neg h1] at h; cases h
  · rw [if_neg h0] at h
    by_cases h1 : -(n : Int) ≤ i
    · rw [if_pos h1] at h
      have e : (i + n).toNat = j := Option.some.inj h
      exact ⟨by rw [seqIndex_neg (by omega) h1, e], by omega, h1, by omega⟩
    · rw [if_neg h1] at h; cases h
theorem atI_get {α : Type} {xs : List α} {i : Int} {v : α} (h : atI xs i = some v) : ∃ j, seqIndex? i xs.length = some j ∧ xs[j]? = some v ∧ j < xs.length ∧ -(xs.length : Int) ≤ i ∧ i < xs.length := by
  unfold atI at h
  cases e : ixN xs.length i with
  | none => rw [e] at h; cases h
  | some j =>
    rw [e] at h
    obtain ⟨h1, h2, h3, h4⟩ := ixN_seq e
    exact ⟨j, h1, h, h2, h3, h4⟩
theorem atI_nat {α : Type} {xs : List α} {j : Nat} {v : α} (h : xs[j]? = some v) : atI xs (j : Int) = some v := by
  have hj : j < xs.length := (List.getElem?_eq_some_iff.mp h).1
  have e : ixN xs.length (j : Int) = some j := by
    unfold ixN
    rw [if_pos (by omega), if_pos (by omega)]; simp
  unfold atI; rw [e]; exact h
def PlainIx (b : Expr) : Prop := ∀ o i, subscripted b false o i = operate [o, i] (getItem o i)
def IxR (X : Cx) (r : R2) : Prop :=
  ∀ (value slice : Expr) (pins : List (Addr × Obj)) (s : Shared) (σ : St) (H : Hp) (x y : V) (v u : Value) (Q : VK), Inv X pins σ H s → RelV x v → RelV y u → r x y H Q →
    subscripted slice false v u = operate [v, u] (getItem v u) → wpAny (model X.prog X.w) X.A (subscriptTail value slice v u) (EP X pins σ Q) X.xe s
def MtR (X : Cx) (id : String) (r : V → List V → Hp → VK → Prop) : Prop :=
  ∀ (pins : List (Addr × Obj)) (s : Shared) (σ : St) (H : Hp) (x : V) (xs : List V) (v : Value) (us : List Value) (Q : VK), Inv X pins σ H s → RelV x v → Vals xs us → r x xs H Q →
    wpAny (model X.prog X.w) X.A (call (.builtin id) (v :: us)) (EP X pins σ Q) X.xe s
section
variable {X : Cx} {a b : Expr} {ta tb : TE} {pos : Pos}
theorem pe_ix {r : R2} (hr : IxR X r) (ha : PE X a ta) (hb : PE X b tb) (hs : PlainIx b) : PE X (.Subscript a b pos) (tOp r ta tb) := by
  intro pins s σ H Q I h
  exact Subscript_ (binT ha hb I h fun v u s2 x y H2 I2 rx ry q => hr a b pins s2 σ H2 x y v u Q I2 rx ry q (hs _ _))
def rIxL (K : PySem.W.Frag) : R2 := fun x y H Q => ∃ p xs i v, x = .ref p ∧ y = .int i ∧ SqL K H p xs ∧ atI xs i = some v ∧ Q v H
def rIxT (K : PySem.W.Frag) : R2 := fun x y H Q => ∃ p xs i v, x = .ref p ∧ y = .int i ∧ SqT K H p xs ∧ atI xs i = some v ∧ Q v H
theorem ix_list : IxR X (rIxL X.K) := by
  intro value slice pins s σ H x y v u Q I rx ry h hs
  obtain ⟨p, xs, i, z, rfl, rfl, hq, he, q⟩ := h
  cases rx
  obtain ⟨t, rfl⟩ := ry
  obtain ⟨its, r, pl, hz⟩ := I.list hq
  obtain ⟨j, h1, h2, h3, h4, h5⟩ := atI_get he
  obtain ⟨w, ew, rw'⟩ := r.get h2
  have hl := r.length
  have hn := line63
  have fin : EP X pins σ Q w s := ⟨z, H, I, rw', q⟩
  by_cases h0 : 0 ≤ i
  · have hj : i.toNat = j := by
      rw [seqIndex_of h0 h5] at h1
      exact Option.some.inj h1
    exact item_listR pl.isList h0 (by omega) (by rw [hj]; simpa using ew) fin hs
  · have hj : (i + (its.toArray.size : Int)).toNat = j := by
      rw [seqIndex_neg (by omega) h4] at h1
      rw [List.size_toArray, ← hl]
      exact Option.some.inj h1
    exact subscriptTail_builtinR (x := w) pl.isList.typeIs slot_list_getitem.lookup
      (wpAny_getItem_list_neg (Q := fun r s' => r = w ∧ EP X pins σ Q r s') pl.isList (by omega) (by rw [List.size_toArray] <;> omega) (by omega) (by rw [hj]; simpa using ew) ⟨rfl, fin⟩) hs
theorem ix_tup : IxR X (rIxT X.K) := by
  intro value slice pins s σ H x y v u Q I rx ry h hs
  obtain ⟨p, xs, i, z, rfl, rfl, hq, he, q⟩ := h
  cases rx
  obtain ⟨t, rfl⟩ := ry
  obtain ⟨its, r, pl, hz⟩ := I.tuple hq
  obtain ⟨j, h1, h2, h3, h4, h5⟩ := atI_get he
  obtain ⟨w, ew, rw'⟩ := r.get h2
  have hl := r.length
  have hn := line63
  have fin : EP X pins σ Q w s := ⟨z, H, I, rw', q⟩
  exact subscriptTail_builtinR (x := w) pl.typeIs slot_tuple_getitem.lookup
    (getItem_tuple (j := j) (Q := fun r s' => r = w ∧ EP X pins σ Q r s') pl (by omega) (by omega) (by rw [List.size_toArray, ← hl]; exact h1) (by simpa using ew) ⟨rfl, fin⟩) hs
theorem mapSeq_set (its : List Value) (n j : Nat) (u : Value) : Obj.mapSeq (·.setIfInBounds j u) { cls := .type "list", data := .seq its.toArray n } = { cls := .type "list", data := .seq (its.set j u).toArray n } := by
  simp [Obj.mapSeq]
theorem Inv.lst {pins : List (Addr × Obj)} {σ : St} {H : Hp} {s : Shared} {p : Addr} {xs : List V} (I : Inv X pins σ H s) (h : H p = some (.lst xs)) :
    ∃ (its : List Value) (n : Nat), Vals xs its ∧ s.heap.get? p = some { cls := .type "list", data := .seq its.toArray n } ∧ xs.length ≤ sizeLine := by
  obtain ⟨z, its, n, r, e⟩ := I.hok p _ h
  exact ⟨its, n, r, e, z⟩
theorem Inv.lstUpd {pins : List (Addr × Obj)} {σ : St} {H : Hp} {s : Shared} {p : Addr} {xs ys : List V} {its its' : List Value} {n n' : Nat} {f : Obj → Obj} (I : Inv X pins σ H s) (h : H p = some (.lst xs))
    (ho : s.heap.get? p = some { cls := .type "list", data := .seq its.toArray n }) (hf : f { cls := .type "list", data := .seq its.toArray n } = { cls := .type "list", data := .seq its'.toArray n' }) (r : Vals ys its') (hz : ys.length ≤ sizeLine) (t : Nat) :
    Inv X pins σ (upd H p (.lst ys)) { s with heap := s.heap.update p f, toks := t } := by
  have e : (s.heap.update p f).get? p = some { cls := .type "list", data := .seq its'.toArray n' } := by
    rw [Heap.get?_update_self f ho (by rw [hf] <;> rfl), hf]
  refine I.write (x := p) (e := p) (by rw [h]; trivial) (.inl rfl) (fun b u hb q => (Heap.get?_update_other _ _ (Ne.symm hb)).trans q) ⟨_, e⟩ ?_
  exact ⟨hz, its', n', r, e⟩
def rSetL : V → V → V → Hp → (Hp → Prop) → Prop := fun o i v H Q => ∃ p xs k j, o = .ref p ∧ i = .int k ∧ H p = some (.lst xs) ∧ ixN xs.length k = some j ∧ Q (upd H p (.lst (xs.set j v)))
theorem set_list : PSet X rSetL := by
  intro pins s σ H o i v ov iv u Q I ro ri rv h
  obtain ⟨p, xs, k, j, rfl, rfl, hp, hj, q⟩ := h
  cases ro
  obtain ⟨t, rfl⟩ := ri
  obtain ⟨its, n, r, ho, hz⟩ := I.lst hp
  obtain ⟨h1, h2, h3, h4⟩ := ixN_seq hj
  have hl := r.length
  have hn := line63
  have I' : Inv X pins σ (upd H p (.lst (xs.set j v))) { s with heap := s.heap.update p (Obj.mapSeq (·.setIfInBounds j u)) } :=
    I.lstUpd hp ho (mapSeq_set its n j u) (r.set rv j) (by rw [List.length_set]; exact hz) s.toks
  by_cases h0 : 0 ≤ k
  · have hk : k.toNat = j := by
      rw [seqIndex_of h0 h4] at h1
      exact Option.some.inj h1
    exact PySem.W.ki_setAt ho h0 (by omega) (by rw [List.size_toArray, ← hl]; exact h4) (by rw [hk]; exact ⟨_, I', q⟩)
  · have hk : (k + (its.toArray.size : Int)).toNat = j := by
      rw [seqIndex_neg (by omega) h3] at h1
      rw [List.size_toArray, ← hl]
      exact Option.some.inj h1
    exact PySem.W.ki_setBack ho (by omega) (by rw [List.size_toArray, ← hl]; exact h3) (by omega) (by rw [hk]; exact ⟨_, I', q⟩)
theorem slice_bounds (lo hi : Option Int) (n : Nat) : (sliceBounds lo hi none n).1 = ((HT.sIx n 0 lo : Nat) : Int) ∧ (sliceBounds lo hi none n).2.1 = ((HT.sIx n n hi : Nat) : Int) ∧ (sliceBounds lo hi none n).2.2 = 1 := by
  refine ⟨?_, ?_, rfl⟩
  · cases lo with
    | none => simp [sliceBounds, HT.sIx]
    | some i =>
      simp only [sliceBounds, HT.sIx, Option.getD_none, show (1 : Int) > 0 by decide, if_true]
      by_cases h : i < 0
      · simp only [h, if_true] <;> omega
      · simp only [h, if_false] <;> omega
  · cases hi with
    | none => simp [sliceBounds, HT.sIx]
    | some i =>
      simp only [sliceBounds, HT.sIx, Option.getD_none, show (1 : Int) > 0 by decide, if_true]
      by_cases h : i < 0
      · simp only [h, if_true] <;> omega
      · simp only [h, if_false] <;> omega
theorem slicePick_cut (its : List Value) (lo hi : Option Int) : slicePick its.toArray lo hi none = ((its.drop (HT.sIx its.length 0 lo)).take (HT.sIx its.length its.length hi - HT.sIx its.length 0 lo)).toArray := by
  obtain ⟨h1, h2, h3⟩ := slice_bounds lo hi its.toArray.size
  unfold slicePick
  rw [h1, h2, h3]
  simp only [sliceRange_one, pick_run, List.size_toArray] <;> rfl
def rSlL (K : PySem.W.Frag) : V → Option Int → Option Int → Hp → VK → Prop := fun x lo hi H Q => ∃ a xs, x = .ref a ∧ SqL K H a xs ∧ ∀ p, H p = none → Q (.ref p) (upd H p (.lst (cutV xs lo hi)))
theorem sl_list : SlR X (rSlL X.K) := by
  intro pins s σ H x v vl vu lo hi sl Q I rx hs pl pu h
  obtain ⟨a, xs, rfl, hx, q⟩ := h
  cases rx
  obtain ⟨its, r, ht, hz⟩ := I.list hx
  have hlen := r.length
  refine ⟨"list", _, slot_list_getitem.lookup, ht.isList.typeIs, ?_⟩
  refine wpAny_getItem_list_slice ht.isList hs pl pu .none (by simp) ?_ (by rw [List.size_toArray] <;> omega)
  rw [slicePick_cut, ← hlen]
  refine ⟨.ref s.heap.objs.size, _, I.laid (t' := s.toks) (o := .lst (cutV xs lo hi)) (fun b ob q => Heap.get?_push_of_some _ q) (Nat.le_refl _) ?_, rfl, q _ (I.hok.fresh (Nat.le_refl _))⟩
  exact ⟨Nat.le_trans (cutV_length xs lo hi) hz, _, 0, (r.drop (HT.sIx xs.length 0 lo)).take (HT.sIx xs.length xs.length hi - HT.sIx xs.length 0 lo), Heap.get?_push_size _ rfl⟩
def flatV : V → Bool
  | .non => true
  | .bl _ => true
  | .int _ => true
  | .str _ => true
  | _ => false
def eqV : V → V → Bool
  | .non, .non => true
  | .bl a, .bl b => a == b
  | .bl a, .int b => (if a then 1 else 0) == b
  | .int a, .bl b => a == (if b then 1 else 0)
  | .int a, .int b => a == b
  | .str a, .str b => a == b
  | _, _ => false
theorem eqAt_V {A : Around} {s : Shared} {y x : V} {u v : Value} (ry : RelV y u) (rx : RelV x v) (fy : flatV y = true) (fx : flatV x = true) : SeqAt.EqAt A s u v (eqV y x) := by
  cases y with
  | non =>
    cases ry
    cases x with
    | non => cases rx; exact SeqAt.EqAt.same _
    | bl b => cases rx; exact SeqAt.EqAt.none_bool b
    | int b => obtain ⟨t, rfl⟩ := rx; exact SeqAt.EqAt.none_int b t
    | str b => obtain ⟨t, rfl⟩ := rx; exact SeqAt.EqAt.none_str b t
    | _ => exact absurd (show false = true from fx) Bool.false_ne_true
  | bl a =>
    cases ry
    cases x with
    | non => cases rx; exact SeqAt.EqAt.bool_none a
    | bl b => cases rx; exact SeqAt.EqAt.bool_bool a b
    | int b => obtain ⟨t, rfl⟩ := rx; exact SeqAt.EqAt.bool_int a b t
    | str b => obtain ⟨t, rfl⟩ := rx; exact SeqAt.EqAt.bool_str a b t
    | _ => exact absurd (show false = true from fx) Bool.false_ne_true
  | int a =>
    obtain ⟨t', rfl⟩ := ry
    cases x with
    | non => cases rx; exact SeqAt.EqAt.int_none a t'
    | bl b => cases rx; exact SeqAt.EqAt.int_bool a t' b
    | int b => obtain ⟨t, rfl⟩ := rx; exact SeqAt.EqAt.int_int a t' b t
    | str b => obtain ⟨t, rfl⟩ := rx; exact SeqAt.EqAt.int_str a t' b t
    | _ => exact absurd (show false = true from fx) Bool.false_ne_true
  | str a =>
    obtain ⟨t', rfl⟩ := ry
    cases x with
    | non => cases rx; exact SeqAt.EqAt.str_none a t'
    | bl b => cases rx; exact SeqAt.EqAt.str_bool a t' b
    | int b => obtain ⟨t, rfl⟩ := rx; exact SeqAt.EqAt.str_int a t' b t
    | str b => obtain ⟨t, rfl⟩ := rx; exact SeqAt.EqAt.str_str a t' b t
    | _ => exact absurd (show false = true from fx) Bool.false_ne_true
  | _ => exact absurd (show false = true from fy) Bool.false_ne_true
def eqU (x : V) (u : Value) : Bool := match u with
  | .none => eqV .non x
  | .bool b => eqV (.bl b) x
  | .int i _ => eqV (.int i) x
  | .str z _ => eqV (.str z) x
  | _ => false
theorem eqU_of {x y : V} {u : Value} (r : RelV y u) (f : flatV y = true) : eqU x u = eqV y x := by
  cases y with
  | non => cases r; rfl
  | bl b => cases r; rfl
  | int i => obtain ⟨t, rfl⟩ := r; rfl
  | str z => obtain ⟨t, rfl⟩ := r; rfl
  | _ => exact absurd (show false = true from f) Bool.false_ne_true
theorem any_eqU {x : V} : ∀ {xs : List V} {us : List Value}, Vals xs us → xs.all flatV = true → us.any (eqU x) = xs.any fun y => eqV y x
  | _, _, .nil, _ => rfl
  | y :: xs, u :: us, .cons r t, f => by
    rw [List.all_cons, Bool.and_eq_true] at f
    rw [List.any_cons, List.any_cons, eqU_of r f.1, any_eqU t f.2]
theorem mem_eqAt {A : Around} {s : Shared} {x : V} {v : Value} (rx : RelV x v) (fx : flatV x = true) : ∀ {xs : List V} {us : List Value}, Vals xs us → xs.all flatV = true → ∀ u ∈ us, SeqAt.EqAt A s u v (eqU x u)
  | _, _, .nil, _ => fun u hu => by cases hu
  | y :: xs, u :: us, .cons r t, f => fun u' hu => by
    rw [List.all_cons, Bool.and_eq_true] at f
    rcases List.mem_cons.mp hu with rfl | hu
    · rw [eqU_of r f.1]; exact eqAt_V r rx f.1 fx
    · exact mem_eqAt rx fx t f.2 u' hu
def inV (x : V) (xs : List V) : Bool := xs.any fun y => eqV y x
def rIn (K : PySem.W.Frag) (neg : Bool) : R2 := fun x y H Q => ∃ p xs, y = .ref p ∧ (SqL K H p xs ∨ SqT K H p xs) ∧ flatV x = true ∧ xs.all flatV = true ∧ Q (.bl (if neg then !inV x xs else inV x xs)) H
theorem op_in_seq : OpR X (compareOp .In) (rIn X.K false) := by
  intro pins s σ H x y v u Q I rx ry h
  obtain ⟨p, xs, rfl, hq, fx, fs, q⟩ := h
  cases ry
  rcases hq with hq | hq
  · obtain ⟨its, r, pl, hz⟩ := I.list hq
    refine SeqAt.in_listAt (eqU x) pl.isList (fun w hw => mem_eqAt rx fx r fs w (by simpa using hw)) ⟨.bl _, H, I, rfl, ?_⟩
    rw [show its.toArray.any (eqU x) = its.any (eqU x) by simp, any_eqU r fs]
    exact q
  · obtain ⟨its, r, pl, hz⟩ := I.tuple hq
    refine SeqAt.in_tupleAt (eqU x) pl (fun w hw => mem_eqAt rx fx r fs w (by simpa using hw)) ⟨.bl _, H, I, rfl, ?_⟩
    rw [show its.toArray.any (eqU x) = its.any (eqU x) by simp, any_eqU r fs]
    exact q
theorem op_notIn_seq : OpR X (compareOp .NotIn) (rIn X.K true) := by
  intro pins s σ H x y v u Q I rx ry h
  obtain ⟨p, xs, rfl, hq, fx, fs, q⟩ := h
  cases ry
  rcases hq with hq | hq
  · obtain ⟨its, r, pl, hz⟩ := I.list hq
    refine SeqAt.notIn_listAt (eqU x) pl.isList (fun w hw => mem_eqAt rx fx r fs w (by simpa using hw)) ⟨.bl _, H, I, rfl, ?_⟩
    rw [show its.toArray.any (eqU x) = its.any (eqU x) by simp, any_eqU r fs]
    exact q
  · obtain ⟨its, r, pl, hz⟩ := I.tuple hq
    refine SeqAt.notIn_tupleAt (eqU x) pl (fun w hw => mem_eqAt rx fx r fs w (by simpa using hw)) ⟨.bl _, H, I, rfl, ?_⟩
    rw [show its.toArray.any (eqU x) = its.any (eqU x) by simp, any_eqU r fs]
    exact q
theorem call_len_seq : CallR X (.builtin "len") (fun xs H Q => ∃ p ys, xs = [.ref p] ∧ (SqL X.K H p ys ∨ SqT X.K H p ys) ∧ Q (.int ys.length) H) := by
  intro pins s σ H xs us Q I r h
  obtain ⟨p, ys, rfl, hq, q⟩ := h
  obtain ⟨u, rfl, rx⟩ := vals1 r
  cases rx
  have hn := line63
  rcases hq with hq | hq
  · obtain ⟨its, r', pl, hz⟩ := I.list hq
    have hlen := r'.length
    exact Calls.call_len_list pl.isList (by simp only [List.size_toArray] <;> omega) ⟨.int ys.length, H, I.tok _, ⟨s.toks + 1, by rw [List.size_toArray, hlen]⟩, q⟩
  · obtain ⟨its, r', pl, hz⟩ := I.tuple hq
    have hlen := r'.length
    exact len_tuple pl (by simp only [List.size_toArray] <;> omega) ⟨.int ys.length, H, I.tok _, ⟨s.toks + 1, by rw [List.size_toArray, hlen]⟩, q⟩
theorem call_len_str : CallR X (.builtin "len") (fun xs H Q => ∃ z, xs = [.str z] ∧ z.length ≤ sizeLine ∧ Q (.int z.length) H) := by
  intro pins s σ H xs us Q I r h
  obtain ⟨z, rfl, hz, q⟩ := h
  obtain ⟨u, rfl, t, rfl⟩ := vals1 r
  have hn := line63
  exact len_str (by omega) ⟨.int z.length, H, I.tok _, ⟨_, rfl⟩, q⟩
theorem call_list_of : CallR X (.type "list") (fun xs H Q => ∃ p ys, xs = [.ref p] ∧ (SqL X.K H p ys ∨ SqT X.K H p ys) ∧ ∀ l, H l = none → Q (.ref l) (upd H l (.lst ys))) := by
  intro pins s σ H xs us Q I r h
  obtain ⟨p, ys, rfl, hq, q⟩ := h
  obtain ⟨u, rfl, rx⟩ := vals1 r
  cases rx
  have fin : ∀ (its : List Value), Vals ys its → ys.length ≤ sizeLine → ∀ (h' : Heap) (c' : Nat), (∀ b o', s.heap.get? b = some o' → h'.get? b = some o') →
      h'.get? s.heap.objs.size = some { cls := .type "list", dict := none, data := .seq its.toArray c', slots := #[] } → EP X pins σ Q (.ref s.heap.objs.size) { s with heap := h' } := fun its r' hz h' c' kp e =>
    ⟨.ref s.heap.objs.size, _, I.laid (t' := s.toks) kp (Nat.le_refl _) (show ObjOk X.prog X.w _ h' _ (.lst ys) from ⟨hz, its, c', r', e⟩), rfl, q _ (I.hok.fresh (Nat.le_refl _))⟩
  rcases hq with hq | hq
  · obtain ⟨its, r', pl, hz⟩ := I.list hq
    have hlen := r'.length
    obtain ⟨o, ho, hc, n, hd⟩ := pl.isList
    exact call_list_seq p (.inl rfl) ho hc hd (fun h' c' kp e => fin its r' hz h' c' kp e) (by simp only [List.size_toArray] <;> omega)
  · obtain ⟨its, r', pl, hz⟩ := I.tuple hq
    have hlen := r'.length
    obtain ⟨o, ho, hc, n, hd⟩ := pl
    exact call_list_seq p (.inr rfl) ho hc hd (fun h' c' kp e => fin its r' hz h' c' kp e) (by simp only [List.size_toArray] <;> omega)
theorem call_tuple_of : CallR X (.type "tuple") (fun xs H Q => ∃ p ys, xs = [.ref p] ∧ ((SqL X.K H p ys ∧ ∀ l, H l = none → Q (.ref l) (upd H l (.tup ys))) ∨ (SqT X.K H p ys ∧ Q (.ref p) H))) := by
  intro pins s σ H xs us Q I r h
  obtain ⟨p, ys, rfl, h⟩ := h
  obtain ⟨u, rfl, rx⟩ := vals1 r
  cases rx
  rcases h with ⟨hq, q⟩ | ⟨hq, q⟩
  · obtain ⟨its, r', pl, hz⟩ := I.list hq
    have hlen := r'.length
    refine call_tuple_list pl.isList (fun h' kp => ?_) (by simp only [List.size_toArray] <;> omega)
    have I1 : Inv X pins σ H { s with heap := h' } := I.kept (t' := s.toks) kp
    have I2 : Inv X pins σ (upd H h'.objs.size (.tup ys)) { s with heap := h'.push { cls := .type "tuple", data := .seq its.toArray } } :=
      I1.laid (t' := s.toks) (fun b o e => Heap.get?_push_of_some _ e) (Nat.le_refl _) (show ObjOk X.prog X.w _ _ _ (.tup ys) from ⟨hz, its, r', IsTup.new _ _⟩)
    exact ⟨.ref h'.objs.size, _, I2, rfl, q _ (I1.hok.fresh (Nat.le_refl _))⟩
  · obtain ⟨its, r', pl, hz⟩ := I.tuple hq
    exact call_tuple_same pl ⟨.ref p, H, I, rfl, q⟩
def tyV (K : PySem.W.Frag) (T : String) (x : V) (H : Hp) : Prop := match x with
  | .str _ => T = "str"
  | .int _ => T = "int"
  | .ref p => (T = "list" ∧ ∃ xs, SqL K H p xs) ∨ (T = "tuple" ∧ ∃ o, K.lookup p = some o ∧ o.cls = .type "tuple" ∧ o.dict = none) ∨
      (T = "dict" ∧ ((∃ kvs, H p = some (.dK kvs)) ∨ ∃ kvs, H p = some (.dT kvs))) ∨ (T = "set" ∧ ∃ S n, H p = some (.set S n))
  | _ => False
theorem tyV_is {pins : List (Addr × Obj)} {σ : St} {H : Hp} {s : Shared} {T : String} {x : V} {v : Value} (I : Inv X pins σ H s) (r : RelV x v) (ty : tyV X.K T x H) :
    s.TypeIs v T ∧ ∀ a, v = .ref a → ∃ ob, s.heap.get? a = some ob ∧ ob.dict = none := by
  cases x with
  | str z =>
    obtain ⟨t, rfl⟩ := r
    cases (show T = "str" from ty)
    exact ⟨typeIs_str s z t, fun _ e => nomatch e⟩
  | int i =>
    obtain ⟨t, rfl⟩ := r
    cases (show T = "int" from ty)
    exact ⟨typeIs_int s i t, fun _ e => nomatch e⟩
  | ref p =>
    cases r
    rcases ty with ⟨rfl, xs, hq⟩ | ⟨rfl, o, hk, hc, hd⟩ | ⟨rfl, hk⟩ | ⟨rfl, S, n, hk⟩
    · obtain ⟨its, _, pl, _⟩ := I.list hq
      refine ⟨pl.isList.typeIs, fun a e => ?_⟩
      cases e
      obtain ⟨o, n, e, c, hd, _⟩ := pl
      exact ⟨o, e, hd⟩
    · refine ⟨⟨o, I.kIn p o hk, hc⟩, fun a e => ?_⟩
      cases e
      exact ⟨o, I.kIn _ o hk, hd⟩
    · have z : ∃ o, s.heap.get? p = some o ∧ o.ExactDict := by
        rcases hk with ⟨kvs, hk⟩ | ⟨kvs, hk⟩
        · obtain ⟨_, _, _, _, o, _, _, e, ex, _⟩ := I.hok p _ hk
          exact ⟨o, e, ex⟩
        · obtain ⟨_, _, _, _, o, _, _, e, ex, _⟩ := I.hok p _ hk
          exact ⟨o, e, ex⟩
      obtain ⟨o, e, ex⟩ := z
      refine ⟨⟨o, e, ex.1⟩, fun a e2 => ?_⟩
      cases e2
      exact ⟨o, e, ex.2.1⟩
    · obtain ⟨o, _, _, _, e, ex, _⟩ := I.hok p _ hk
      refine ⟨⟨o, e, ex.1⟩, fun a e2 => ?_⟩
      cases e2
      exact ⟨o, e, ex.2.1⟩
  | _ => exact False.elim ty
def tBM0 (K : PySem.W.Frag) (T : String) (r : V → List V → Hp → VK → Prop) (to : TE) : TE := fun σ H Q => to σ H fun x H1 => tyV K T x H1 ∧ r x [] H1 Q
def tBM (K : PySem.W.Frag) (T : String) (r : V → List V → Hp → VK → Prop) (to : TE) (t : TA) : TE := fun σ H Q => to σ H fun x H1 => tyV K T x H1 ∧ t σ H1 fun xs H2 => r x xs H2 Q
variable {o e : Expr} {es : List Expr} {to : TE} {t : TA} {name : Str} {apos cpos : Pos} {T id : String} {r : V → List V → Hp → VK → Prop}
theorem pe_bm0 (pa : PlainAttrs T) (slot : Slot T name id) (hty : typeOf (.builtin id) = pure (.type "method_descriptor")) (hm : MtR X id r) (ho : PE X o to)
    (hbase : attributeBase o name X.env (eval o X.env) = eval o X.env := by rfl) (hline : (apos.endLine == cpos.line) = true := by rfl) : PE X (.Call (.Attribute o name apos) [] [] cpos) (tBM0 X.K T r to) := by
  intro pins s σ H Q I h
  refine wpAny_Call_method0_late hbase hline (thn (ho pins s σ H _ I h) fun v s1 ⟨x, H1, I1, r1, ty, q1⟩ => ?_)
  obtain ⟨h1, h2⟩ := tyV_is I1 r1 ty
  exact ⟨T, id, pa, slot, hty, h1, h2, Calls.callWith_builtin rfl (PySem.evalArgs_none (hm pins s1 σ H1 x [] v [] Q I1 r1 .nil q1))⟩
theorem pe_bm (pa : PlainAttrs T) (slot : Slot T name id) (hty : typeOf (.builtin id) = pure (.type "method_descriptor")) (hm : MtR X id r) (ho : PE X o to) (ha : PA X (e :: es) t)
    (hbase : attributeBase o name X.env (eval o X.env) = eval o X.env := by rfl)
    (hfew : ((backTo cpos (starEach (e :: es) X.env)).all (fun x => !x.1) && (backToKw cpos (keywordEach [] X.env)).all (fun x => x.1.isSome)
      && decide ((e :: es).length + ([] : List Keyword).length + (if ([] : List Keyword).isEmpty then 0 else 1) < 30)) = true := by rfl)
    (hline : (apos.endLine == cpos.line) = true := by rfl) (hs : starEach (e :: es) X.env = (false, eval e X.env) :: starEach es X.env := by rfl) (hplain : (backTo cpos (starEach es X.env)).any (·.1) = false := by rfl) :
    PE X (.Call (.Attribute o name apos) (e :: es) [] cpos) (tBM X.K T r to t) := by
  intro pins s σ H Q I h
  refine wpAny_Call_method_late hbase hfew hline rfl (thn (ho pins s σ H _ I h) fun v s1 ⟨x, H1, I1, r1, ty, q1⟩ => ?_)
  obtain ⟨h1, h2⟩ := tyV_is I1 r1 ty
  refine ⟨T, id, pa, slot, hty, h1, h2, ?_⟩
  have hA := ha cpos pins s1 σ H1 _ I1 q1
  rw [hs] at hA ⊢
  refine Calls.callWith_builtin (by show (false || (backTo cpos (starEach es X.env)).any (·.1)) = false; rw [hplain] <;> rfl) (Calls.evalArgs_plain ?_)
  exact thn hA fun us s2 ⟨vs, H2, I2, r2, q2⟩ => hm pins s2 σ H2 x vs v us Q I2 r1 r2 q2
end
end L2
namespace L2
open PySem PySem.Spec PyProof.Rows
def MtM (X : Cx) (id : String) (r : V → List V → Hp → VK → Prop) : Prop :=
  ∀ (pins : List (Addr × Obj)) (s : Shared) (σ : St) (H : Hp) (x : V) (xs : List V) (v : Value) (us : List Value) (Q : VK), Inv X pins σ H s → RelV x v → Vals xs us → r x xs H Q →
    wpAny (model X.prog X.w) X.A (call (.builtin id) (v :: us)) (EP X pins σ Q) X.xe s
theorem Vals.one : ∀ {x : V} {us : List Value}, Vals [x] us → ∃ u, us = [u] ∧ RelV x u
  | _, _, .cons r .nil => ⟨_, rfl, r⟩
theorem Vals.two : ∀ {x y : V} {us : List Value}, Vals [x, y] us → ∃ u v, us = [u, v] ∧ RelV x u ∧ RelV y v
  | _, _, _, .cons r (.cons q .nil) => ⟨_, _, rfl, r, q⟩
theorem Vals.zero : ∀ {us : List Value}, Vals [] us → us = []
  | _, .nil => rfl
theorem Vals.dropLast {xs : List V} {us : List Value} (h : Vals xs us) : Vals xs.dropLast us.dropLast := by
  induction h with
  | nil => exact .nil
  | cons r t ih =>
    cases t with
    | nil => exact .nil
    | cons q t' => exact .cons r ih
theorem Vals.rep {xs : List V} {us : List Value} (h : Vals xs us) : ∀ k : Nat, Vals (List.replicate k xs).flatten (List.replicate k us).flatten
  | 0 => .nil
  | k + 1 => by
    rw [List.replicate_succ, List.replicate_succ, List.flatten_cons, List.flatten_cons]
    exact Vals.append h (Vals.rep h k)
theorem erase_last {α : Type} (l : List α) : l.eraseIdx (l.length - 1) = l.dropLast := by
  induction l with
  | nil => rfl
  | cons a r ih =>
    cases r with
    | nil => rfl
    | cons b r =>
      have e : (a :: b :: r).length - 1 = ((b :: r).length - 1) + 1 := by
        have h1 : (a :: b :: r).length = r.length + 2 := rfl
        have h2 : (b :: r).length = r.length + 1 := rfl
        omega
      rw [e, List.eraseIdx_cons_succ, ih]
      all_goals rfl
theorem foldl_rep (its : List Value) : ∀ (k : Nat) (acc : List Value),
    List.foldl (fun x1 x2 => x1 ++ x2) acc.toArray (List.replicate k its.toArray) = (acc ++ (List.replicate k its).flatten).toArray
  | 0, acc => by simp
  | k + 1, acc => by
    have e : acc.toArray ++ its.toArray = (acc ++ its).toArray := by simp
    have e2 : (acc ++ its) ++ (List.replicate k its).flatten = acc ++ (List.replicate (k + 1) its).flatten := by
      rw [List.replicate_succ, List.flatten_cons, List.append_assoc]
    rw [← e2, ← foldl_rep its k (acc ++ its), ← e, List.replicate_succ, List.foldl_cons]
section
variable {X : Cx} {pins : List (Addr × Obj)} {σ : St} {H : Hp} {s : Shared} {l b : Addr} {xs ys zs : List V}
theorem Inv.lset {its its' : List Value} {n : Nat} {f : Array Value → Array Value} {t' : Nat} (I : Inv X pins σ H s) (hH : H l = some (.lst xs))
    (e : s.heap.get? l = some { cls := .type "list", data := .seq its.toArray n }) (hf : f its.toArray = its'.toArray) (hv : Vals ys its') (hz : ys.length ≤ sizeLine) :
    Inv X pins σ (upd H l (.lst ys)) { s with heap := s.heap.update l (Obj.mapSeq f), toks := t' } := by
  have q := PySem.IsL.update e f
  rw [hf] at q
  refine I.write (x := l) (e := l) (by rw [hH]; exact trivial) (.inl rfl) (fun b' u hb hu => (Heap.get?_update_other s.heap (Obj.mapSeq f) (Ne.symm hb)).trans hu) ⟨_, q⟩ ?_
  exact ⟨hz, its', _, hv, q⟩
theorem Inv.lnew {its : List Value} {t' : Nat} (I : Inv X pins σ H s) (hv : Vals ys its) (hz : ys.length ≤ sizeLine) :
    Inv X pins σ (upd H s.heap.objs.size (.lst ys)) { s with heap := s.heap.push { cls := .type "list", data := .seq its.toArray }, toks := t' } :=
  I.laid (fun _ _ q => Heap.get?_push_of_some _ q) (Nat.le_refl _) ⟨hz, its, 0, hv, Heap.get?_push_size _ rfl⟩
theorem Inv.fresh (I : Inv X pins σ H s) : H s.heap.objs.size = none := I.hok.fresh (Nat.le_refl _)
theorem Inv.lstM (I : Inv X pins σ H s) (hH : H l = some (.lst xs)) : xs.length ≤ sizeLine ∧ ∃ (its : List Value) (n : Nat), Vals xs its ∧ xs.length = its.length ∧ s.heap.get? l = some { cls := .type "list", data := .seq its.toArray n } := by
  obtain ⟨z, its, n, r, e⟩ := I.hok l _ hH
  exact ⟨z, its, n, r, r.length, e⟩
theorem notLongL {n : Nat} (h : n ≤ sizeLine) : Builtin.List.listTooLong n = false := by
  unfold Builtin.List.listTooLong
  exact decide_eq_false (by omega)
end
section
variable {X : Cx}
def rAppend : V → List V → Hp → VK → Prop := fun x vs H Q => ∃ l xs y, x = .ref l ∧ vs = [y] ∧ H l = some (.lst xs) ∧ xs.length < sizeLine ∧ Q .non (upd H l (.lst (xs ++ [y])))
theorem mt_append : MtM X "list.append" rAppend := by
  intro pins s σ H x vs v us Q I rx rv h
  obtain ⟨l, xs, y, rfl, rfl, hH, hz, q⟩ := h
  cases rx
  obtain ⟨u, rfl, ru⟩ := rv.one
  obtain ⟨z, its, n, r, hl, e⟩ := I.lstM hH
  refine call_meets F.slot_list_append ⟨_, e, rfl⟩ F.entry_list_append (F.args_list_append_2 _ _) (PySem.list_append l its.toArray n u (by rw [List.size_toArray]; omega)) ⟨e, ?_⟩
  refine ⟨.non, _, I.lset (its' := its ++ [u]) hH e (by simp) (r.append (.cons ru .nil)) ?_, rfl, q⟩
  rw [List.length_append, List.length_singleton]
  omega
def rExtend : V → List V → Hp → VK → Prop := fun x vs H Q => ∃ l b xs zs, x = .ref l ∧ vs = [.ref b] ∧ H l = some (.lst xs) ∧ H b = some (.lst zs) ∧ xs.length + zs.length ≤ sizeLine ∧ Q .non (upd H l (.lst (xs ++ zs)))
theorem mt_extend : MtM X "list.extend" rExtend := by
  intro pins s σ H x vs v us Q I rx rv h
  obtain ⟨l, b, xs, zs, rfl, rfl, hH, hB, hz, q⟩ := h
  cases rx
  obtain ⟨u, rfl, ru⟩ := rv.one
  cases ru
  obtain ⟨z, its, n, r, hl, e⟩ := I.lstM hH
  obtain ⟨z2, its2, n2, r2, hl2, e2⟩ := I.lstM hB
  have hsz : its.toArray.size + its2.toArray.size ≤ sizeLine := by rw [List.size_toArray, List.size_toArray]; omega
  have hlong : ¬ (!its.toArray.isEmpty && Builtin.List.listTooLong (its.toArray.size + its2.toArray.size)) = true := by
    rw [notLongL hsz, Bool.and_false]
    exact Bool.false_ne_true
  refine call_meets F.slot_list_extend ⟨_, e, rfl⟩ F.entry_list_extend (F.args_list_extend_2 _ _)
    (AutoSeq1.list_extend_list_list_0 l its.toArray n b its2.toArray n2 hlong (by rw [List.size_toArray]; omega) (by omega)) ⟨e, e2, ?_⟩
  refine ⟨.non, _, I.lset (its' := its ++ its2) hH e (by simp) (r.append r2) ?_, rfl, q⟩
  rw [List.length_append]
  omega
def rPop : V → List V → Hp → VK → Prop := fun x vs H Q => ∃ l xs y, x = .ref l ∧ vs = [] ∧ H l = some (.lst xs) ∧ xs[xs.length - 1]? = some y ∧ Q y (upd H l (.lst xs.dropLast))
theorem mt_pop : MtM X "list.pop" rPop := by
  intro pins s σ H x vs v us Q I rx rv h
  obtain ⟨l, xs, y, rfl, rfl, hH, hy, q⟩ := h
  cases rx
  have hus := rv.zero
  subst hus
  obtain ⟨z, its, n, r, hl, e⟩ := I.lstM hH
  obtain ⟨u, hu, ru⟩ := r.get hy
  have hy' : its.toArray[its.toArray.size - 1]? = some u := by
    show its.toArray[its.length - 1]? = some u
    rw [← Array.getElem?_toList, ← hl]
    exact hu
  refine call_meets F.slot_list_pop ⟨_, e, rfl⟩ F.entry_list_pop (F.args_list_pop_1 _) (MeetsSeq.list_pop_last l its.toArray n u hy' (by rw [List.size_toArray]; omega)) ⟨e, ?_⟩
  refine ⟨y, _, I.lset (its' := its.dropLast) hH e ?_ r.dropLast ?_, ru, q⟩
  · show its.toArray.eraseIdxIfInBounds (its.toArray.size - 1) = its.dropLast.toArray
    rw [List.size_toArray, List.eraseIdxIfInBounds_toArray, erase_last]
  · rw [List.length_dropLast]
    omega
def rCat : R2 := fun x y H Q => ∃ l b xs zs, x = .ref l ∧ y = .ref b ∧ H l = some (.lst xs) ∧ H b = some (.lst zs) ∧ xs.length + zs.length ≤ sizeLine ∧ ∀ p, H p = none → Q (.ref p) (upd H p (.lst (xs ++ zs)))
theorem op_cat : OpR X (binaryOp .Add) rCat := by
  intro pins s σ H x y v u Q I rx ry h
  obtain ⟨l, b, xs, zs, rfl, rfl, hH, hB, hz, q⟩ := h
  cases rx
  cases ry
  obtain ⟨z, its, n, r, hl, e⟩ := I.lstM hH
  obtain ⟨z2, its2, n2, r2, hl2, e2⟩ := I.lstM hB
  refine PySem.P.add_list e e2 ?_ (by rw [List.size_toArray, List.size_toArray]; omega)
  have ea : its.toArray ++ its2.toArray = (its ++ its2).toArray := by simp
  rw [ea]
  exact ⟨.ref _, _, I.lnew (t' := s.toks) (r.append r2) (by rw [List.length_append]; omega), rfl, q _ I.fresh⟩
def rRep : R2 := fun x y H Q => ∃ l k xs, x = .ref l ∧ y = .int k ∧ H l = some (.lst xs) ∧ -(2 ^ 63) ≤ k ∧ k < 2 ^ 63 ∧ xs.length * k.toNat ≤ sizeLine ∧
  ∀ p, H p = none → Q (.ref p) (upd H p (.lst (List.replicate k.toNat xs).flatten))
theorem len_rep {α : Type} (xs : List α) (k : Nat) : (List.replicate k xs).flatten.length = k * xs.length := by
  induction k with
  | zero => simp
  | succ k ih => rw [List.replicate_succ, List.flatten_cons, List.length_append, ih, Nat.succ_mul, Nat.add_comm]
theorem op_rep : OpR X (binaryOp .Mult) rRep := by
  intro pins s σ H x y v u Q I rx ry h
  obtain ⟨l, k, xs, rfl, rfl, hH, h1, h2, hz, q⟩ := h
  cases rx
  obtain ⟨t, rfl⟩ := ry
  obtain ⟨z, its, n, r, hl, e⟩ := I.lstM hH
  have hlen : its.toArray.size * k.toNat ≤ sizeLine := by rw [List.size_toArray, ← hl]; exact hz
  have hcap : ¬ its.toArray.size * k.toNat > (2 ^ 63 - 1) / 8 := by
    have : (sizeLine : Nat) ≤ (2 ^ 63 - 1) / 8 := by decide
    omega
  have hfit : ¬ (!Builtin.List.listFitsIndex k) = true := by
    rw [fitsIndex_both h1 h2]
    exact Bool.false_ne_true
  have hlong : ¬ Builtin.List.listTooLong (its.toArray.size * k.toNat) = true := by
    rw [notLongL hlen]
    exact Bool.false_ne_true
  have hnew : List.foldl (fun x1 x2 => x1 ++ x2) #[] (List.replicate (if its.toArray.isEmpty = true then 0 else k.toNat) its.toArray) = (List.replicate k.toNat its).flatten.toArray := by
    have f0 : ∀ m : Nat, List.foldl (fun x1 x2 => x1 ++ x2) #[] (List.replicate m its.toArray) = (List.replicate m its).flatten.toArray := fun m => by
      have := foldl_rep its m []
      rw [List.nil_append] at this
      exact this
    rw [f0]
    cases its with
    | nil => simp
    | cons a r' => rw [if_neg (by simp)]
  refine wpAny_binaryOp_repeat_ref (T := "list") (U := "int") (by decide) ⟨_, e, rfl⟩ (fun s' => typeIs_int s' k t) noFill_list_mul F.fills_int_mul F.slot_int_rmul repeat_list F.slot_int_index.lookup
    (call_meets F.slot_int_rmul (typeIs_int s k t) F.entry_int_rmul (F.args_int_rmul_2 _ _) (int___rmul___int_list k t l its.toArray n)
      ⟨e, rfl, ⟨_, e, rfl⟩, call_meets F.slot_list_mul ⟨_, e, rfl⟩ F.entry_list_mul (F.args_list_mul_2 _ _) (AutoListH.list___mul___list_int_3 l its.toArray n k t hfit hcap hlong) ⟨e, ?_⟩⟩)
  rw [hnew]
  exact ⟨.ref _, _, I.lnew (t' := s.toks) (r.rep k.toNat) (by rw [len_rep, Nat.mul_comm]; exact hz), rfl, q _ I.fresh⟩
end
section
variable {prog : Program} {w : World} {A : Around} {E : Value → Shared → Prop} {s : Shared}
end
section
variable {X : Cx}
end
end L2
namespace Att
open PySem PySem.W PySem.Calls PyProof.Rows
theorem ints_of_wellAll {P : Params} {h : Heap} : ∀ (ns : List Int) (vs : List Value), WellAll P h vs (ns.map WData.int) → IntsAre vs ns := by
  intro ns
  induction ns with
  | nil =>
    intro vs w
    rw [List.map_nil] at w
    cases w
    exact .nil
  | cons n ns ih =>
    intro vs w
    rw [List.map_cons] at w
    cases w with
    | cons a b =>
      cases a
      exact .cons _ _ (ih _ b)
theorem script_of {l : OpenLaw} {n : Nat} (hn : l.most = some n) {P : Params} {h : Heap} {args : List WData} {vals : List Value}
    (hpre : l.row.toRowW.claim.pre args = true) (hwl : WellAll P h vals args) :
    ∃ a vs ns, vals = [Value.ref a] ∧ args = [WData.list (ns.map WData.int)] ∧ h.get? a = some { cls := .type "list", data := .seq vs.toArray } ∧ IntsAre vs ns ∧ ns.length ≤ n := by
  have hsh : WShape.hasAll [] args [.list .int] = true := (pre_splitW hpre).1
  have hc : l.pre.holds [] { args := args } = true := (pre_splitW hpre).2
  obtain ⟨d, r, rfl, h1, h2⟩ := hasAllW_cons hsh
  obtain rfl := hasAllW_nil h2
  obtain ⟨xs, rfl, h3⟩ := hasW_list h1
  obtain ⟨ns, rfl⟩ := items_int h3
  have hlen : ns.length ≤ n := by
    unfold OpenLaw.pre at hc
    have h4 : (WTm.not (.lt (.lit (.int (n : Int))) (.len (.arg 0)))).holds [] { args := [.list (ns.map .int)] } = true := by
      have h4 := (holds_andW hc).1
      rw [hn] at h4
      exact h4
    have h5 := condW_of h4 (w_not (w_lt w_lit (w_len_list (w_arg rfl))))
    rw [List.length_map] at h5
    refine Nat.le_of_not_lt fun q => ?_
    have q' : (n : Int) < ((ns.length : Nat) : Int) := by omega
    first
      | (rw [decide_eq_true q'] at h5; exact absurd h5 (by decide))
      | (simp at h5; omega)
  cases hwl with
  | cons w1 w2 =>
    cases w2
    cases w1 with
    | list ho hall => exact ⟨_, _, ns, rfl, rfl, ho, ints_of_wellAll ns _ hall, hlen⟩
theorem post_true (l : OpenLaw) (args : List WData) : l.row.toRowW.claim.post args (.bool true) args = true :=
  postW_of (r := l.row.toRowW) (X := (true == true))
    (show WShape.has [] (.bool true) .bool = true by first | rfl | decide | simp [WShape.has, WShape.arms, WShape.armsAll])
    (show (WTm.eq .res (.lit (.bool true))).value [] { args := args, res := some (.bool true), after := args } = some (.bool (true == true)) from w_eq_bool (w_res rfl) w_lit) rfl
theorem attach_call {l : OpenLaw} {n : Nat} {q : Program} {loose : List Str} {XP : (Str → Option Value) → Heap → Prop} {YP : World → Heap → Prop} {d : DefRec}
    (hn : l.most = some n) (hdf : d.params.defaults = [])
    (call : ∀ (w : World) (s₀ s₁ : Shared) (mg mb : Str → Option Value) (fa : Addr) (o : Obj) (pm cd doc : Value) (a : Addr) (vs : List Value) (ns : List Int),
      Ground q loose [] XP w s₀ mg mb s₁.heap → YP w s₁.heap →
      s₁.heap.get? fa = some o → o.data = .func (docDef d.name d.params d.body d.scope pm cd doc) → s₁.heap.CodeRec cd d.name → mg d.name = some (.ref fa) →
      s₁.heap.get? a = some { cls := .type "list", data := .seq vs.toArray } → IntsAre vs ns → ns.length ≤ n → s₁.gens = #[] →
      codeAny (model l.prog w) callerA (.call (.ref fa) ⟨[.ref a], []⟩) (fun r s' => r = .ok (.ret (.bool true)) ∧ OldK s₁.heap s'.heap ∧ s'.os = s₁.os ∧ AllBare s'.gens) s₁) :
    WalkO q loose XP YP l.row.toRowW d [] (fun f vs => PySem.call f vs) := by
  intro w s₀ s₁ mg mb G Y fa o pm cd doc dV kV ho hd hcd hD hmg hg args vals as hpre hlay hrd hwl hlo
  obtain rfl : dV = .none := Dflts.none hD hdf
  obtain rfl : kV = .none := Dflts.noKw hD
  obtain ⟨a, vs, ns, rfl, rfl, hobj, hints, hlen⟩ := script_of hn hpre hwl
  refine enter_call (codeAny_mono (call w s₀ s₁ mg mb fa o pm cd doc a vs ns G Y ho (fd_plain hd) hcd hmg hobj hints hlen hg) fun r s' hq => ?_)
  obtain ⟨rfl, h2, h3, h4⟩ := hq
  exact ⟨.inl ⟨.bool true, .bool true, [], rfl, fun _ => rfl, .bool true, post_true l _, fun _ => ⟨List.Pairwise.nil, fun _ hm => (nomatch hm)⟩⟩, h2, h3, h4⟩
section
variable {prog : Program} {w : World} {A : Around} {E : Value → Shared → Prop} {s : Shared} {K : Frag}
end
end Att
namespace L2
open PySem PySem.Spec PyProof.Rows
theorem vals_ints : ∀ {vs : List Value} {ns : List Int}, IntsAre vs ns → Vals (ns.map V.int) vs
  | _, _, .nil => .nil
  | _, _, .cons n t h => .cons ⟨t, rfl⟩ (vals_ints h)
def Only (H : Hp) : Prop := ∀ b, H b = none ∨ ∃ o xs, H b = some (.frz o (.lst xs))
theorem law_call {P : Program} {w : World} {K : PySem.W.Frag} {mg mb : Str → Option Value} {CX : CXT} {k : Nat} {fa a : Addr} {fd : FuncData} {x : Str} {sp : Sp} {s₁ : Shared} {vs : List Value} {ns : List Int}
    (KX : K.In s₁.heap) (hns : s₁.heap.Ns mainGlobals mg) (hb : s₁.heap.Ns builtinsNs mb) (hbb : ∀ x : Str, x ≠ "__name__" → mb x = bootBuiltins x) (hlim : s₁.heap.NoLimit) (hg : s₁.gens = #[])
    (ha : s₁.heap.get? a = some { cls := .type "list", data := .seq vs.toArray }) (hi : IntsAre vs ns) (hl : ns.length ≤ sizeLine) (hr : Room k callerA)
    (F : ∀ base : Heap, K.In base → base.Ns mainGlobals mg → FnOk P w K mg base CX k fa fd [x] sp) (hbind : ∀ (s : Shared) (u : Value), BindsTo s fd ⟨[u], []⟩ [(x, u)])
    (hsp : ∀ H : Hp, Only H → SqL K H a (ns.map V.int) → sp [.ref a] H (fun v _ => v = .bl true) fun _ _ _ => False)
    (hCX : ∀ H e s', CX [] H s₁ (fun _ _ _ => False) e s' → False) :
    codeAny (model P w) callerA (.call (.ref fa) ⟨[.ref a], []⟩) (fun r s' => r = .ok (.ret (.bool true)) ∧ OldK s₁.heap s'.heap ∧ s'.os = s₁.os ∧ AllBare s'.gens) s₁ := by
  have rv := vals_ints hi
  have lenV := hi.length
  have core : ∀ H : Hp, Only H → SqL K H a (ns.map V.int) → HOk P w H s₁.heap → (∀ b, H b ≠ none → b = a) → (H a ≠ none → K.lookup a = none) →
      codeAny (model P w) callerA (.call (.ref fa) ⟨[.ref a], []⟩) (fun r s' => r = .ok (.ret (.bool true)) ∧ OldK s₁.heap s'.heap ∧ s'.os = s₁.os ∧ AllBare s'.gens) s₁ := by
    intro H hO hS hok hA hK
    have base_of : ∀ {b : Addr} {o : Obj}, s₁.heap.get? b = some o → H b = none → (hidT s₁.heap H).get? b = some o := fun e n => hidT_get e n
    have noA : ∀ {b : Addr} {o : Obj} {es : Array DictEntry} {ep : Nat}, s₁.heap.get? b = some o → o.data = .dict es ep → H b = none := fun {b o es ep} e d => by
      cases q : H b with
      | none => rfl
      | some u =>
        have e' : b = a := hA b (by rw [q]; simp)
        subst e'
        rw [ha] at e; cases e
        have d' : Data.seq vs.toArray _ = Data.dict es ep := d
        cases d'
    have nsK : ∀ {b : Addr} {m : Str → Option Value}, s₁.heap.Ns b m → (hidT s₁.heap H).Ns b m := fun {b m} ⟨o, es, ep, e, d, r⟩ => ⟨o, es, ep, base_of e (noA e d), d, r⟩
    have hKb : K.In (hidT s₁.heap H) := fun b o e => base_of (KX b o e) (by
      cases q : H b with
      | none => rfl
      | some u =>
        have e' : b = a := hA b (by rw [q]; simp)
        subst e'
        rw [hK (by rw [q]; simp)] at e; cases e)
    have hM : Mod K mg (hidT s₁.heap H) := ⟨hKb, nsK hns, ⟨mb, nsK hb, hbb⟩, let ⟨mc, h1, h2⟩ := hlim; ⟨mc, nsK h1, h2⟩⟩
    have e0 : Env0 P w K mg (hidT s₁.heap H) callerA [] s₁ H := ⟨rfl, hM, fun b o e => of_hidT e, Nat.le_of_eq (hidT_size _ _), trivial, fun b hb => absurd (show b ∈ ([] : List Addr) from hb) (by simp), hok, .of_eq hg⟩
    refine codeAny_mono ((F _ hKb (nsK hns)).run callerA [] s₁ H ⟨[.ref a], []⟩ [.ref a] [.ref a] _ _ hr e0 (hbind s₁ (.ref a)) (.cons rfl .nil) (hsp H hO hS)) fun r s' h => ?_
    cases r with
    | error e => exact (hCX H e s' h).elim
    | ok fl =>
      cases fl with
      | next => exact False.elim h
      | brk => exact False.elim h
      | cont => exact False.elim h
      | ret u =>
        obtain ⟨v, H', os, bare, un, hok', r', q⟩ := h
        have q' : v = .bl true := q
        subst q'
        obtain rfl : u = Value.bool true := r'
        refine ⟨rfl, OldK.of_keep fun b o e => ?_, os, bare⟩
        cases q : H b with
        | none => exact un.keep b o e q (by intro z; exact absurd (show b ∈ ([] : List Addr) from z) (by simp)) (by simp)
        | some u =>
          rcases hO b with z | ⟨ob, xs, z⟩
          · rw [q] at z; cases z
          · have z2 := un.frzs b ob _ z
            obtain ⟨e1, _⟩ := hok b _ z
            obtain ⟨e2, _⟩ := hok' b _ z2
            rw [e] at e1; cases e1
            exact e2
  cases hk : K.lookup a with
  | some o =>
    have e := KX a o hk
    rw [ha] at e
    cases e
    refine core (fun _ => none) (fun _ => .inl rfl) (.inr ⟨_, vs.toArray, _, hk, rfl, rfl, rfl, by rw [List.size_toArray, lenV]; exact hl, by simpa using rv⟩) (fun b u z => by have z' : (none : Option HO) = some u := z; cases z') (fun b z => absurd rfl z) fun z => absurd rfl z
  | none =>
    refine core (fun b => if b = a then some (.frz { cls := .type "list", data := .seq vs.toArray } (.lst (ns.map V.int))) else none) (fun b => ?_) (.inl (.inr ⟨{ cls := .type "list", data := .seq vs.toArray }, if_pos rfl⟩)) (fun b u z => ?_) (fun b z => ?_) fun _ => hk
    · by_cases hb : b = a
      · exact .inr ⟨_, _, if_pos hb⟩
      · exact .inl (if_neg hb)
    · by_cases hb : b = a
      · have z' := (if_pos hb).symm.trans z
        cases z'
        subst hb
        exact ⟨ha, by rw [List.length_map]; exact hl, vs, _, rv, ha⟩
      · have z' := (if_neg hb).symm.trans z
        cases z'
    · by_cases hb : b = a
      · exact hb
      · exact absurd (if_neg hb) z
end L2
namespace L2
open PySem PySem.Spec PyProof.Rows
theorem walk_of {l : PySem.W.OpenLaw} {n k : Nat} {q : Program} {loose : List Str} {XP : (Str → Option Value) → Heap → Prop} {YP : World → Heap → Prop} {d : DefRec} {K : Params → PySem.W.Frag} {CX : World → CXT} {sp : World → Sp} {x : Str}
    (hn : l.most = some n) (hn2 : n ≤ sizeLine) (hdf : d.params.defaults = []) (hr : Room k callerA)
    (hY : ∀ (w : World) (h : Heap), YP w h → (K w.params).In h)
    (F : ∀ (w : World) (mg : Str → Option Value) (fa : Addr) (h : Heap), (K w.params).In h → h.Ns mainGlobals mg → mg d.name = some (.ref fa) →
      ∃ fd : FuncData, (∀ (s : Shared) (u : Value), BindsTo s fd ⟨[u], []⟩ [(x, u)]) ∧
        ∀ base : Heap, (K w.params).In base → base.Ns mainGlobals mg → FnOk l.prog w (K w.params) mg base (CX w) k fa fd [x] (sp w))
    (hsp : ∀ (w : World) (H : Hp) (a : Addr) (ns : List Int), ns.length ≤ n → Only H → SqL (K w.params) H a (ns.map V.int) → sp w [.ref a] H (fun v _ => v = .bl true) fun _ _ _ => False)
    (hCX : ∀ (w : World) (H : Hp) (s : Shared) (e : Value) (s' : Shared), CX w [] H s (fun _ _ _ => False) e s' → False) :
    PySem.W.WalkO q loose XP YP l.row.toRowW d [] (fun f vs => PySem.call f vs) := by
  refine Att.attach_call hn hdf fun w s₀ s₁ mg mb fa o pm cd doc a vs ns G Y ho hd hcd hmg hobj hints hlen hg => ?_
  have KX := hY w _ Y
  obtain ⟨fd, hb, hF⟩ := F w mg fa _ KX G.T.g hmg
  exact law_call KX G.T.g G.T.b G.T.builtins G.T.nolimit hg hobj hints (Nat.le_trans hlen hn2) hr hF hb (fun H hO hS => hsp w H a ns hlen hO hS) fun H e s' => hCX w H s₁ e s'
end L2
namespace L2
open PySem PySem.Spec PyProof.Rows
def defArgs (s : Stmt) : Arguments := match s with
  | .FunctionDef _ a _ _ _ _ _ _ _ _ => a
  | _ => { posonlyargs := [], args := [], vararg := none, kwonlyargs := [], kw_defaults := [], kwarg := none, defaults := [] }
def defBody (s : Stmt) : List Stmt := match s with
  | .FunctionDef _ _ b _ _ _ _ _ _ _ => b
  | _ => []
def defScope (s : Stmt) : Scope := match s with
  | .FunctionDef _ _ _ _ _ _ sc _ _ _ => sc
  | _ => { kind := .function, names := [], isGenerator := false, isCoroutine := false }
abbrev CX0 : CXT := fun _ _ _ _ _ _ => False
abbrev E0 : XK := fun _ _ _ => False
theorem pass0 {X : Cx} : Passes CX0 X E0 := fun _ _ _ _ _ _ _ h => h.elim
structure Fun (K : PySem.W.Frag) (x qual : Str) (st : Stmt) (f : Addr) (fd : FuncData) : Prop where
  ex : ∃ (oc : Value) (od : Option Addr) (kV doc pm : Value) (an : Option Addr) (cdv ct : Value) (osl : Array (Option Value)),
    fd = PySem.W.fnOf x qual (defArgs st) (defBody st) (defScope st) .none kV doc pm an cdv ct ∧ K.lookup f = some ⟨oc, od, .func fd, osl⟩ ∧ PySem.W.codeIn K cdv qual = true
  kp : PySem.W.keepIn K (.ref f) = true
section
variable {P : Program} {w : World} {K : PySem.W.Frag} {mg : Str → Option Value} {base : Heap}
theorem Fun.ok {x qual : Str} {st : Stmt} {f : Addr} {fd : FuncData} {N ps : List Str} {k : Nat} {sp : Sp} (F : Fun K x qual st f fd) (S : FnScope N ps (defScope st)) (len : ∀ vs H Q E, sp vs H Q E → vs.length = ps.length)
    (hbody : ∀ (cdv : Value) (A : Around) (outer : List Env) (s : Shared) (H : Hp) (vs : List V) (Q : VK) (E : XK), Room k (A.deeper (envOfC qual (defScope st) s.heap.objs.size f cdv)) → sp vs H Q E →
      ∃ t, PSs (cxOf CX0 P w K mg base N qual (defScope st) f cdv A outer s H E).nox (defBody st) t ∧ t { nx := fun _ H' => Q .non H', rt := Q } (start N vs) H) : FnOk P w K mg base CX0 (k + 1) f fd ps sp := by
  obtain ⟨oc, od, kV, doc, pm, an, cdv, ct, osl, rfl, lk, hcd⟩ := F.ex
  refine fn_of lk hcd S len fun A outer s H vs Q E hr hsp => ?_
  obtain ⟨t, h, q⟩ := hbody cdv A outer s H vs Q E hr hsp
  exact ⟨t, h.nox, q⟩
theorem Fun.binds {x qual : Str} {st : Stmt} {f : Addr} {fd : FuncData} {ps : List Str} (F : Fun K x qual st f fd)
    (h : ∀ (kV doc pm : Value) (an : Option Addr) (cdv ct : Value) (us : List Value), us.length = ps.length → bindArgs (PySem.W.fnOf x qual (defArgs st) (defBody st) (defScope st) .none kV doc pm an cdv ct) ⟨us, []⟩ = pure (ps.zip us)) : Binds K fd ps [] := by
  obtain ⟨oc, od, kV, doc, pm, an, cdv, ct, osl, rfl, lk, hcd⟩ := F.ex
  exact .all (h kV doc pm an cdv ct)
theorem fun_mk {x qual : Str} {st : Stmt} {f : Addr} {oc : Value} {od an : Option Addr} {osl : Array (Option Value)} {kV doc pm cdv ct : Value} (l : K.lookup f = some ⟨oc, od, .func (PySem.W.fnOf x qual (defArgs st) (defBody st) (defScope st) .none kV doc pm an cdv ct), osl⟩)
    (c : PySem.W.codeIn K cdv qual = true) (k : PySem.W.keepIn K (.ref f) = true) : Fun K x qual st f (PySem.W.fnOf x qual (defArgs st) (defBody st) (defScope st) .none kV doc pm an cdv ct) := ⟨⟨oc, od, kV, doc, pm, an, cdv, ct, osl, rfl, l, c⟩, k⟩
end
theorem hu_of {A : Around} {k : Nat} (hr : Room k A) : A.units + 1 < cLine := Nat.lt_of_le_of_lt (Nat.add_le_add_left (by decide : 1 ≤ 64) _) hr.units
theorem small1000 {n : Nat} (h : n ≤ 1000) : n < sizeLine := Nat.lt_of_le_of_lt h (by decide)
section
variable {X : Cx}
end
def Same (H H' : Hp) : Prop := ∀ b o, H b = some o → H' b = some o
theorem Same.refl (H : Hp) : Same H H := fun _ _ h => h
end L2
namespace L2
open PySem PySem.Spec PyProof.Rows
section
variable {κ : Type} [DecidableEq κ]
def valV (kvs : List (κ × V)) (k : κ) : Option V := (kvs.find? fun kv => decide (kv.1 = k)).map (·.2)
def putK (kvs : List (κ × V)) (k : κ) (v : V) : List (κ × V) :=
  if (kvs.any fun kv => decide (kv.1 = k)) = true then kvs.map (fun kv => if kv.1 = k then (kv.1, v) else kv) else kvs ++ [(k, v)]
theorem valV_pos {p : κ × V} {r : List (κ × V)} {k : κ} (e : p.1 = k) : valV (p :: r) k = some p.2 := by simp [valV, List.find?_cons, e]
theorem valV_neg {p : κ × V} {r : List (κ × V)} {k : κ} (e : ¬ p.1 = k) : valV (p :: r) k = valV r k := by simp [valV, List.find?_cons, e]
theorem valV_any (k : κ) : ∀ kvs : List (κ × V), (kvs.any fun kv => decide (kv.1 = k)) = (valV kvs k).isSome
  | [] => rfl
  | p :: r => by
    rw [List.any_cons]
    by_cases e : p.1 = k
    · simp only [valV_pos e, decide_eq_true e, Bool.true_or, Option.isSome_some]
    · rw [valV_neg e, decide_eq_false e, Bool.false_or]; exact valV_any k r
theorem length_putK (kvs : List (κ × V)) (k : κ) (v : V) : (putK kvs k v).length ≤ kvs.length + 1 := by
  unfold putK
  split
  · rw [List.length_map]; omega
  · rw [List.length_append, List.length_cons, List.length_nil]; omega
theorem RelO.isSome_eq {o : Option V} {u : Option Value} (r : RelO o u) : o.isSome = u.isSome := by
  cases o with
  | none => cases u with
    | none => rfl
    | some _ => exact (show False from r).elim
  | some _ => cases u with
    | none => exact (show False from r).elim
    | some _ => rfl
theorem KV.val {kvs : List (κ × V)} {vs : List (κ × Value)} (r : KV kvs vs) (k : κ) : RelO (valV kvs k) (valueAt vs k) := by
  unfold KV at r
  induction r with
  | nil => exact True.intro
  | @cons p q ps qs h t ih =>
    obtain ⟨h1, h2⟩ := h
    by_cases e : p.1 = k
    · have e' : q.1 = k := h1.symm.trans e
      have b : valueAt (q :: qs) k = some q.2 := by simp [valueAt, List.find?_cons, e']
      rw [valV_pos e, b]; exact h2
    · have e' : ¬ q.1 = k := fun z => e (h1.trans z)
      have b : valueAt (q :: qs) k = valueAt qs k := by simp [valueAt, List.find?_cons, e']
      rw [valV_neg e, b]; exact ih
theorem KV.any {kvs : List (κ × V)} {vs : List (κ × Value)} (r : KV kvs vs) (k : κ) : (kvs.any fun kv => decide (kv.1 = k)) = vs.any fun kv => decide (kv.1 = k) := by
  unfold KV at r
  induction r with
  | nil => rfl
  | cons h t ih => rw [List.any_cons, List.any_cons, ih, h.1]
theorem KV.repl {kvs : List (κ × V)} {vs : List (κ × Value)} (r : KV kvs vs) (k : κ) {y : V} {u : Value} (ry : RelV y u) :
    KV (kvs.map fun kv => if kv.1 = k then (kv.1, y) else kv) (vs.map fun kv => if kv.1 = k then (kv.1, u) else kv) := by
  unfold KV at r ⊢
  induction r with
  | nil => exact .nil
  | @cons p q ps qs h t ih =>
    rw [List.map_cons, List.map_cons]
    refine .cons ?_ ih
    obtain ⟨h1, h2⟩ := h
    by_cases e : p.1 = k
    · rw [if_pos e, if_pos (h1.symm.trans e)]; exact ⟨h1, ry⟩
    · rw [if_neg e, if_neg (fun z => e (h1.trans z))]; exact ⟨h1, h2⟩
theorem KV.put {kvs : List (κ × V)} {vs : List (κ × Value)} (r : KV kvs vs) (k : κ) {y : V} {u : Value} (ry : RelV y u) : KV (putK kvs k y) (stored vs k u) := by
  unfold putK stored
  rw [r.any k]
  by_cases e : (vs.any fun kv => decide (kv.1 = k)) = true
  · rw [if_pos e, if_pos e]; exact r.repl k ry
  · rw [if_neg e, if_neg e]; exact Paired.snoc r ⟨rfl, ry⟩
theorem KV.length {kvs : List (κ × V)} {vs : List (κ × Value)} (r : KV kvs vs) : kvs.length = vs.length := Paired.length r
end
theorem kV_is {P : Program} {w : World} {k : Key} {u : Value} (r : RelV (kV k) u) : (mixKind P w).is k u = true := by
  cases k with
  | inl i => obtain ⟨t, e⟩ := (show ∃ t, u = Value.int i t from r); subst e; exact mixKind_int P w i t
  | inr x => obtain ⟨t, e⟩ := (show ∃ t, u = Value.str x t from r); subst e; exact mixKind_str P w x t
theorem items_are {P : Program} {w : World} : ∀ {ks : List Key} {us : List Value}, Vals (ks.map kV) us → ItemsAre (mixKind P w) ks us
  | [], _, r => by rw [List.map_nil] at r; cases r; exact .nil
  | k :: ks, _, r => by
    rw [List.map_cons] at r
    cases r with
    | cons h t => exact .cons (kV_is h) (items_are t)
abbrev KT (H : Hp) : List (List Key × V) → List (List Key × Addr × Value) → Prop := Paired fun p q => p.1 = q.1 ∧ H q.2.1 = some (.tup (p.1.map kV)) ∧ RelV p.2 q.2.2
theorem KT.val {H : Hp} {kvs : List (List Key × V)} {xs : List (List Key × Addr × Value)} (r : KT H kvs xs) (k : List Key) : RelO (valV kvs k) ((atKey xs k).map (·.2)) := by
  induction r with
  | nil => exact True.intro
  | @cons p q ps qs h t ih =>
    obtain ⟨h1, _, h2⟩ := h
    by_cases e : p.1 = k
    · have e' : q.1 = k := h1.symm.trans e
      have b : atKey (q :: qs) k = some q.2 := by simp [atKey, List.find?_cons, e']
      rw [valV_pos e, b]; exact h2
    · have e' : ¬ q.1 = k := fun z => e (h1.trans z)
      have b : atKey (q :: qs) k = atKey qs k := by simp [atKey, List.find?_cons, e']
      rw [valV_neg e, b]; exact ih
theorem KT.repl {H : Hp} {kvs : List (List Key × V)} {xs : List (List Key × Addr × Value)} (r : KT H kvs xs) (k : List Key) {y : V} {u : Value} (ry : RelV y u) :
    KT H (kvs.map fun kv => if kv.1 = k then (kv.1, y) else kv) (xs.map (putAt k u)) := by
  induction r with
  | nil => exact .nil
  | @cons p q ps qs h t ih =>
    rw [List.map_cons, List.map_cons]
    refine .cons ?_ ih
    obtain ⟨h1, h2, h3⟩ := h
    unfold putAt
    by_cases e : p.1 = k
    · rw [if_pos e, if_pos (h1.symm.trans e)]; exact ⟨h1, h2, ry⟩
    · rw [if_neg e, if_neg (fun z => e (h1.trans z))]; exact ⟨h1, h2, h3⟩
theorem KT.put {H : Hp} {kvs : List (List Key × V)} {xs : List (List Key × Addr × Value)} (r : KT H kvs xs) (k : List Key) {b : Addr} {y : V} {u : Value} (hb : H b = some (.tup (k.map kV))) (ry : RelV y u) :
    KT H (putK kvs k y) (storedH xs k b u) := by
  have e : (kvs.any fun kv => decide (kv.1 = k)) = (atKey xs k).isSome := by
    rw [valV_any, (r.val k).isSome_eq, Option.isSome_map]
  unfold putK storedH
  rw [e]
  by_cases q : (atKey xs k).isSome = true
  · rw [if_pos q, if_pos q]; exact r.repl k ry
  · rw [if_neg q, if_neg q]; exact Paired.snoc r ⟨rfl, hb, ry⟩
theorem KT.keeps {H H' : Hp} {kvs : List (List Key × V)} {xs : List (List Key × Addr × Value)} (r : KT H kvs xs) (ht : ∀ b ys, H b = some (.tup ys) → H' b = some (.tup ys)) : KT H' kvs xs :=
  Paired.mapP r fun _ _ z => ⟨z.1, ht _ _ z.2.1, z.2.2⟩
section
variable {P : Program} {w : World} {H : Hp} {h : Heap} {a : Addr}
theorem rd_of {u : HO} (ok : HOk P w H h) (e : Rd H a u) : ObjOk P w H h a u := e.ok ok
theorem dk_rd {kvs : List (Key × V)} (ok : HOk P w H h) (e : Rd H a (.dK kvs)) : kvs.length ≤ sizeLine ∧ (a == sysModules) = false ∧ ∃ vs, KV kvs vs ∧ h.DictOf (mixKind P w) a vs :=
  show ObjOk P w H h a (.dK kvs) from rd_of ok e
theorem dk_of {kvs : List (Key × V)} (ok : HOk P w H h) (e : H a = some (.dK kvs)) : kvs.length ≤ sizeLine ∧ (a == sysModules) = false ∧ ∃ vs, KV kvs vs ∧ h.DictOf (mixKind P w) a vs := dk_rd ok (.inl e)
theorem key_of {ks : List Key} (ok : HOk P w H h) (e : H a = some (.tup (ks.map kV))) : (tupleKind (mixKind P w)).is h ks a := by
  obtain ⟨_, its, r, o, h1, h2, n, h3⟩ := (show ObjOk P w H h a (.tup (ks.map kV)) from ok a _ e)
  exact ⟨o, its.toArray, n, h1, h2, h3, by simpa using items_are r⟩
theorem dt_rd {kvs : List (List Key × V)} (ok : HOk P w H h) (e : Rd H a (.dT kvs)) : kvs.length ≤ sizeLine ∧ (a == sysModules) = false ∧
    ∃ xs, KT H kvs xs ∧ h.DictOfH (tupleKind (mixKind P w)) a xs := by
  obtain ⟨z, y, xs, r, o, es, ep, h1, h2, h3, h4, h5⟩ := (show ObjOk P w H h a (.dT kvs) from rd_of ok e)
  refine ⟨z, y, xs, r, o, es, ep, h1, h2, h3, h4, fun x hx => ?_, h5⟩
  have all : ∀ {l : List (List Key × V)} {m : List (List Key × Addr × Value)}, KT H l m → ∀ x ∈ m, (tupleKind (mixKind P w)).is h x.1 x.2.1 := by
    intro l m q
    induction q with
    | nil => intro x hx; exact nomatch hx
    | @cons p q ps qs hq t ih =>
      intro x hx
      rcases List.mem_cons.mp hx with e | hx
      · subst e
        exact key_of ok (by rw [← hq.1]; exact hq.2.1)
      · exact ih x hx
  exact all r x hx
theorem dt_of {kvs : List (List Key × V)} (ok : HOk P w H h) (e : H a = some (.dT kvs)) : kvs.length ≤ sizeLine ∧ (a == sysModules) = false ∧
    ∃ xs, KT H kvs xs ∧ h.DictOfH (tupleKind (mixKind P w)) a xs := dt_rd ok (.inl e)
end
def DGet (H : Hp) (a : Addr) (y : V) (r : Option V) : Prop :=
  (∃ kvs k, Rd H a (.dK kvs) ∧ y = kV k ∧ r = valV kvs k) ∨ ∃ kvs k b, Rd H a (.dT kvs) ∧ y = .ref b ∧ H b = some (.tup (k.map kV)) ∧ r = valV kvs k
def DPut (H : Hp) (a : Addr) (y v : V) (H' : Hp) : Prop :=
  (∃ kvs k, H a = some (.dK kvs) ∧ y = kV k ∧ kvs.length < sizeLine ∧ H' = upd H a (.dK (putK kvs k v))) ∨
  ∃ kvs k b, H a = some (.dT kvs) ∧ y = .ref b ∧ H b = some (.tup (k.map kV)) ∧ kvs.length < sizeLine ∧ H' = upd H a (.dT (putK kvs k v))
theorem DGet.k {H : Hp} {a : Addr} {kvs : List (Key × V)} {k : Key} (e : H a = some (.dK kvs)) : DGet H a (kV k) (valV kvs k) := .inl ⟨kvs, k, .inl e, rfl, rfl⟩
theorem DPut.k {H : Hp} {a : Addr} {kvs : List (Key × V)} {k : Key} {v : V} (e : H a = some (.dK kvs)) (hl : kvs.length < sizeLine) : DPut H a (kV k) v (upd H a (.dK (putK kvs k v))) := .inl ⟨kvs, k, e, rfl, hl, rfl⟩
section
variable {X : Cx} {pins : List (Addr × Obj)} {σ : St} {H : Hp} {s : Shared} {a : Addr} {y v : V} {u r : Value} {o : Option V} {A : Around} {E : Value → Shared → Prop}
theorem Inv.big (I : Inv X pins σ H s) : sysModules < s.heap.objs.size := by
  have h : mainGlobals < s.heap.objs.size := (I.mod.glob.keeps I.bk).lt
  exact Nat.lt_trans (by decide) h
theorem d_getItem {Q : Value → Shared → Prop} (hu : A.units + 1 < cLine) (I : Inv X pins σ H s) (g : DGet H a y (some v)) (ry : RelV y u) (h : ∀ w' s', Inv X pins σ H s' → RelV v w' → Q w' s') :
    wpAny (model X.prog X.w) A (getItem (.ref a) u) Q E s := by
  rcases g with ⟨kvs, k, e, ey, l⟩ | ⟨kvs, k, b, e, ey, eb, l⟩
  · subst ey
    obtain ⟨z, hd, vs, rel, dd⟩ := dk_rd I.hok e
    obtain ⟨w', hw, rw'⟩ := RelO.some_of (v := v) (o := valueAt vs k) (by rw [l]; exact rel.val k)
    exact wpAny_getItem_of (kV_is ry) dd.mapOf hw (h w' _ (I.tok _) rw')
  · subst ey
    cases (show u = Value.ref b from ry)
    obtain ⟨z, hd, xs, rel, dd⟩ := dt_rd I.hok e
    obtain ⟨w', hw, rw'⟩ := RelO.some_of (v := v) (o := (atKey xs k).map (·.2)) (by rw [l]; exact rel.val k)
    obtain ⟨p, hp, hp2⟩ := Option.map_eq_some_iff.mp hw
    refine wpAny_getItem_heap (tupleKind_room_in1 hu) (key_of I.hok eb) dd hp ?_
    rw [hp2]
    exact h w' _ (I.tok _) rw'
theorem d_in {Q : Value → Shared → Prop} (hu : A.units + 1 < cLine) (I : Inv X pins σ H s) (g : DGet H a y o) (ry : RelV y u) (h : ∀ s', Inv X pins σ H s' → Q (.bool o.isSome) s') :
    wpAny (model X.prog X.w) A (compareOp .In u (.ref a)) Q E s := by
  rcases g with ⟨kvs, k, e, ey, l⟩ | ⟨kvs, k, b, e, ey, eb, l⟩
  · subst ey
    obtain ⟨z, hd, vs, rel, dd⟩ := dk_rd I.hok e
    refine wpAny_in_of (kV_is ry) hd dd.mapOf ?_
    rw [← (rel.val k).isSome_eq, ← l]
    exact h _ (I.tok _)
  · subst ey
    cases (show u = Value.ref b from ry)
    obtain ⟨z, hd, xs, rel, dd⟩ := dt_rd I.hok e
    refine wpAny_in_heap (tupleKind_room_in1 hu) (key_of I.hok eb) hd dd ?_
    have q := (rel.val k).isSome_eq
    rw [Option.isSome_map] at q
    rw [← q, ← l]
    exact h _ (I.tok _)
theorem d_notIn {Q : Value → Shared → Prop} (hu : A.units + 1 < cLine) (I : Inv X pins σ H s) (g : DGet H a y o) (ry : RelV y u) (h : ∀ s', Inv X pins σ H s' → Q (.bool (!o.isSome)) s') :
    wpAny (model X.prog X.w) A (compareOp .NotIn u (.ref a)) Q E s := by
  rcases g with ⟨kvs, k, e, ey, l⟩ | ⟨kvs, k, b, e, ey, eb, l⟩
  · subst ey
    obtain ⟨z, hd, vs, rel, dd⟩ := dk_rd I.hok e
    refine wpAny_notIn_of (kV_is ry) hd dd.mapOf ?_
    rw [← (rel.val k).isSome_eq, ← l]
    exact h _ (I.tok _)
  · subst ey
    cases (show u = Value.ref b from ry)
    obtain ⟨z, hd, xs, rel, dd⟩ := dt_rd I.hok e
    refine wpAny_notIn_heap (tupleKind_room_in1 hu) (key_of I.hok eb) hd dd ?_
    have q := (rel.val k).isSome_eq
    rw [Option.isSome_map] at q
    rw [← q, ← l]
    exact h _ (I.tok _)
theorem d_write {h' : Heap} {t' : Nat} {ob : HO} (I : Inv X pins σ H s) (mu : Mut (H a)) (hs : Heap.SameBut a s.heap h') (he : ∃ q, h'.get? a = some q) (new : ObjOk X.prog X.w (upd H a ob) h' a ob) :
    Inv X pins σ (upd H a ob) { s with heap := h', toks := t' } :=
  I.write (x := a) (e := a) mu (.inl rfl) (fun b q hb z => (hs.2 b hb).trans z) he new
theorem dk_new {P : Program} {w : World} {H' : Hp} {h' : Heap} {kvs : List (Key × V)} {vs : List (Key × Value)} (z : kvs.length ≤ sizeLine) (hd : (a == sysModules) = false) (rel : KV kvs vs) (dd : h'.DictOf (mixKind P w) a vs) :
    ObjOk P w H' h' a (.dK kvs) := ⟨z, hd, vs, rel, dd⟩
theorem d_setItem {H' : Hp} {Q : Unit → Shared → Prop} (hu : A.units + 1 < cLine) (I : Inv X pins σ H s) (g : DPut H a y v H') (ry : RelV y u) (rv : RelV v r) (h : ∀ s', Inv X pins σ H' s' → Q () s') :
    wpAny (model X.prog X.w) A (setItem (.ref a) u r) Q E s := by
  rcases g with ⟨kvs, k, e, ey, l, eH⟩ | ⟨kvs, k, b, e, ey, eb, l, eH⟩
  · subst ey eH
    obtain ⟨z, hd, vs, rel, dd⟩ := dk_of I.hok e
    have hz : vs.length ≤ sizeLine := by rw [← rel.length]; exact z
    have hl : (putK kvs k v).length ≤ sizeLine := by have := length_putK kvs k v; omega
    refine wpAny_setItem_pairs (hsz := hz) (kV_is ry) dd fun h' dd' hs => h _ ?_
    have he : ∃ q, h'.get? a = some q := let ⟨q, _, _, hq, _⟩ := dd'; ⟨q, hq⟩
    exact d_write I (by rw [e]; exact True.intro) hs he (dk_new hl hd (rel.put k rv) dd')
  · subst ey eH
    cases (show u = Value.ref b from ry)
    obtain ⟨z, hd, xs, rel, dd⟩ := dt_of I.hok e
    have hz : xs.length ≤ sizeLine := by rw [← Paired.length rel]; exact z
    have hl : (putK kvs k v).length ≤ sizeLine := by have := length_putK kvs k v; omega
    refine wpAny_setItem_heap (hsz := hz) (tupleKind_room_in1 hu) (key_of I.hok eb) dd fun h' dd' hs => h _ ?_
    obtain ⟨q, es, ep, hq, h2, h3, h4, _, h5⟩ := dd'
    refine d_write I (by rw [e]; exact True.intro) hs ⟨q, hq⟩ ⟨hl, hd, _, (rel.put k eb rv).keeps fun c ys ec => ?_, q, es, ep, hq, h2, h3, h4, h5⟩
    rw [upd_ne (ne_of ec e (fun z => nomatch z))]
    exact ec
end
section
variable {X : Cx} {pins : List (Addr × Obj)} {σ : St} {H : Hp} {s : Shared} {a : Addr} {kvs : List (Key × V)} {k : Key} {u : Value} {A : Around} {E : Value → Shared → Prop}
end
theorem dict_typeIs {X : Cx} {pins : List (Addr × Obj)} {σ : St} {H : Hp} {s : Shared} {a : Addr} {y : V} {o : Option V} (I : Inv X pins σ H s) (g : DGet H a y o) : s.TypeIs (.ref a) "dict" := by
  rcases g with ⟨kvs, k, e, _, _⟩ | ⟨kvs, k, b, e, _, _, _⟩
  · obtain ⟨_, _, vs, _, dd⟩ := dk_rd I.hok e
    exact dd.typeIs
  · obtain ⟨_, _, xs, _, dd⟩ := dt_rd I.hok e
    exact dd.typeIs
section
variable {X : Cx} {o i e value : Expr} {pos pos' tpos : Pos} {td ty tv : TE}
end
theorem dk_empty {P : Program} {w : World} {H : Hp} (h : Heap) (hb : sysModules < h.objs.size) : ObjOk P w H (h.push { cls := .type "dict", data := .dict #[] }) h.objs.size (.dK []) :=
  ⟨Nat.zero_le _, beq_eq_false_iff_ne.mpr (Ne.symm (Nat.ne_of_lt hb)), [], .nil, Heap.DictOf.new h⟩
def tDNewK : TE := fun _ H Q => ∀ p, H p = none → Q (.ref p) (upd H p (.dK []))
section
variable {X : Cx} {pos : Pos}
theorem pe_dnewK : PE X (.Dict [] [] pos) tDNewK := fun pins s σ H Q I h =>
  wpAny_Dict_empty ⟨.ref s.heap.objs.size, _, I.laid (a := s.heap.objs.size) (o := .dK []) (t' := s.toks) (fun _ _ q => Heap.get?_push_of_some _ q) (Nat.le_refl _) (dk_empty s.heap I.big), rfl, h _ (I.hok.fresh (Nat.le_refl _))⟩
end
def tPairs : List (TE × TE) → St → Hp → (List (V × V) → Hp → Prop) → Prop
  | [], _, H, Q => Q [] H
  | (tk, tv) :: r, σ, H, Q => tk σ H fun x H1 => tv σ H1 fun y H2 => tPairs r σ H2 fun ps H3 => Q ((x, y) :: ps) H3
abbrev VV : List (V × V) → List (Value × Value) → Prop := Paired fun p q => RelV p.1 q.1 ∧ RelV p.2 q.2
def PPs (X : Cx) (pos : Pos) (keys : List (Option Expr)) (values : List Expr) (trs : List (TE × TE)) : Prop :=
  ∀ (pins : List (Addr × Obj)) (s : Shared) (σ : St) (H : Hp) (Q : List (V × V) → Hp → Prop), Inv X pins σ H s → tPairs trs σ H Q →
    wpAny (model X.prog X.w) X.A (evalPairs (pairTrees keys values X.env pos)) (fun vs s' => ∃ ps H', Inv X pins σ H' s' ∧ VV ps vs ∧ Q ps H') X.xe s
theorem pps_nil {X : Cx} {pos : Pos} : PPs X pos [] [] [] := fun pins s σ H Q I h => pairTrees_nil_walk ⟨[], H, I, .nil, h⟩
theorem pps_cons {X : Cx} {pos : Pos} {k v : Expr} {ks : List (Option Expr)} {vs : List Expr} {tk tv : TE} {trs : List (TE × TE)} (hk : PE X k tk) (hv : PE X v tv) (hr : PPs X pos ks vs trs) :
    PPs X pos (some k :: ks) (v :: vs) ((tk, tv) :: trs) := fun pins s σ H Q I h =>
  pairTrees_cons_walk (thn (hk pins s σ H _ I h) fun u s1 ⟨x, H1, I1, rx, q1⟩ => thn (hv pins s1 σ H1 _ I1 q1) fun w2 s2 ⟨y, H2, I2, ry, q2⟩ =>
    thn (hr pins s2 σ H2 _ I2 q2) fun ws s3 ⟨ps, H3, I3, rel, q3⟩ => ⟨(x, y) :: ps, H3, I3, .cons ⟨rx, ry⟩ rel, q3⟩)
def mergeK (kvs more : List (Key × V)) : List (Key × V) := more.foldl (fun acc kv => putK acc kv.1 kv.2) kvs
theorem KV.merge : ∀ {more : List (Key × V)} {rs : List (Key × Value)} {kvs : List (Key × V)} {vs : List (Key × Value)}, KV more rs → KV kvs vs → KV (mergeK kvs more) (merged vs rs) := by
  intro more rs kvs vs r
  unfold KV at r
  induction r generalizing kvs vs with
  | nil => intro q; exact q
  | @cons p q ps qs h t ih =>
    intro r0
    have e : KV (putK kvs p.1 p.2) (stored vs q.1 q.2) := by
      have := r0.put p.1 h.2
      rw [← h.1]; exact this
    exact ih e
theorem length_mergeK : ∀ (more kvs : List (Key × V)), (mergeK kvs more).length ≤ kvs.length + more.length
  | [], kvs => by show kvs.length ≤ kvs.length + 0; omega
  | p :: r, kvs => by
    have h1 := length_mergeK r (putK kvs p.1 p.2)
    have h2 := length_putK kvs p.1 p.2
    show (mergeK (putK kvs p.1 p.2) r).length ≤ _
    rw [List.length_cons]; omega
theorem carries_of {P : Program} {w : World} : ∀ {kvs : List (Key × V)} {ws : List (Value × Value)}, VV (kvs.map fun kv => (kV kv.1, kv.2)) ws → ∃ rs, Carries (mixKind P w) ws rs ∧ KV kvs rs
  | [], _, r => by rw [List.map_nil] at r; cases r; exact ⟨[], True.intro, .nil⟩
  | p :: kvs, _, r => by
    rw [List.map_cons] at r
    cases r with
    | @cons a b as bs h t =>
      obtain ⟨rs, c, q⟩ := carries_of (P := P) (w := w) t
      obtain ⟨b1, b2⟩ := b
      exact ⟨(p.1, b2) :: rs, ⟨kV_is h.1, rfl, c⟩, .cons ⟨rfl, h.2⟩ q⟩
def tDisp (trs : List (TE × TE)) : TE := fun σ H Q => ∀ p, H p = none → tPairs trs σ (upd H p (.dK [])) fun ps H2 => H2 p = some (.dK []) ∧ ∃ kvs : List (Key × V), ps = kvs.map (fun kv => (kV kv.1, kv.2)) ∧ kvs.length ≤ 15 ∧ Q (.ref p) (upd H2 p (.dK (mergeK [] kvs)))
theorem pe_disp {X : Cx} {pos : Pos} {keys : List (Option Expr)} {values : List Expr} {trs : List (TE × TE)} (h : PPs X pos keys values trs) (hall : keys.all (·.isSome) = true) (hl : keys.length = values.length) (h0 : keys ≠ [])
    (h15 : keys.length ≤ 15) : PE X (.Dict keys values pos) (tDisp trs) := by
  intro pins s σ H Q I q
  have hn := I.hok.fresh (Nat.le_refl s.heap.objs.size)
  have I1 := I.laid (a := s.heap.objs.size) (o := .dK []) (h' := s.heap.push { cls := .type "dict", data := .dict #[] }) (t' := s.toks) (fun _ _ q => Heap.get?_push_of_some _ q) (Nat.le_refl _) (dk_empty s.heap I.big)
  refine wpAny_Dict_walk (knd := mixKind X.prog X.w) hall hl h0 h15 (thn (h pins _ σ _ _ I1 (q _ hn)) fun ws s2 ⟨ps, H2, I2, rel, e, kvs, ep, lk, q2⟩ => ?_)
  subst ep
  obtain ⟨rs, c, rk⟩ := carries_of (P := X.prog) (w := X.w) rel
  obtain ⟨z, hd, vs0, r0, dd⟩ := dk_of I2.hok e
  cases r0
  refine ⟨rs, c, dd, fun h' dd' hs => ⟨.ref s.heap.objs.size, _, ?_, rfl, q2⟩⟩
  have hz : (mergeK [] kvs).length ≤ sizeLine := by
    have h1 := length_mergeK kvs []
    rw [List.length_nil] at h1
    rw [sizeLine_eq]; omega
  have he : ∃ q, h'.get? s.heap.objs.size = some q := let ⟨q, _, _, hq, _⟩ := dd'; ⟨q, hq⟩
  exact d_write I2 (by rw [e]; exact True.intro) hs he (dk_new hz hd (rk.merge .nil) dd')
structure M1 (X : Cx) (o : Expr) (m : Str) (apos : Pos) (e : Expr) (cpos : Pos) : Prop where
  base : attributeBase o m X.env (eval o X.env) = eval o X.env
  few : ((backTo cpos (starEach [e] X.env)).all (fun x => !x.1) && (backToKw cpos (keywordEach [] X.env)).all (fun x => x.1.isSome)
    && decide (([e] : List Expr).length + ([] : List Keyword).length + (if ([] : List Keyword).isEmpty then 0 else 1) < 30)) = true
  line : (apos.endLine == cpos.line) = true
  trees : backTo cpos (starEach [e] X.env) = [(false, eval e X.env)]
structure M2 (X : Cx) (o : Expr) (m : Str) (apos : Pos) (e f : Expr) (cpos : Pos) : Prop where
  base : attributeBase o m X.env (eval o X.env) = eval o X.env
  few : ((backTo cpos (starEach [e, f] X.env)).all (fun x => !x.1) && (backToKw cpos (keywordEach [] X.env)).all (fun x => x.1.isSome)
    && decide (([e, f] : List Expr).length + ([] : List Keyword).length + (if ([] : List Keyword).isEmpty then 0 else 1) < 30)) = true
  line : (apos.endLine == cpos.line) = true
  trees : backTo cpos (starEach [e, f] X.env) = [(false, eval e X.env), (false, eval f X.env)]
section
variable {X : Cx} {pins : List (Addr × Obj)} {σ : St} {H : Hp} {s : Shared} {a : Addr} {y d : V} {u r : Value} {o : Option V} {A : Around} {E : Value → Shared → Prop}
end
section
variable {X : Cx} {o e f : Expr} {apos cpos : Pos} {td ty tx : TE}
end
section
variable {X : Cx} {pins : List (Addr × Obj)} {σ : St} {H : Hp} {s : Shared} {a : Addr} {kvs : List (Key × V)} {A : Around} {E : Value → Shared → Prop}
end
section
variable {X : Cx} {pins : List (Addr × Obj)} {σ : St} {H : Hp} {s : Shared} {a : Addr} {y : V} {u : Value} {A : Around} {E : Value → Shared → Prop}
end
end L2
namespace L2
open PySem PySem.Spec PyProof.Rows
def WeakS (st st2 : St) : Prop := st.length = st2.length ∧ ∀ (i : Nat) v, st[i]? = some (some v) → st2[i]? = some (some v)
def cxComp (X : Cx) (scope : Scope) (N : List Str) (cl : List (Str × Addr)) (s : Shared) (H : Hp) (C : Addr) (ex : List Addr) : Cx where
  prog := X.prog
  w := X.w
  K := X.K
  mg := X.mg
  base := X.base
  A := X.A
  N := N
  s₀ := s
  H₀ := H
  env := compEnvC scope cl C X.env
  outer := X.stack
  stack := X.stack
  ex := ex
  fn := fun _ => false
  calm := X.calm
  pn := []
  xe := fun _ _ => False
def clOf (env : Env) : List (Str × NameKind) → List (Str × Addr) → List (Str × Addr)
  | [], acc => acc
  | (n, k) :: r, acc => if k == .free then (match env.cells.lookup n with | some c => clOf env r ((n, c) :: acc) | none => clOf env r acc) else clOf env r acc
theorem clOf_sub {env : Env} : ∀ (ns : List (Str × NameKind)) (acc : List (Str × Addr)), (∀ x c, acc.lookup x = some c → env.cells.lookup x = some c) → ∀ x c, (clOf env ns acc).lookup x = some c → env.cells.lookup x = some c
  | [], _, h => h
  | (n, k) :: r, acc, h => by
    unfold clOf
    split
    · split
      · rename_i c hc
        refine clOf_sub r _ fun x d e => ?_
        rw [List.lookup_cons] at e
        cases hx : x == n with
        | true =>
          rw [hx] at e
          have : x = n := by simpa using hx
          subst this
          cases e
          exact hc
        | false =>
          rw [hx] at e
          exact h x d e
      · exact clOf_sub r _ h
    · exact clOf_sub r _ h
theorem clOf_has {env : Env} : ∀ (ns : List (Str × NameKind)) (acc : List (Str × Addr)) (x : Str), ((∃ c, acc.lookup x = some c) ∨ ((x, NameKind.free) ∈ ns ∧ ∃ c, env.cells.lookup x = some c)) → ∃ c, (clOf env ns acc).lookup x = some c
  | [], acc, x, h => by
    rcases h with h | ⟨h, _⟩
    · exact h
    · cases h
  | (n, k) :: r, acc, x, h => by
    unfold clOf
    split
    · rename_i hk
      split
      · rename_i c hc
        refine clOf_has r _ x ?_
        by_cases hx : x = n
        · subst hx
          exact .inl ⟨c, by rw [List.lookup_cons]; simp⟩
        · have hb : (x == n) = false := by simpa using hx
          rcases h with ⟨d, h⟩ | ⟨h, d⟩
          · exact .inl ⟨d, by rw [List.lookup_cons, hb]; exact h⟩
          · rcases List.mem_cons.mp h with h | h
            · cases h; exact absurd rfl hx
            · exact .inr ⟨h, d⟩
      · rename_i hc
        refine clOf_has r _ x ?_
        rcases h with h | ⟨h, d, hd⟩
        · exact .inl h
        · rcases List.mem_cons.mp h with h | h
          · cases h
            rw [hc] at hd; cases hd
          · exact .inr ⟨h, d, hd⟩
    · rename_i hk
      refine clOf_has r _ x ?_
      rcases h with h | ⟨h, d⟩
      · exact .inl h
      · rcases List.mem_cons.mp h with h | h
        · cases h
          exact absurd rfl hk
        · exact .inr ⟨h, d⟩
theorem cellOf_ok {env : Env} {x : Str} {c : Addr} (h : env.cells.lookup x = some c) : cellOf env x = pure c := by
  unfold cellOf
  rw [h]
theorem closure_ok {env : Env} : ∀ (ns : List (Str × NameKind)) (acc : List (Str × Addr)), (∀ x, (x, NameKind.free) ∈ ns → ∃ c, env.cells.lookup x = some c) →
    (forIn ns acc fun (x : Str × NameKind) (r : List (Str × Addr)) => (match x with
      | (name, kind) => if kind == NameKind.free then (do let c ← cellOf env name; pure (ForInStep.yield ((name, c) :: r))) else pure (ForInStep.yield r) : Sem (ForInStep (List (Str × Addr))))) = pure (clOf env ns acc)
  | [], acc, _ => rfl
  | (n, k) :: r, acc, h => by
    rw [List.forIn_cons]
    unfold clOf
    have hr : ∀ x, (x, NameKind.free) ∈ r → ∃ c, env.cells.lookup x = some c := fun x hx => h x (List.mem_cons_of_mem _ hx)
    by_cases hk : k = .free
    · subst hk
      obtain ⟨c, hc⟩ := h n (List.mem_cons_self ..)
      dsimp only
      rw [hc, cellOf_ok hc]
      simp only [beq_self_eq_true, if_true, pure_bind]
      exact closure_ok r _ hr
    · have hb : (k == NameKind.free) = false := by simpa using hk
      simp only [hb, Bool.false_eq_true, if_false, pure_bind]
      exact closure_ok r _ hr
theorem closureFor_ok {scope : Scope} {env : Env} (h : ∀ x, (x, NameKind.free) ∈ scope.names → ∃ c, env.cells.lookup x = some c) : closureFor scope env = pure (clOf env scope.names []) := by
  unfold closureFor
  have q := closure_ok (env := env) scope.names [] h
  simp only [bind_pure]
  refine Eq.trans ?_ q
  congr 1
theorem mem_of_look {ns : List (Str × NameKind)} {x : Str} {k : NameKind} (h : ns.lookup x = some k) : (x, k) ∈ ns := by
  induction ns with
  | nil => cases h
  | cons a r ih =>
    obtain ⟨n, k'⟩ := a
    rw [List.lookup_cons] at h
    cases hx : x == n with
    | true =>
      rw [hx] at h
      have e : x = n := by simpa using hx
      subst e
      cases h
      exact List.mem_cons_self ..
    | false =>
      rw [hx] at h
      exact List.mem_cons_of_mem _ (ih h)
theorem relabel_mem {scope : Scope} {env : Env} {x : Str} {k : NameKind} (h : (relabel scope env).names.lookup x = some k) (hc : k = .cell ∨ k = .free) (nc : ∀ y ∈ scope.names, y.2 ≠ .cell) : (x, NameKind.free) ∈ scope.names := by
  have m := mem_of_look h
  obtain ⟨⟨n, k'⟩, hm, e⟩ := List.mem_map.mp m
  dsimp only at e
  split at e
  · rename_i hq
    cases e
    have : k' = .free := by
      simp only [Bool.and_eq_true, beq_iff_eq] at hq
      exact hq.1.1
    subst this
    exact hm
  · cases e
    rcases hc with rfl | rfl
    · exact absurd rfl (nc _ hm)
    · exact hm
section
variable {X : Cx} {pins : List (Addr × Obj)} {σ : St} {H : Hp} {s : Shared} {scope : Scope} {N : List Str} {C : Addr} {ex : List Addr}
theorem Inv.compOk (I : Inv X pins σ H s) (hk : scope.kind = .function) (nc : ∀ y ∈ scope.names, y.2 ≠ .cell) (hf : ∀ x, (x, NameKind.free) ∈ scope.names → ∃ c, X.env.cells.lookup x = some c) (hC : s.heap.objs.size ≤ C) (hex : ∀ b ∈ ex, FpOk X pins H b) (hxs : ∀ b ∈ ex, b < s.heap.objs.size) :
    (cxComp X scope N (clOf X.env scope.names []) s H C ex).Ok where
  mod := I.ok.mod
  kind := hk
  glob := I.ok.glob
  blt := I.ok.blt
  above := hC
  inj := fun x y c e1 e2 => I.ok.inj x y c (clOf_sub _ _ (fun _ _ z => by cases z) x c e1) (clOf_sub _ _ (fun _ _ z => by cases z) y c e2)
  has := fun x h => by
    have m : (x, NameKind.free) ∈ scope.names := by
      rcases h with h | h
      · exact relabel_mem h (.inl rfl) nc
      · exact relabel_mem h (.inr rfl) nc
    exact clOf_has _ _ x (.inr ⟨m, hf x m⟩)
  cab := fun x c h => by cases h
  hd := I.ok.hd
  frames := I.ok.frames
  stk := .inl rfl
  exf := fun b hb => ⟨fun z => by
      have z' : b = C := z
      exact Nat.lt_irrefl _ (Nat.lt_of_lt_of_le (hxs b hb) (by rw [z']; exact hC)), fun x c e => (hex b hb).2.2.2.2.1 x c (clOf_sub _ _ (fun _ _ z => by cases z) x c e)⟩
  bs := I.bs
  bsz := Nat.le_trans I.ok.bsz I.sz
  noex := fun b o e hb => by
    rcases (hex b hb).2.2.2.1 with z | z
    · exact I.ok.noex b o e z
    · exact Nat.lt_irrefl _ (Nat.lt_of_lt_of_le (Heap.lt_size e) (Nat.le_trans I.ok.bsz z))
  exfs := fun b hb z => by
    rcases List.mem_cons.mp (I.stkSub b z) with q | q
    · exact (hex b hb).2.1 q
    · exact (hex b hb).2.2.1 q
  funs := I.stack
  frf := I.stkFree
theorem compLoop_go {prog : Program} {w : World} {A : Around} {R : Result → Shared → Prop} {elt target iter : Expr} {ifs : List Expr} {scope : Scope} {pos : Pos} {it acc : Value} {env : Env} {s : Shared} (J : Nat → Shared → Prop)
    (turn : ∀ n s, J n s → wpAny (model prog w) A (pyNext it) (fun r s1 => match r with
      | none => R (.ok .next) s1
      | some v => wpAny (model prog w) A (letOwnedTupleGo target it v) (fun _ s1' => wpAny (model prog w) A (assign target env v) (fun _ s2 =>
          wpAny (model prog w) A (forIn ifs true fun c r => if r = true then do let ok ← isTrue c env (eval c env); pure (ForInStep.yield ok) else pure (ForInStep.yield r)) (fun ok s3 =>
            if ok = true then wpAny (model prog w) A (eval elt env) (fun x s4 =>
              wpAny (model prog w) A (call (.builtin "list.append") [acc, x]) (fun _ s5 => ∃ m, m < n ∧ J m s5) (notedBy (model prog w) A env fun e s' => R (.error e) s') s4) (notedBy (model prog w) A env fun e s' => R (.error e) s') s3
            else ∃ m, m < n ∧ J m s3) (notedBy (model prog w) A env fun e s' => R (.error e) s') s2) (notedBy (model prog w) A env fun e s' => R (.error e) s') s1') (notedBy (model prog w) A env fun e s' => R (.error e) s') s1) (notedBy (model prog w) A env fun e s' => R (.error e) s') s)
    (n : Nat) (h : J n s) :
    codeAny (model prog w) A (.compLoop (.ListComp elt [⟨target, iter, ifs, 0⟩] scope pos) 0 it acc env) R s := by
  refine codeAny_loop rfl J (fun n s hI => ?_) n h
  show wpAny _ A ((compTurn (.ListComp elt [⟨target, iter, ifs, 0⟩] scope pos) 0 it acc env).onRaise (fun x => do noteFrame x env; theTreesLotGoes x)) _ _ s
  refine wpAny_noted ?_
  rw [compTurn_list]
  refine wpAny_bind (wpAny_standAt (wpAny_bind (wpAny_mono (turn n s hI) (fun r s1 h1 => ?_) fun _ _ h' => h')))
  cases r with
  | none => exact wpAny_pure h1
  | some v =>
    refine wpAny_bind (wpAny_mono h1 (fun _ s1' h1' => ?_) fun _ _ h' => h')
    refine wpAny_bind (wpAny_mono h1' (fun _ s2 h2 => wpAny_bind (wpAny_mono h2 (fun ok s3 h3 => ?_) fun _ _ h' => h')) fun _ _ h' => h')
    cases ok with
    | false => exact wpAny_pure ⟨rfl, h3⟩
    | true =>
      exact wpAny_bind (wpAny_bind (wpAny_mono h3 (fun x s4 h4 => wpAny_bind (wpAny_mono h4 (fun _ s5 h5 => wpAny_pure (wpAny_pure ⟨rfl, h5⟩)) fun _ _ h' => h')) fun _ _ h' => h'))
def PTs (X : Cx) (ifs : List Expr) (t : TT) : Prop :=
  ∀ (pins : List (Addr × Obj)) (s : Shared) (σ : St) (H : Hp) (Q : Bool → Hp → Prop), Inv X pins σ H s → t σ H Q →
    wpAny (model X.prog X.w) X.A (forIn ifs true fun c r => if r = true then do let ok ← isTrue c X.env (eval c X.env); pure (ForInStep.yield ok) else pure (ForInStep.yield r)) (TP X pins σ Q) X.xe s
def tYes : TT := fun _ H Q => Q true H
theorem pts_nil {X : Cx} : PTs X [] tYes := fun pins s σ H Q I h => wpAny_tests_nil ⟨H, I, h⟩
theorem pts_one {X : Cx} {c : Expr} {t : TT} (h : PT X c t) : PTs X [c] t := fun pins s σ H Q I hw => wpAny_tests_one (h pins s σ H Q I hw)
def stC (k : Nat) (js : List Nat) (σ : St) : St := List.replicate k Option.none ++ js.map fun j => (σ[j]?).getD Option.none
def tComp (wi : TI) (k : Nat) (js : List Nat) (g : TG) (tc : TT) (te : TE) : TE := fun σ H Q =>
  wi σ H fun J H1 => ∀ D, H1 D = none → ∃ W : Nat → Nat → List V → Hp → Prop, (∃ m, W 0 m [] (upd H1 D (.lst []))) ∧ ∀ i m ys H2, W i m ys H2 →
    H2 D = some (.lst ys) ∧ ((J.stop i H2 ∧ Q (.ref D) H2) ∨ (J.go i H2 ∧ ys.length < sizeLine ∧ ∀ x H3, J.yld i H2 x H3 → g x (stC k js σ) H3 fun σ4 H4 => WeakS (stC k js σ) σ4 ∧ tc σ4 H4 fun b H5 =>
      if b = true then te σ4 H5 fun y H6 => H6 D = some (.lst ys) ∧ ∃ m', m' < m ∧ W (i + 1) m' (ys ++ [y]) (upd H6 D (.lst (ys ++ [y]))) else ∃ m', m' < m ∧ W (i + 1) m' ys H5))
theorem stC_get {k : Nat} {js : List Nat} {σ : St} {i : Nat} {v : V} (h : (stC k js σ)[i]? = some (some v)) : ∃ j, k ≤ i ∧ js[i - k]? = some j ∧ σ[j]? = some (some v) := by
  unfold stC at h
  by_cases hi : i < k
  · rw [List.getElem?_append_left (by simpa using hi), List.getElem?_replicate] at h
    simp [hi] at h
  · rw [List.getElem?_append_right (by simpa using hi), List.length_replicate, List.getElem?_map] at h
    cases e : js[i - k]? with
    | none => rw [e] at h; simp at h
    | some j =>
      rw [e] at h
      simp only [Option.map_some, Option.some.injEq] at h
      refine ⟨j, by omega, rfl, ?_⟩
      cases q : σ[j]? with
      | none => rw [q] at h; simp at h
      | some z =>
        rw [q] at h
        simp at h
        rw [h]
theorem relabel_free {scope : Scope} {env : Env} {x : Str} (h : scope.names.lookup x = some .free) : (relabel scope env).names.lookup x = some .cell ∨ (relabel scope env).names.lookup x = some .free := by
  unfold relabel
  dsimp only
  generalize scope.names = ns at h
  induction ns with
  | nil => cases h
  | cons a r ih =>
    obtain ⟨n, k⟩ := a
    rw [List.lookup_cons] at h
    rw [List.map_cons]
    cases hx : x == n with
    | true =>
      rw [hx] at h
      cases h
      dsimp only
      split
      · exact .inl (by rw [List.lookup_cons, hx])
      · exact .inr (by rw [List.lookup_cons, hx])
    | false =>
      rw [hx] at h
      dsimp only
      split
      · rw [List.lookup_cons, hx]; exact ih h
      · rw [List.lookup_cons, hx]; exact ih h
theorem pe_comp {elt iter tg : Expr} {ifs : List Expr} {pos : Pos} {wi : TI} {g : TG} {tc : TT} {te : TE} {k : Nat} {js : List Nat}
    (hc : X.calm = true) (hi : PI X tg iter wi)
    (hk : scope.kind = .function) (nc : ∀ y ∈ scope.names, y.2 ≠ .cell) (hf : ∀ x, (x, NameKind.free) ∈ scope.names → (X.env.kindOf x = some .cell ∨ X.env.kindOf x = some .free))
    (hnames : ∀ x ∈ scope.names, x.2 = .local → scope.names.lookup x.1 = some .local)
    (hlen : N.length = k + js.length)
    (hjs : ∀ i j, js[i]? = some j → ∃ x, N[k + i]? = some x ∧ X.N[j]? = some x ∧ scope.names.lookup x = some .free ∧ Vis X.env.scope x)
    (hg : ∀ cl s H C ex, PG (cxComp X scope N cl s H C ex) tg g) (htc : ∀ cl s H C ex, PTs (cxComp X scope N cl s H C ex) ifs tc) (hte : ∀ cl s H C ex, PE (cxComp X scope N cl s H C ex) elt te)
    (hs : ∀ x, foldedSetIterable iter X.env x = pure x := by intro _; rfl) : PE X (.ListComp elt [⟨tg, iter, ifs, 0⟩] scope pos) (tComp wi k js g tc te) := by
  intro pins s σ H Q I h
  have hcell : ∀ x, (x, NameKind.free) ∈ scope.names → ∃ c, X.env.cells.lookup x = some c := fun x hx => I.ok.has x (hf x hx)
  rw [eval_ListComp]
  refine wpAny_comprehension_free (use := none) rfl hs (closureFor_ok hcell) hk hnames (thn (hi pins s σ H _ I h) fun v s1 h1 => thn h1 fun itv s2 h2 => ?_)
  obtain ⟨it, fp, tn, J, H2, e, I2, T, st2, f2, hW⟩ := h2
  subst e
  obtain ⟨W, ⟨m0, w0⟩, turn⟩ := hW s2.heap.objs.size (I2.hok.fresh (Nat.le_refl _))
  refine wpAny_newObj_type (wpAny_newFunctionEnv nc (by intro y hy; simp at hy) (fun h1 hns1 hsb1 => ?_) hk)
  dsimp only at hns1 hsb1 ⊢
  generalize hP : s2.heap.push { cls := .type "list", dict := none, data := .seq ([] : List Value).toArray } = P at hns1 hsb1 ⊢
  have hPs : P.objs.size = s2.heap.objs.size + 1 := by rw [← hP, Heap.size_push]
  have below : ∀ b, b < s2.heap.objs.size → b ≠ P.objs.size := fun b hb => by rw [hPs]; exact Nat.ne_of_lt (Nat.lt_succ_of_lt hb)
  have hDC : s2.heap.objs.size ≠ P.objs.size := by rw [hPs]; exact Nat.ne_of_lt (Nat.lt_succ_self _)
  have hCle : s2.heap.objs.size ≤ P.objs.size := by rw [hPs]; exact Nat.le_succ _
  have old : ∀ b o, s2.heap.get? b = some o → h1.get? b = some o := fun b o e => hsb1.extBut b o (below b (Heap.lt_size e)) (Heap.get?_push_of_some _ (hP ▸ Heap.get?_push_of_some _ e))
  have hacc : h1.get? s2.heap.objs.size = some { cls := .type "list", dict := none, data := .seq ([] : List Value).toArray } := hsb1.extBut _ _ hDC (Heap.get?_push_of_some _ (hP ▸ Heap.get?_push_size _ rfl))
  have hfx : ∀ b ∈ fp, b < s2.heap.objs.size := fun b hb => by
    obtain ⟨o, e, _⟩ := T.obj _ _ st2 b hb
    exact Heap.lt_size e
  have ok := I2.compOk (N := N) (C := P.objs.size) (ex := fp) hk nc hcell hCle f2 hfx
  have hsub : ∀ x c, (clOf X.env scope.names []).lookup x = some c → X.env.cells.lookup x = some c := clOf_sub _ _ (fun _ _ z => by cases z)
  have I3 : Inv (cxComp X scope N (clOf X.env scope.names []) s2 H2 P.objs.size fp) [] (stC k js σ) (upd H2 s2.heap.objs.size (.lst [])) { s2 with heap := h1, toks := s2.toks + ([] : List (Str × Value)).length } := by
    refine ⟨ok, rfl, I2.bare, Un.laid old (Nat.le_refl _) (I2.hok.fresh (Nat.le_refl _)), ⟨_, hns1, fun i x v e1 e2 e3 => ?_⟩, fun x c e => ?_, ?_, fun x c e => ?_, fun p hp => (by cases hp), I2.hok.laid old (Nat.le_refl _) ?_, ?_⟩
    · obtain ⟨j, hki, hj, hv⟩ := stC_get e2
      obtain ⟨y, n1, n2, n3, n4⟩ := hjs _ j hj
      have ei : k + (i - k) = i := by omega
      rw [ei] at n1
      have e1' : N[i]? = some x := e1
      rw [n1] at e1'
      cases e1'
      obtain ⟨m, hn, hl⟩ := I2.loc
      obtain ⟨u, r, lk⟩ := hl j x v n2 hv n4
      refine ⟨u, r, ?_⟩
      have mem := mem_of_look n3
      rcases lk with ⟨kk, _⟩ | ⟨kk, c, ec, ce⟩
      · rcases hf x mem with z | z
        · rw [z] at kk; cases kk
        · rw [z] at kk; cases kk
      · obtain ⟨c', ec'⟩ := clOf_has (env := X.env) scope.names [] x (.inr ⟨mem, c, ec⟩)
        have := hsub x c' ec'
        rw [ec] at this
        cases this
        refine .inr ⟨relabel_free n3, c, ec', ?_⟩
        obtain ⟨o, ho, hd⟩ := ce
        exact ⟨o, old _ _ ho, hd⟩
    · obtain ⟨v, o, ho, hd⟩ := I2.cell x c (hsub x c e)
      exact ⟨v, o, old _ _ ho, hd⟩
    · show upd H2 s2.heap.objs.size (.lst []) P.objs.size = none
      rw [upd_ne (Ne.symm hDC)]
      exact I2.hok.fresh hCle
    · obtain ⟨v, o, ho, hd⟩ := I2.cell x c (hsub x c e)
      rw [upd_ne (Nat.ne_of_lt (Heap.lt_size ho))]
      exact I2.freeC x c (hsub x c e)
    · exact ⟨Nat.zero_le _, [], _, .nil, hacc⟩
    · unfold stC
      rw [List.length_append, List.length_replicate, List.length_map]
      exact hlen.symm
  have stat : ∀ {H' : Hp}, (∀ b ∈ fp, H' b = none) → ∀ b ∈ fp, FpOk (cxComp X scope N (clOf X.env scope.names []) s2 H2 P.objs.size fp) [] H' b := fun hn b hb =>
    ⟨hn b hb, (ok.exf b hb).1, ok.exfs b hb, .inl hb, (ok.exf b hb).2, fun p hp => by cases hp⟩
  have fr0 : ∀ b ∈ fp, upd H2 s2.heap.objs.size (.lst []) b = none := fun b hb => by
    rw [upd_ne (Nat.ne_of_lt (hfx b hb))]
    exact (f2 b hb).1
  have st3 : tn 0 h1 := T.keep _ _ _ st2 fun b _ o e => old b o e
  have loop : codeAny (model X.prog X.w) X.A (.compLoop (.ListComp elt [⟨tg, iter, ifs, 0⟩] scope pos) 0 (.ref it) (.ref s2.heap.objs.size) (compEnvC scope (clOf X.env scope.names []) P.objs.size X.env))
      (compPost (model X.prog X.w) X.A X.xe none (EP X pins σ Q) (.ref s2.heap.objs.size) P.objs.size) { s2 with heap := h1, toks := s2.toks + ([] : List (Str × Value)).length } := by
    refine compLoop_go (fun n s' => ∃ i ys H', Inv (cxComp X scope N (clOf X.env scope.names []) s2 H2 P.objs.size fp) [] (stC k js σ) H' s' ∧ tn i s'.heap ∧ (∀ b ∈ fp, H' b = none) ∧ W i n ys H') ?_ m0 ⟨0, [], _, I3, st3, fr0, w0⟩
    rintro n s4 ⟨i, ys, H4, I4, st4, fr4, w4⟩
    obtain ⟨hD4, hd⟩ := turn i n ys H4 w4
    rcases hd with ⟨stop, q⟩ | ⟨go, hz, step⟩
    · refine thn (T.done (cxComp X scope N (clOf X.env scope.names []) s2 H2 P.objs.size fp) rfl rfl rfl hc i [] s4 _ H4 _ I4 (stat fr4) st4 stop) fun r s5 ⟨hr, I5⟩ => ?_
      subst hr
      obtain ⟨m, hn, _⟩ := id I5.loc
      refine ⟨m, hn, fun h' hs' => ⟨.ref s2.heap.objs.size, H4, ?_, rfl, q⟩⟩
      have hC4 : H4 P.objs.size = none := I5.free
      have bl : ∀ b o, s2.heap.get? b = some o → b ≠ P.objs.size := fun b o e => below b (Heap.lt_size e)
      refine I2.call' (s' := { s5 with heap := h' }) (ch := fp) I5.os ?_ (fun b u e => ?_) I5.bare (fun b hb => ⟨(f2 b hb).2.2.2.1, (f2 b hb).2.1, (f2 b hb).2.2.2.2.1, (f2 b hb).2.2.2.2.2⟩)
      · have U := I5.base
        exact ⟨fun b o e n hb hx => (hs'.2 b (bl b o e)).trans (U.keep b o e n hb hx), fun b o e n hb hx => by
            obtain ⟨sl, z⟩ := U.slot b o e n hb hx
            exact ⟨sl, (hs'.2 b (bl b o e)).trans z⟩, U.free, fun b o e hx => by
            obtain ⟨o', z⟩ := U.there b o e hx
            exact ⟨o', (hs'.2 b (bl b o e)).trans z⟩, U.tups, U.frzs, U.tbls⟩
      · refine (I5.hok b u e).stay (fun c w' hcc q' => (hs'.2 c ?_).trans q') (fun _ q' => q') fun _ _ q' => q'
        rintro rfl
        rcases hcc with rfl | hcc
        · rw [hC4] at e; cases e
        · rw [hC4] at hcc; cases hcc
    · refine thn (T.item (cxComp X scope N (clOf X.env scope.names []) s2 H2 P.objs.size fp) rfl rfl rfl hc i [] s4 _ H4 _ I4 (stat fr4) st4 go) fun r s5 ⟨u, hr, h5⟩ => ?_
      subst hr
      refine thn h5 fun _ s6 ⟨x, H6, I6, r6, y6, st6, fr6⟩ => ?_
      have I6' := I6.pinned (stat fr6) (T.obj _ _ st6)
      have back : ∀ {σ7 : St} {H7 : Hp} {s7 : Shared}, Inv (cxComp X scope N (clOf X.env scope.names []) s2 H2 P.objs.size fp) ([] ++ pinsAt fp s6.heap) σ7 H7 s7 → WeakS (stC k js σ) σ7 →
          Inv (cxComp X scope N (clOf X.env scope.names []) s2 H2 P.objs.size fp) [] (stC k js σ) H7 s7 ∧ tn (i + 1) s7.heap ∧ ∀ b ∈ fp, H7 b = none := fun {σ7 H7 s7} I7 hw => by
        refine ⟨I7.unpinned.weak hw.1 hw.2, T.keep _ _ _ st6 fun b hb o e => (I7.pin (b, o) (List.mem_append_right _ (List.mem_append_right _ (mem_pinsAt hb e)))).1, fun b hb => ?_⟩
        obtain ⟨o, e, d⟩ := T.obj _ _ st6 b hb
        exact (I7.pin (b, o) (List.mem_append_right _ (List.mem_append_right _ (mem_pinsAt hb e)))).2.1
      refine wpAny_mono (hg _ _ _ _ _ _ s6 _ H6 x u _ I6' r6 (step x H6 y6)) (fun _ s7 ⟨σ7, H7, I7, hw7, q7⟩ => ?_) fun _ _ z => z.elim
      refine wpAny_mono (htc _ _ _ _ _ _ s7 σ7 H7 _ I7 q7) (fun b s8 ⟨H8, I8, q8⟩ => ?_) fun _ _ z => z.elim
      cases b with
      | false =>
        obtain ⟨m', hm, w8⟩ := (show ∃ m', m' < n ∧ W (i + 1) m' ys H8 by simpa using q8)
        obtain ⟨a1, a2, a3⟩ := back I8 hw7
        exact (by simpa using ⟨m', hm, i + 1, ys, H8, a1, a2, a3, w8⟩)
      | true =>
        rw [if_pos rfl] at q8
        rw [if_pos rfl]
        refine wpAny_mono (hte _ _ _ _ _ _ s8 σ7 H8 _ I8 q8) (fun y s9 ⟨vy, H9, I9, r9, q9⟩ => ?_) fun _ _ z => z.elim
        obtain ⟨hD9, m', hm, w9⟩ := q9
        refine wpAny_mono (mt_append (X := cxComp X scope N (clOf X.env scope.names []) s2 H2 P.objs.size fp) _ s9 σ7 H9 (.ref s2.heap.objs.size) [vy] (.ref s2.heap.objs.size) [y] (fun _ H' => W (i + 1) m' (ys ++ [vy]) H') I9 rfl (.cons r9 .nil) ⟨_, ys, vy, rfl, rfl, hD9, hz, w9⟩) (fun z s10 ⟨_, H10, I10, _, q10⟩ => ?_) fun _ _ z => z.elim
        obtain ⟨a1, a2, a3⟩ := back I10 hw7
        exact ⟨m', hm, i + 1, _, H10, a1, a2, a3, q10⟩
  exact codeAny_compStart_list loop (T.self _ 0 _ _ _ st3 loop)
end
end L2
namespace L2
open PySem PySem.Spec PyProof.Rows
theorem same_new {H : Hp} {p : Addr} (h : H p = none) (o : HO) : Same H (upd H p o) := fun b u q => by rw [upd_ne (ne_of_none q h)]; exact q
theorem Same.tup {K : PySem.W.Frag} {H H' : Hp} {a : Addr} {xs : List V} (e : Same H H') (h : SqT K H a xs) : SqT K H' a xs := by
  rcases h with (h | ⟨o, h⟩) | h
  · exact .inl (.inl (e _ _ h))
  · exact .inl (.inr ⟨o, e _ _ h⟩)
  · exact .inr h
section
variable {X : Cx} {pins : List (Addr × Obj)} {σ : St} {H : Hp} {s : Shared}
theorem Inv.turnedL {wr : List Addr} {h' : Heap} {tk : Nat} (I : Inv X pins σ H s) (hf : ∀ b ∈ wr, FpOk X pins H b) (k : ∀ b o, b ∉ wr → s.heap.get? b = some o → h'.get? b = some o) : Inv X pins σ H { s with heap := h', toks := tk } := by
  have nw : ∀ b u, H b = some u → b ∉ wr := fun b u e hb => by rw [(hf b hb).1] at e; cases e
  refine I.call' (s' := { s with heap := h', toks := tk }) (ch := wr) rfl ⟨fun b o e n _ hx => k b o hx e, fun b o e n _ hx => ⟨o.slots, k b o hx e⟩, fun b o e n _ => n, fun b o e hx => ⟨o, k b o hx e⟩, fun b ys e => e, fun b o u e => e, fun b ps e => ⟨#[], by rw [e]; simp⟩⟩ (fun b u e => ?_) I.bare
    (fun b hb => ⟨(hf b hb).2.2.2.1, (hf b hb).2.1, (hf b hb).2.2.2.2.1, (hf b hb).2.2.2.2.2⟩)
  refine (I.hok b u e).stay (fun c v hc q => k c v ?_ q) (fun c q => q) fun c ys q => q
  rcases hc with rfl | hc
  · exact nw _ _ e
  · exact nw _ _ hc
end
end L2
namespace L2
open PySem PySem.Spec PyProof.Rows
section
variable {X : Cx}
theorem call_range2 : CallR X (.type "range") (fun vs H Q => ∃ i j : Int, vs = [.int i, .int j] ∧ ∀ p, H p = none → Q (.ref p) (upd H p (.rng i j))) := by
  intro pins s σ H xs us Q I r h
  obtain ⟨i, j, rfl, q⟩ := h
  obtain ⟨u, v, rfl, ru, rv⟩ := vals2 r
  obtain ⟨t, rfl⟩ := ru
  obtain ⟨t', rfl⟩ := rv
  refine call_range_2 ⟨.ref s.heap.objs.size, _, I.laid (o := .rng i j) (fun b o e => Heap.get?_push_of_some _ e) (Nat.le_refl _) ?_, rfl, q _ (I.hok.fresh (Nat.le_refl _))⟩
  exact ⟨_, _, _, Heap.get?_push_size _ rfl⟩
theorem call_range1 : CallR X (.type "range") (fun vs H Q => ∃ j : Int, vs = [.int j] ∧ ∀ p, H p = none → Q (.ref p) (upd H p (.rng 0 j))) := by
  intro pins s σ H xs us Q I r h
  obtain ⟨j, rfl, q⟩ := h
  obtain ⟨u, rfl, ru⟩ := vals1 r
  obtain ⟨t, rfl⟩ := ru
  refine call_range_1 ⟨.ref s.heap.objs.size, _, I.laid (o := .rng 0 j) (fun b o e => Heap.get?_push_of_some _ e) (Nat.le_refl _) ?_, rfl, q _ (I.hok.fresh (Nat.le_refl _))⟩
  exact ⟨_, _, _, Heap.get?_push_size _ rfl⟩
def upV (lo : Int) (n : Nat) : List V := (List.range n).map fun k => V.int (lo + (k : Nat))
theorem vals_up {lo : Int} {n : Nat} {acc : Array Value} (h : ItemsOf (fun i v => ∃ t, v = .int (lo + i * 1) t) acc n) : Vals (upV lo n) acc.toList := by
  obtain ⟨hs, h⟩ := h
  have key : ∀ (k : Nat) (us : List Value) (lo : Int), us.length = k → (∀ (i : Nat) (v : Value), us[i]? = some v → ∃ t, v = Value.int (lo + (i : Nat)) t) → Vals ((List.range k).map fun j => V.int (lo + (j : Nat))) us := by
    intro k
    induction k with
    | zero => intro us lo hl _; cases us with
      | nil => exact .nil
      | cons a r => simp at hl
    | succ k ih =>
      intro us lo hl hh
      cases us with
      | nil => simp at hl
      | cons a r =>
        rw [List.range_succ_eq_map, List.map_cons, List.map_map]
        refine .cons ?_ ?_
        · obtain ⟨t, e⟩ := hh 0 a rfl
          exact ⟨t, e⟩
        · have := ih r (lo + 1) (by simpa using hl) fun i v e => by
            obtain ⟨t, q⟩ := hh (i + 1) v (by simpa using e)
            exact ⟨t, by rw [q]; congr 1; omega⟩
          have e : ((fun (j : Nat) => V.int (lo + (j : Nat))) ∘ Nat.succ) = fun (j : Nat) => V.int (lo + 1 + (j : Nat)) := by
            funext j
            simp only [Function.comp]
            congr 1
            omega
          rw [e]
          exact this
  exact key n acc.toList lo (by simpa using hs) fun i v e => by
    obtain ⟨t, q⟩ := h i v (by simpa using e)
    exact ⟨t, by rw [q, Int.mul_one]⟩
theorem call_list_rng (hc : X.calm = true) : CallR X (.type "list") (fun vs H Q => ∃ p i j, vs = [.ref p] ∧ H p = some (.rng i j) ∧ -(2 ^ 62) ≤ i ∧ i < 2 ^ 62 ∧ -(2 ^ 62) ≤ j ∧ j < 2 ^ 62 ∧ (j - i).toNat ≤ 1000 ∧ ∀ l, H l = none → Q (.ref l) (upd H l (.lst (upV i (j - i).toNat)))) := by
  intro pins s σ H xs us Q I r h
  obtain ⟨p, i, j, rfl, hp, b1, b2, b3, b4, hn, q⟩ := h
  obtain ⟨u, rfl, ru⟩ := vals1 r
  cases ru
  obtain ⟨t, u, v, e⟩ := (show ObjOk X.prog X.w H s.heap p (.rng i j) from I.hok _ _ hp)
  refine call_list_range (n := (j - i).toNat) (I.ok.hd hc) (show IsRange s.heap p i j 1 t u v from e) (small_one b1 b2 b3 b4) (by rw [rangeSize_one]; split <;> omega) (Nat.le_trans hn (by decide)) fun h' tk acc' c' hk he hi => ?_
  have hv := vals_up hi
  refine ⟨.ref s.heap.objs.size, _, I.laid (o := .lst (upV i (j - i).toNat)) hk (Nat.le_refl _) ⟨?_, acc'.toList, c', hv, by simpa using he⟩, rfl, q _ (I.hok.fresh (Nat.le_refl _))⟩
  unfold upV
  rw [List.length_map, List.length_range]
  exact Nat.le_trans hn (by decide)
def rInsert : V → List V → Hp → VK → Prop := fun x vs H Q => ∃ (l : Addr) (xs : List V) (i : Nat) (y : V), x = .ref l ∧ vs = [.int i, y] ∧ H l = some (.lst xs) ∧ xs.length < 1000 ∧ i ≤ xs.length ∧ Q .non (upd H l (.lst (xs.take i ++ y :: xs.drop i)))
theorem mt_insert : MtM X "list.insert" rInsert := by
  intro pins s σ H x vs v us Q I rx rv h
  obtain ⟨l, xs, i, y, rfl, rfl, hH, hz, hi, q⟩ := h
  cases rx
  obtain ⟨u1, u2, rfl, r1, r2⟩ := rv.two
  obtain ⟨t, rfl⟩ := r1
  obtain ⟨z, its, n, r, hl, e⟩ := I.lstM hH
  generalize hx : ((i : Nat) : Int) = x
  have hx0 : 0 ≤ x := by omega
  have hx1 : x.toNat = i := by omega
  have hfit : ¬ (!Builtin.List.listFitsIndex x) = true := by
    rw [fitsIndex_both (by omega) (by omega)]
    exact Bool.false_ne_true
  have hsz : its.toArray.size ≤ sizeLine := by rw [List.size_toArray, ← hl]; exact z
  refine call_meets F.slot_list_insert ⟨_, e, rfl⟩ F.entry_list_insert (F.args_list_insert_3 _ _ _) (PySem.AutoSeq1.list_insert_list_int_val_1 l _ n x t u2 hfit hsz) ⟨e, ?_⟩
  refine ⟨.non, _, I.lset (its' := its.take i ++ u2 :: its.drop i) hH e ?_ ((r.take i).append (.cons r2 (r.drop i))) ?_, rfl, q⟩
  · have hk : (if x < 0 then (x + ((its.toArray.size : Nat) : Int)).toNat else min x.toNat its.toArray.size) = i := by
      rw [if_neg (by omega), List.size_toArray]
      omega
    show (its.toArray.extract 0 (if x < 0 then (x + ((its.toArray.size : Nat) : Int)).toNat else min x.toNat its.toArray.size)).push u2 ++ its.toArray.extract (if x < 0 then (x + ((its.toArray.size : Nat) : Int)).toNat else min x.toNat its.toArray.size) = _
    rw [hk]
    apply Array.ext'
    simp
    exact List.take_of_length_le (by rw [List.length_drop]; exact Nat.le_refl _)
  · rw [List.length_append, List.length_cons, List.length_take, List.length_drop]
    have : (1000 : Nat) ≤ sizeLine := by decide
    omega
theorem truth_bools {A : Around} {prog : Program} {w : World} {bs : List Bool} {its : List Value} (r : Vals (bs.map V.bl) its) : TruthOf prog w A (fun i v => its.toArray[i]? = some v) (fun i => bs.getD i false) := by
  intro i v s Q E hv hq
  have hv' : its[i]? = some v := by simpa using hv
  have hl : i < bs.length := by
    have h1 := (List.getElem?_eq_some_iff.mp hv').1
    have h2 := r.length
    rw [List.length_map] at h2
    omega
  obtain ⟨u, e, ru⟩ := Vals.get r (i := i) (x := .bl bs[i]) (by rw [List.getElem?_map, List.getElem?_eq_getElem hl]; rfl)
  rw [e] at hv'
  cases hv'
  have ru' : v = Value.bool bs[i] := ru
  subst ru'
  have eq : bs.getD i false = bs[i] := by simp [List.getD, hl]
  have hq' : Q (bs.getD i false) s := hq
  rw [eq] at hq'
  exact wpAny_truthy_bool hq'
theorem range_all (bs : List Bool) : (List.range bs.length).all (fun i => bs.getD i false) = bs.all id := by
  induction bs with
  | nil => rfl
  | cons b r ih =>
    rw [List.length_cons, List.range_succ_eq_map, List.all_cons, List.all_map, List.all_cons]
    show (b && (List.range r.length).all ((fun i => (b :: r).getD i false) ∘ Nat.succ)) = (b && r.all id)
    rw [← ih]
    rfl
theorem range_any (bs : List Bool) : (List.range bs.length).any (fun i => bs.getD i false) = bs.any id := by
  induction bs with
  | nil => rfl
  | cons b r ih =>
    rw [List.length_cons, List.range_succ_eq_map, List.any_cons, List.any_map, List.any_cons]
    show (b || (List.range r.length).any ((fun i => (b :: r).getD i false) ∘ Nat.succ)) = (b || r.any id)
    rw [← ih]
    rfl
theorem call_allL (hc : X.calm = true) : CallR X (.builtin "all") (fun vs H Q => ∃ (p : Addr) (bs : List Bool), vs = [.ref p] ∧ SqL X.K H p (bs.map V.bl) ∧ Q (.bl (bs.all id)) H) := by
  intro pins s σ H xs us Q I r h
  obtain ⟨p, bs, rfl, hq, q⟩ := h
  obtain ⟨u, rfl, ru⟩ := vals1 r
  cases ru
  obtain ⟨its, rv, pl, hz⟩ := I.list hq
  have hlt : p < s.heap.objs.size := by obtain ⟨_, e, _⟩ := pl.isList; exact Heap.lt_size e
  have hlen := rv.length
  rw [List.length_map] at hlen
  refine call_all_walk (wpAny_pyIter_list pl.isList ?_)
  refine ⟨s.heap.objs.size, _, [s.heap.objs.size], _, _, _, _, rfl, Walks.list (A := X.A.in1) (show X.A.in1.handled = none from I.ok.hd hc) s.heap.objs.size p (Nat.ne_of_lt hlt) its.toArray, ⟨⟨_, Heap.get?_push_size _ rfl, rfl, rfl⟩, pl.isList.push _⟩, truth_bools rv, fun h' tk kk => ?_⟩
  have e : (List.range its.toArray.size).all (fun i => bs.getD i false) = bs.all id := by rw [List.size_toArray, ← hlen]; exact range_all bs
  rw [e]
  refine ⟨.bl (bs.all id), H, ?_, rfl, q⟩
  exact I.kept (t' := tk) fun b o eb => kk b o (by simp only [List.mem_singleton]; exact Nat.ne_of_lt (Heap.lt_size eb)) (Heap.get?_push_of_some _ eb)
theorem call_anyL (hc : X.calm = true) : CallR X (.builtin "any") (fun vs H Q => ∃ (p : Addr) (bs : List Bool), vs = [.ref p] ∧ SqL X.K H p (bs.map V.bl) ∧ Q (.bl (bs.any id)) H) := by
  intro pins s σ H xs us Q I r h
  obtain ⟨p, bs, rfl, hq, q⟩ := h
  obtain ⟨u, rfl, ru⟩ := vals1 r
  cases ru
  obtain ⟨its, rv, pl, hz⟩ := I.list hq
  have hlt : p < s.heap.objs.size := by obtain ⟨_, e, _⟩ := pl.isList; exact Heap.lt_size e
  have hlen := rv.length
  rw [List.length_map] at hlen
  refine call_any_walk (wpAny_pyIter_list pl.isList ?_)
  refine ⟨s.heap.objs.size, _, [s.heap.objs.size], _, _, _, _, rfl, Walks.list (A := X.A.in1) (show X.A.in1.handled = none from I.ok.hd hc) s.heap.objs.size p (Nat.ne_of_lt hlt) its.toArray, ⟨⟨_, Heap.get?_push_size _ rfl, rfl, rfl⟩, pl.isList.push _⟩, truth_bools rv, fun h' tk kk => ?_⟩
  have e : (List.range its.toArray.size).any (fun i => bs.getD i false) = bs.any id := by rw [List.size_toArray, ← hlen]; exact range_any bs
  rw [e]
  refine ⟨.bl (bs.any id), H, ?_, rfl, q⟩
  exact I.kept (t' := tk) fun b o eb => kk b o (by simp only [List.mem_singleton]; exact Nat.ne_of_lt (Heap.lt_size eb)) (Heap.get?_push_of_some _ eb)
theorem op_is_bl : OpR X (compareOp .Is) (fun x y H Q => ∃ a b, x = .bl a ∧ y = .bl b ∧ Q (.bl (a == b)) H) := by
  intro pins s σ H x y v u Q I rx ry h
  obtain ⟨a, b, rfl, rfl, q⟩ := h
  cases rx
  cases ry
  exact is_bool ⟨.bl (a == b), H, I, rfl, q⟩
theorem op_isnot_bl : OpR X (compareOp .IsNot) (fun x y H Q => ∃ a b, x = .bl a ∧ y = .bl b ∧ Q (.bl (a != b)) H) := by
  intro pins s σ H x y v u Q I rx ry h
  obtain ⟨a, b, rfl, rfl, q⟩ := h
  cases rx
  cases ry
  exact isnot_bool ⟨.bl (a != b), H, I, rfl, q⟩
end
end L2
namespace L2
open PySem PySem.Spec PyProof.Rows
section
variable {X : Cx}
def rCatT2 (K : PySem.W.Frag) : R2 := fun x y H Q => ∃ a b xs ys, x = .ref a ∧ y = .ref b ∧ SqT K H a xs ∧ SqT K H b ys ∧ xs.length + ys.length ≤ sizeLine ∧ ∀ p H1, Same H H1 → SqT K H1 p (xs ++ ys) → Q (.ref p) H1
theorem op_catT2 : OpR X (binaryOp .Add) (rCatT2 X.K) := by
  intro pins s σ H x y v u Q I rx ry h
  obtain ⟨a, b, xs, ys, rfl, rfl, ha, hb, hz, q⟩ := h
  by_cases hx : xs = []
  · subst hx
    cases rx
    cases ry
    obtain ⟨its, r1, p1, _⟩ := I.tuple ha
    obtain ⟨its2, r2, p2, _⟩ := I.tuple hb
    have e : its = [] := (r1.nil_iff).mpr rfl
    subst e
    obtain ⟨⟨cls, dd, data, sl⟩, ho, hc, n, hd⟩ := id p1
    obtain ⟨⟨cls2, dd2, data2, sl2⟩, ho2, hc2, n2, hd2⟩ := id p2
    simp only at hc hd hc2 hd2
    subst hc hd hc2 hd2
    exact concat_meets ⟨_, ho, rfl⟩ ⟨_, ho2, rfl⟩ noFill_tuple_add seq_tuple_add PySem.F.slot_tuple_add PySem.F.entry_tuple_add (PySem.F.args_tuple_add_2 _ _)
      (tuple_addW0 a b ([] : List Value).toArray its2.toArray n n2 dd dd2 sl sl2 (by simp)) ⟨ho, ho2, ⟨.ref b, H, I, rfl, q b H (Same.refl H) hb⟩⟩
  · refine op_catT pins s σ H (.ref a) (.ref b) v u Q I rx ry ⟨a, b, xs, ys, rfl, rfl, ha, hb, hx, hz, fun e => ?_, fun _ p hp => q p _ (same_new hp _) (SqT.of upd_same)⟩
    subst e
    exact q a H (Same.refl H) (by rw [List.append_nil]; exact ha)
theorem cutV_whole (xs : List V) (lo hi : Option Int) (h : HT.sIx xs.length 0 lo = 0 ∧ HT.sIx xs.length xs.length hi = xs.length) : cutV xs lo hi = xs := by
  unfold cutV
  rw [h.1, h.2, List.drop_zero, Nat.sub_zero, List.take_length]
theorem getItem_tuple_whole {prog : Program} {w : World} {A : Around} {E : Value → Shared → Prop} {s : Shared} {t sl : Addr} {items : Array Value} {vl vu : Value} {lo hi : Option Int} {Q : Value → Shared → Prop} (ht : IsTup s.heap t items) (hs : s.heap.IsSliceOf sl vl vu .none) (pl : IsPart vl lo) (pu : IsPart vu hi)
    (hw : HT.sIx items.size 0 lo = 0 ∧ HT.sIx items.size items.size hi = items.size)
    (h : Q (.ref t) s) : wpAny (model prog w) A (getItem (.ref t) (.ref sl)) Q E s := by
  obtain ⟨os, hos, hcs, hds⟩ := id hs
  have hTs : s.TypeIs (.ref sl) "slice" := ⟨os, hos, hcs⟩
  unfold getItem
  try with_reducible refine wpAny_holding ?_
  first | refine wpAny_bind (wpAny_pure ?_) | skip
  refine wpAny_bind (wpAny_sequenceKey ht.typeIs (by decide) ?_)
  refine wpAny_bind (wpAny_callSpecial?_slot (name := Str.ofString "__getitem__") ht.typeIs PyProof.Rows.slot_tuple_getitem
    (wpAny_call_entry PyProof.Rows.slot_tuple_getitem ht.typeIs entry_tuple_getitem ?_ (args_tuple_getitem _ _)))
  show wpAny _ _ (Builtin.Tuple.tupleItemsOf (.ref t) >>= _) _ _ s
  refine wpAny_bind (tupleItemsOf_ ht ?_)
  refine wpAny_bind (wpAny_typeOf hTs ?_)
  rw [if_pos (by decide)]
  refine wpAny_bind (HT.sliceApplied_gen hs pl pu ?_)
  have hyes : (((HT.sIx items.size 0 lo : Nat) : Int) == 0 && (1 : Int) == 1 && (HT.sIx items.size items.size hi - HT.sIx items.size 0 lo) == items.size) = true := by
    rw [hw.1, hw.2]
    simp
  show wpAny _ _ (if (((HT.sIx items.size 0 lo : Nat) : Int) == 0 && (1 : Int) == 1 && (HT.sIx items.size items.size hi - HT.sIx items.size 0 lo) == items.size) = true then _ else _) _ _ s
  rw [if_pos hyes]
  have hEx : Builtin.Tuple.tupleIsExact (Value.ref t) = (typeOf (Value.ref t) >>= fun c => pure (c == .type "tuple")) := rfl
  rw [hEx]
  refine wpAny_bind (wpAny_bind (wpAny_typeOf ht.typeIs (wpAny_pure ?_)))
  rw [if_pos (by decide)]
  exact wpAny_bind (wpAny_rule (wpAny_pure ⟨_, rfl, wpAny_pure h⟩))
def rSlT2 (K : PySem.W.Frag) : V → Option Int → Option Int → Hp → VK → Prop := fun x lo hi H Q => ∃ a xs, x = .ref a ∧ SqT K H a xs ∧ ∀ p H1, Same H H1 → SqT K H1 p (cutV xs lo hi) → Q (.ref p) H1
theorem sl_tup2 : SlR X (rSlT2 X.K) := by
  intro pins s σ H x v vl vu lo hi sl Q I rx hs pl pu h
  obtain ⟨a, xs, rfl, hx, q⟩ := h
  by_cases hw : HT.sIx xs.length 0 lo = 0 ∧ HT.sIx xs.length xs.length hi = xs.length
  · cases rx
    obtain ⟨its, r, ht, hz⟩ := I.tuple hx
    have hlen : its.toArray.size = xs.length := by rw [List.size_toArray]; exact r.length.symm
    refine ⟨"tuple", _, PyProof.Rows.slot_tuple_getitem.lookup, ht.typeIs, ?_⟩
    exact getItem_tuple_whole ht hs pl pu (by rw [hlen]; exact hw) ⟨.ref a, H, I, rfl, q a H (Same.refl H) (by rw [cutV_whole xs lo hi hw]; exact hx)⟩
  · exact sl_tup pins s σ H (.ref a) v vl vu lo hi sl Q I rx hs pl pu ⟨a, xs, rfl, hx, hw, fun p hp => q p _ (same_new hp _) (SqT.of upd_same)⟩
theorem tuple_mulW (l : Addr) (items : Array Value) (n : Nat) (dd : Option Addr) (sl : Array (Option Value)) (x : Int) (u : Tok) (h2 : 2 ≤ x) (h3 : x < 1000) (hne : ¬ items.isEmpty = true) (hsz : items.size * x.toNat ≤ sizeLine) :
    Meets (Builtin.«tuple.__mul__» ⟨[.ref l, .int x u], []⟩) (fun _ R s => s.heap.get? l = some { cls := .type "tuple", dict := dd, data := .seq items n, slots := sl } ∧ R (.ok (.ret (Value.ref s.heap.objs.size))) { s with heap := s.heap.push { cls := Value.type "tuple", data := Data.seq ((List.replicate x.toNat items).foldl (· ++ ·) #[]) }, toks := s.toks }) :=
  .of_wp fun prog w A R s h => by
    obtain ⟨hp, g, d, tk, os⟩ := s; obtain ⟨hl, h⟩ := h
    have f1 := AutoSeq1.idx_int
    have f2 := AutoSeq1.sub_tuple_tuple
    wp_walk using wpAny_loadPart' hl
    have c1 : (decide (x < -2 ^ 63) || decide (x ≥ 2 ^ 63)) = false := by
      rw [Bool.or_eq_false_iff]
      exact ⟨decide_eq_false (by omega), decide_eq_false (by omega)⟩
    have c2 : (items.isEmpty || x == 1) = false := by
      rw [Bool.or_eq_false_iff]
      exact ⟨Bool.eq_false_iff.mpr hne, beq_eq_false_iff_ne.mpr (by omega)⟩
    have c3 : (decide (x ≤ 0) || items.isEmpty) = false := by
      rw [Bool.or_eq_false_iff]
      exact ⟨decide_eq_false (by omega), Bool.eq_false_iff.mpr hne⟩
    have hm : ((items.size : Nat) : Int) * x = ((items.size * x.toNat : Nat) : Int) := by
      rw [Int.natCast_mul, Int.toNat_of_nonneg (by omega)]
    have hS : (sizeLine : Int) ≤ (2 ^ 63 - 1) / 8 := by decide
    have c4 : ¬ ((items.size : Nat) : Int) * x > (2 ^ 63 - 1) / 8 := by rw [hm]; omega
    have c5 : Builtin.Tuple.tupleTooMany (((items.size : Nat) : Int) * x) = false := by
      unfold Builtin.Tuple.tupleTooMany
      rw [hm]
      exact decide_eq_false (by omega)
    rw [c1, if_neg Bool.false_ne_true]
    wp_walk using wpAny_loadPart' hl
    try rw [c2, if_neg Bool.false_ne_true]
    wp_walk using wpAny_loadPart' hl
    try rw [c3, if_neg Bool.false_ne_true]
    wp_walk using wpAny_loadPart' hl
    try rw [if_neg c4]
    wp_walk using wpAny_loadPart' hl
    try rw [c5, if_neg Bool.false_ne_true]
    wp_walk using wpAny_loadPart' hl
    have hfit : (List.foldl (fun x1 x2 => x1 ++ x2) #[] (List.replicate x.toNat items)).size ≤ sizeLine := by
      have e := foldl_rep items.toList x.toNat []
      rw [List.nil_append] at e
      have e2 : List.foldl (fun x1 x2 => x1 ++ x2) #[] (List.replicate x.toNat items) = (List.replicate x.toNat items.toList).flatten.toArray := e
      rw [e2, List.size_toArray, len_rep, Array.length_toList, Nat.mul_comm]
      exact hsz
    refine wpAny_ite_false (decide_eq_false (Nat.not_lt.mpr hfit)) ?_
    wp_walk
    exact ⟨_, rfl, h⟩
theorem noFill_tuple_mul : fillsNumberSlot (.type "tuple") "mul" = pure false :=
  PySem.fillsNumberSlot_seq (id := "tuple.__mul__") (r := some (.builtin "tuple.__rmul__")) F.slot_tuple_mul.lookup (by decide +kernel) F.slot_tuple_rmul.lookup (by decide +kernel)
theorem repeat_tuple : seqRepeat? (.type "tuple") = pure (some (.builtin "tuple.__mul__")) := by
  unfold seqRepeat?
  rw [PySem.seqSlot_of (T := "tuple") (name := "__mul__") (id := "tuple.__mul__") F.slot_tuple_mul.lookup (by decide +kernel), PySem.seqSlot_of (T := "tuple") (name := "__rmul__") (id := "tuple.__rmul__") F.slot_tuple_rmul.lookup (by decide +kernel)]
  rfl
theorem int_rmul_tuple (a : Int) (t : Tok) (l : Addr) (items : Array Value) (n : Nat) (dd : Option Addr) (sl : Array (Option Value)) :
    Meets (Builtin.«int.__rmul__» ⟨[.int a t, .ref l], []⟩) (fun _ R s => s.heap.get? l = some { cls := .type "tuple", dict := dd, data := .seq items n, slots := sl } ∧ R (.ok (.ret Value.notImplemented)) s) :=
  .of_wp fun prog w A R s h => by obtain ⟨hp, g, d, tk, os⟩ := s; obtain ⟨hl, h⟩ := h; wp_walk; exact ⟨_, rfl, h⟩
def rRepT (K : PySem.W.Frag) : R2 := fun x y H Q => ∃ a xs k, x = .ref a ∧ y = .int k ∧ SqT K H a xs ∧ xs ≠ [] ∧ 2 ≤ k ∧ k < 1000 ∧ xs.length * k.toNat ≤ sizeLine ∧ ∀ p, H p = none → Q (.ref p) (upd H p (.tup (List.replicate k.toNat xs).flatten))
theorem op_repT : OpR X (binaryOp .Mult) (rRepT X.K) := by
  intro pins s σ H x y v u Q I rx ry h
  obtain ⟨a, xs, k, rfl, rfl, ha, hx, h2, h3, hz, q⟩ := h
  cases rx
  obtain ⟨t, rfl⟩ := ry
  obtain ⟨its, r, p1, _⟩ := I.tuple ha
  have hl := r.length
  obtain ⟨⟨cls, dd, data, sl⟩, ho, hc, n, hd⟩ := id p1
  simp only at hc hd
  subst hc hd
  have hne : ¬ its.toArray.isEmpty = true := by
    intro e
    have : its = [] := by simpa using e
    exact hx (r.nil_iff.mp this)
  refine wpAny_binaryOp_repeat_ref (T := "tuple") (U := "int") (by decide) ⟨_, ho, rfl⟩ (fun s' => typeIs_int s' k t) noFill_tuple_mul F.fills_int_mul F.slot_int_rmul repeat_tuple F.slot_int_index.lookup
    (call_meets F.slot_int_rmul (typeIs_int s k t) F.entry_int_rmul (F.args_int_rmul_2 _ _) (int_rmul_tuple k t a its.toArray n dd sl)
      ⟨ho, rfl, ⟨_, ho, rfl⟩, call_meets F.slot_tuple_mul ⟨_, ho, rfl⟩ F.entry_tuple_mul (F.args_tuple_mul_2 _ _) (tuple_mulW a its.toArray n dd sl k t h2 h3 hne (by rw [List.size_toArray, ← hl]; exact hz)) ⟨ho, ?_⟩⟩)
  have e := foldl_rep its k.toNat []
  rw [List.nil_append] at e
  have e2 : List.foldl (fun x1 x2 => x1 ++ x2) #[] (List.replicate k.toNat its.toArray) = (List.replicate k.toNat its).flatten.toArray := e
  rw [e2]
  refine ⟨.ref s.heap.objs.size, _, I.laid (t' := s.toks) (o := .tup (List.replicate k.toNat xs).flatten) (fun b ob q => Heap.get?_push_of_some _ q) (Nat.le_refl _) ?_, rfl, q _ (I.hok.fresh (Nat.le_refl _))⟩
  exact ⟨by rw [len_rep, Nat.mul_comm]; exact hz, _, r.rep k.toNat, IsTup.new _ _⟩
end
end L2
namespace L2
open PySem PySem.Spec PyProof.Rows
structure Callee (P : Program) (w : World) (K : PySem.W.Frag) (mg : Str → Option Value) (base : Heap) (x : Str) (ps : List Str) (k : Nat) (sp : Sp) : Prop where
  ex : ∃ f fd, FnOk P w K mg base CX0 k f fd ps sp ∧ Binds K fd ps [] ∧ PySem.W.keepIn K (.ref f) = true ∧ mg x = some (.ref f)
section
variable {X : Cx} {a b c d : Expr} {ta tb tc td : TE} {pos : Pos}
theorem pe_callC {x : Str} {ps : List Str} {k k' : Nat} {sp : Sp} {e : Expr} {es : List Expr} {t : TA} {p : Pos} (C : Callee X.prog X.w X.K X.mg X.base x ps k sp) (hr : Room k' X.A) (hg : Gl X x) (ha : PA X (e :: es) t) (hk : k ≤ k' := by decide) (hdb : (x == ("__debug__" : Str)) = false := by decide)
    (h1 : starEach (e :: es) X.env = (false, eval e X.env) :: starEach es X.env := by rfl) (h2 : (backTo pos (starEach es X.env)).any (·.1) = false := by rfl) :
    PE X (.Call (.Name x p) (e :: es) [] pos) (tCall sp [] E0 t) := by
  obtain ⟨f, fd, F, hb, hkp, hm⟩ := C.ex
  exact pe_call (hdb := hdb) (he := h1) (hpl := h2) F (hr.mono hk) hg hm hkp hb .nil pass0 ha
end
def Keep (a0 : Addr) (H H' : Hp) : Prop := ∀ b o, H b = some o → H' b = some o ∨ (b = a0 ∧ ∃ xs ys, o = .lst xs ∧ H' b = some (.lst ys))
def TK (K : PySem.W.Frag) (H H' : Hp) : Prop := ∀ p xs, SqT K H p xs → SqT K H' p xs
theorem TK.refl (K : PySem.W.Frag) (H : Hp) : TK K H H := fun _ _ h => h
theorem TK.trans {K : PySem.W.Frag} {H H1 H2 : Hp} (a : TK K H H1) (b : TK K H1 H2) : TK K H H2 := fun p xs h => b p xs (a p xs h)
def StAt (H : Hp) (a : Addr) : Prop := ∃ s b, H a = some (.lst [.int s, .bl b]) ∧ (b = false → 0 ≤ s ∧ s < 2147483647)
theorem dT {p : Prop} [Decidable p] (h : p) : decide p = true := decide_eq_true h
end L2
namespace L2
open PySem PySem.Spec PyProof.Rows
theorem bt_len : bootBuiltins "len" = some (.builtin "len") := by decide +kernel
theorem bt_range : bootBuiltins "range" = some (.type "range") := by decide +kernel
theorem bt_list : bootBuiltins "list" = some (.type "list") := by decide +kernel
theorem bt_tuple : bootBuiltins "tuple" = some (.type "tuple") := by decide +kernel
theorem bt_min : bootBuiltins "min" = some (.builtin "min") := by decide +kernel
theorem bt_max : bootBuiltins "max" = some (.builtin "max") := by decide +kernel
theorem bt_isinstance : bootBuiltins "isinstance" = some (.builtin "isinstance") := by decide +kernel
theorem bt_all : bootBuiltins "all" = some (.builtin "all") := by decide +kernel
theorem bt_any : bootBuiltins "any" = some (.builtin "any") := by decide +kernel
theorem bt_int : bootBuiltins "int" = some (.type "int") := by decide +kernel
theorem bt_bool : bootBuiltins "bool" = some (.type "bool") := by decide +kernel
theorem bt_str : bootBuiltins "str" = some (.type "str") := by decide +kernel
section
variable {X : Cx} {scope : Scope} {N : List Str} {k : Nat}
end
end L2
namespace L2
open PySem PySem.Spec PyProof.Rows
structure C4 where
  a : Int
  b : Int
  k : Int
  o : Int
def C4.vs (c : C4) : List V := [.int c.a, .int c.b, .int c.k, .int c.o]
def C4.ok (sw pl : Int) (c : C4) : Prop := 0 ≤ c.a ∧ c.a < c.b ∧ c.b < pl ∧ 0 ≤ c.k ∧ c.k < sw ∧ 0 ≤ c.o ∧ c.o < 2
def CtAt (K : PySem.W.Frag) (H : Hp) (v : V) (c : C4) : Prop := ∃ p, v = .ref p ∧ SqT K H p c.vs
def CtsAt (K : PySem.W.Frag) (H : Hp) (xs : List V) (cs : List C4) : Prop := Paired (CtAt K H) xs cs
structure NetOk (ms mp mc : Int) (sw pl : Int) (cs : List C4) : Prop where
  s1 : 1 ≤ sw
  s2 : sw ≤ ms
  p1 : 2 ≤ pl
  p2 : pl ≤ mp
  c1 : (cs.length : Int) ≤ mc
  c2 : ∀ c ∈ cs, c.ok sw pl
end L2
namespace L2
open PySem PySem.Spec PyProof.Rows
structure RowsAt (K : PySem.W.Frag) (H0 H : Hp) (a l : Addr) (sw pl : Int) (xs : List V) (cs : List C4) : Prop where
  kp : Keep a H0 H
  st : StAt H a
  at' : H l = some (.lst xs)
  ct : CtsAt K H xs cs
  ok : ∀ c ∈ cs, c.ok sw pl
end L2
namespace L2
open PySem PySem.Spec PyProof.Rows
inductive Ty2 (K : PySem.W.Frag) (H : Hp) : V → String → Prop where
  | non : Ty2 K H .non "NoneType"
  | bl (x : Bool) : Ty2 K H (.bl x) "bool"
  | int (i : Int) : Ty2 K H (.int i) "int"
  | str (x : Str) : Ty2 K H (.str x) "str"
  | tup {a : Addr} {xs : List V} (e : SqT K H a xs) : Ty2 K H (.ref a) "tuple"
  | lst {a : Addr} {xs : List V} (e : SqL K H a xs) : Ty2 K H (.ref a) "list"
  | dk {a : Addr} {kvs : List (Key × V)} (e : H a = some (.dK kvs)) : Ty2 K H (.ref a) "dict"
def kOf (t T : String) : Bool := t == T || (t == "bool" && T == "int")
section
variable {X : Cx}
theorem isinst2_ok {A : Around} {E : Value → Shared → Prop} {pins : List (Addr × Obj)} {σ : St} {H : Hp} {s : Shared} {Q : Value → Shared → Prop} {c : Value} {b : Bool} {x : V} {u : Value} {t : String} (I : Inv X pins σ H s) (rx : RelV x u) (ty : Ty2 X.K H x t) (e : PySem.W.kitOne X.K (.type t) c = some b) (h : ∀ tk, Q (.bool b) { s with toks := tk }) :
    wpAny (model X.prog X.w) A (call (.builtin "isinstance") [u, c]) Q E s := by
  cases ty with
  | non => cases (show u = Value.none from rx); exact PySem.W.kia_one PySem.W.kitx_none I.kIn True.intro e (fun z => nomatch z) h
  | bl y => cases (show u = Value.bool y from rx); exact PySem.W.kia_one PySem.W.kitx_bool I.kIn True.intro e (fun z => nomatch z) h
  | int i => obtain ⟨t, q⟩ := (show ∃ t, u = Value.int i t from rx); cases q; exact PySem.W.kia_one PySem.W.kitx_int I.kIn True.intro e (fun z => nomatch z) h
  | str y => obtain ⟨t, q⟩ := (show ∃ t, u = Value.str y t from rx); cases q; exact PySem.W.kia_one PySem.W.kitx_str I.kIn True.intro e (fun z => nomatch z) h
  | @lst a xs ea =>
    cases (show u = Value.ref a from rx)
    obtain ⟨its, _, pl, _⟩ := I.list ea
    obtain ⟨o, h1, h2, _⟩ := pl.isList
    exact PySem.W.kia_one PySem.W.kitx_list I.kIn ⟨o, h1, h2⟩ e (fun z => nomatch z) h
  | @tup a xs ea =>
    cases (show u = Value.ref a from rx)
    obtain ⟨its, _, pl, _⟩ := I.tuple ea
    obtain ⟨o, h1, h2, _⟩ := pl
    exact PySem.W.kia_one PySem.W.kitx_tuple I.kIn ⟨o, h1, h2⟩ e (fun z => nomatch z) h
  | @dk a kvs ea =>
    cases (show u = Value.ref a from rx)
    obtain ⟨_, _, vs, _, p⟩ := (show ObjOk X.prog X.w H s.heap a (.dK kvs) from I.hok a _ ea)
    obtain ⟨o, es, ep, h1, h2, _⟩ := p
    exact PySem.W.kia_one PySem.W.kitx_dict I.kIn ⟨o, h1, h2.1⟩ e (fun z => nomatch z) h
theorem call_isinst2 : CallR X (.builtin "isinstance") (fun vs H Q => ∃ x t T b, vs = [x, .ty T] ∧ Ty2 X.K H x t ∧ PySem.W.kitOne X.K (.type t) (.type T) = some b ∧ Q (.bl b) H) := by
  intro pins s σ H xs us Q I r h
  obtain ⟨x, t, T, b, rfl, ty, e, q⟩ := h
  obtain ⟨u, v, rfl, ru, rv⟩ := vals2 r
  cases rv
  exact isinst2_ok I ru ty e fun tk => ⟨.bl b, H, I.tok tk, rfl, q⟩
end
theorem kit_all2 (K : PySem.W.Frag) : (∀ t ∈ ["NoneType", "bool", "int", "str", "tuple", "list", "dict"], ∀ T ∈ ["bool", "int", "tuple", "list", "str", "dict"], PySem.W.kitOne K (.type t) (.type T) = some (kOf t T)) := by
  intro t ht T hT
  simp only [List.mem_cons, List.not_mem_nil, or_false] at ht hT
  rcases ht with rfl | rfl | rfl | rfl | rfl | rfl | rfl <;> rcases hT with rfl | rfl | rfl | rfl | rfl | rfl <;> rfl
end L2
namespace L2
open PySem PySem.Spec PyProof.Rows
mutual
inductive Rp (K : PySem.W.Frag) (H : Hp) (a0 : Addr → Prop) : V → PyData → Prop where
  | non : Rp K H a0 .non .none
  | bl (b : Bool) : Rp K H a0 (.bl b) (.bool b)
  | int (i : Int) : Rp K H a0 (.int i) (.int i)
  | str (x : Str) : Rp K H a0 (.str x) (.str x)
  | tup {p : Addr} {xs : List V} {ds : List PyData} (h : SqT K H p xs) (r : RpL K H a0 xs ds) : Rp K H a0 (.ref p) (.tuple ds)
  | lst {p : Addr} {xs : List V} {ds : List PyData} (n : a0 p) (h : SqL K H p xs) (r : RpL K H a0 xs ds) : Rp K H a0 (.ref p) (.list ds)
inductive RpL (K : PySem.W.Frag) (H : Hp) (a0 : Addr → Prop) : List V → List PyData → Prop where
  | nil : RpL K H a0 [] []
  | cons {x : V} {xs : List V} {d : PyData} {ds : List PyData} (h : Rp K H a0 x d) (t : RpL K H a0 xs ds) : RpL K H a0 (x :: xs) (d :: ds)
end
def C4.d (c : C4) : PyData := .tuple [.int c.a, .int c.b, .int c.k, .int c.o]
end L2
namespace L2
open PySem PySem.Spec PyProof.Rows
end L2
namespace L2
open PySem PySem.Spec PyProof.Rows
section
variable {prog : Program} {w : World} {A : Around} {E : Value → Shared → Prop} {s : Shared}
end
end L2
namespace L2
open PySem PySem.Spec PyProof.Rows
section
variable {X : Cx}
end
end L2
namespace L2
open PySem PySem.Spec PyProof.Rows
section
variable {X : Cx} {pins : List (Addr × Obj)} {σ : St} {H : Hp} {s : Shared}
mutual
theorem Inv.reads (I : Inv X pins σ H s) {a0 : Addr → Prop} : ∀ {x : V} {d : PyData} {u : Value}, Rp X.K H a0 x d → RelV x u → ∃ as, Reads s.heap u d as
  | _, _, u, .non, r => by cases (show u = Value.none from r); exact ⟨_, .none⟩
  | _, _, u, .bl b, r => by cases (show u = Value.bool b from r); exact ⟨_, .bool b⟩
  | _, _, u, .int i, r => by obtain ⟨t, q⟩ := (show ∃ t, u = Value.int i t from r); cases q; exact ⟨_, .int i t⟩
  | _, _, u, .str y, r => by obtain ⟨t, q⟩ := (show ∃ t, u = Value.str y t from r); cases q; exact ⟨_, .str y t⟩
  | _, _, u, .tup (p := p) h rr, r => by
    cases (show u = Value.ref p from r)
    obtain ⟨its, rv, ⟨o, h1, h2, n, h3⟩, _⟩ := I.tuple h
    obtain ⟨as, ra⟩ := I.readsL rr rv
    exact ⟨_, .tuple h1 h2 h3 (by simpa using ra)⟩
  | _, _, u, .lst (p := p) _ h rr, r => by
    cases (show u = Value.ref p from r)
    obtain ⟨its, rv, pl, _⟩ := I.list h
    obtain ⟨o, h1, h2, n, h3⟩ := pl.isList
    obtain ⟨as, ra⟩ := I.readsL rr rv
    exact ⟨_, .list h1 h2 h3 (by simpa using ra)⟩
theorem Inv.readsL (I : Inv X pins σ H s) {a0 : Addr → Prop} : ∀ {xs : List V} {ds : List PyData} {us : List Value}, RpL X.K H a0 xs ds → Vals xs us → ∃ as, ReadsAll s.heap us ds as
  | _, _, _, .nil, .nil => ⟨_, .nil⟩
  | _, _, _, .cons h t, .cons r rr => by
    obtain ⟨a1, q1⟩ := I.reads h r
    obtain ⟨a2, q2⟩ := I.readsL t rr
    exact ⟨_, .cons q1 q2⟩
end
def okD (d : PyData) : Prop := d.canLay0 = true ∧ d.depth ≤ 60
theorem op_eqD (hu : X.A.units + 64 < cLine) : OpR X (compareOp .Eq) (fun x y H Q => ∃ (N N' : Addr → Prop) (da db : PyData), Rp X.K H N x da ∧ Rp X.K H N' y db ∧ okD da ∧ okD db ∧ Q (.bl (PyData.eqv da db)) H) := by
  intro pins s σ H x y v u Q I rx ry h
  obtain ⟨N, N', da, db, hx, hy, o1, o2, q⟩ := h
  obtain ⟨as, ra⟩ := I.reads hx rx
  obtain ⟨bs, rb⟩ := I.reads hy ry
  exact SeqAt.compareEq_reads ra rb o1.1 o2.1 (by have := o1.2; omega) ⟨.bl _, H, I, rfl, q⟩
theorem op_neD (hu : X.A.units + 64 < cLine) : OpR X (compareOp .NotEq) (fun x y H Q => ∃ (N N' : Addr → Prop) (da db : PyData), Rp X.K H N x da ∧ Rp X.K H N' y db ∧ okD da ∧ okD db ∧ Q (.bl (!PyData.eqv da db)) H) := by
  intro pins s σ H x y v u Q I rx ry h
  obtain ⟨N, N', da, db, hx, hy, o1, o2, q⟩ := h
  obtain ⟨as, ra⟩ := I.reads hx rx
  obtain ⟨bs, rb⟩ := I.reads hy ry
  exact SeqAt.compareNe_reads ra rb o1.1 o2.1 (by have := o1.2; omega) ⟨.bl _, H, I, rfl, q⟩
end
end L2
namespace L2
open PySem PySem.Spec PyProof.Rows
def IsX (b : Bool) (h : Heap) (a : Addr) (vs : Array Value) : Prop := match b with
  | true => h.IsTuple a vs
  | false => h.IsList a vs
def ItX (b : Bool) (h : Heap) (j a : Addr) (i : Nat) : Prop := match b with
  | true => h.IsTupleIter j a i
  | false => h.IsListIter j a i
theorem ItX.obj {b : Bool} {h : Heap} {j a : Addr} {i : Nat} (x : ItX b h j a i) : ∃ o, h.get? j = some o ∧ ∀ v, o.data ≠ .cell v := by
  cases b with
  | true => obtain ⟨o, h1, _, h2⟩ := (x : h.IsTupleIter j a i); exact ⟨o, h1, fun v q => by rw [h2] at q; cases q⟩
  | false => obtain ⟨o, h1, _, h2⟩ := (x : h.IsListIter j a i); exact ⟨o, h1, fun v q => by rw [h2] at q; cases q⟩
theorem ItX.keep {b : Bool} {h h' : Heap} {j a : Addr} {i : Nat} (x : ItX b h j a i) (e : ∀ o, h.get? j = some o → h'.get? j = some o) : ItX b h' j a i := by
  cases b with
  | true => exact Heap.IsTupleIter.at x e
  | false => exact Heap.IsListIter.at x e
theorem IsX.lt {b : Bool} {h : Heap} {a : Addr} {vs : Array Value} (x : IsX b h a vs) : a < h.objs.size := by
  cases b with
  | true => obtain ⟨_, e, _⟩ := (x : h.IsTuple a vs); exact Heap.lt_size e
  | false => obtain ⟨_, e, _⟩ := (x : h.IsList a vs); exact Heap.lt_size e
section
variable {X : Cx} {pins : List (Addr × Obj)} {σ : St} {H : Hp} {s : Shared}
end
section
variable {X : Cx}
end
section
variable {X : Cx}
theorem readsAll_get {h : Heap} : ∀ {ds : List PyData} {us : List Value} {as : List Addr} {i : Nat} {u : Value}, ReadsAll h us ds as → us[i]? = some u → ∃ d bs, ds[i]? = some d ∧ Reads h u d bs
  | _, _, _, i, u, .nil, e => by simp at e
  | _, _, _, 0, u, .cons r rr, e => by simp at e; subst e; exact ⟨_, _, rfl, r⟩
  | _, _, _, i + 1, u, .cons r rr, e => by
    rw [List.getElem?_cons_succ] at e
    obtain ⟨d, bs, h1, h2⟩ := readsAll_get rr e
    exact ⟨d, bs, by rw [List.getElem?_cons_succ]; exact h1, h2⟩
open Classical in
noncomputable def eqW (h : Heap) (dx : PyData) (y : Value) : Bool := decide (∃ d as, Reads h y d as ∧ d.canLay0 = true ∧ PyData.eqv d dx = true)
theorem eqW_is {h : Heap} {dx d : PyData} {y : Value} {as : List Addr} (r : Reads h y d as) (c : d.canLay0 = true) : eqW h dx y = PyData.eqv d dx := by
  classical
  unfold eqW
  cases q : PyData.eqv d dx with
  | true => exact decide_eq_true ⟨d, as, r, c, q⟩
  | false =>
    refine decide_eq_false ?_
    rintro ⟨d', as', r', c', q'⟩
    have := SeqAt.Reads.unique d d' y as as' c r r'
    subst this
    rw [q] at q'; cases q'
end
end L2
namespace L2
open PySem PySem.Spec PyProof.Rows
structure ZAp (z TI TO i1 i2 : Addr) (f1 f2 : List Addr) : Prop where
  TIz : TI ≠ z
  TOz : TO ≠ z
  i1z : i1 ≠ z
  i2z : i2 ≠ z
  TITO : TI ≠ TO
  TIi1 : TI ≠ i1
  TIi2 : TI ≠ i2
  TOi1 : TO ≠ i1
  TOi2 : TO ≠ i2
  i12 : i1 ≠ i2
  z1 : z ∉ f1
  z2 : z ∉ f2
  O1 : TO ∉ f1
  O2 : TO ∉ f2
  j1 : i2 ∉ f1
  j2 : i1 ∉ f2
section
variable {prog : Program} {w : World} {A : Around} {E : Value → Shared → Prop} {s : Shared}
variable {z TI TO i1 i2 : Addr} {f1 f2 : List Addr} {n1 n2 k : Nat} {P1 P2 : Nat → Value → Prop} {S1 S2 : Nat → Heap → Prop}
end
end L2
namespace L2
open PySem PySem.Spec PyProof.Rows
section
variable {prog : Program} {w : World} {A : Around} {E : Value → Shared → Prop} {s : Shared}
end
section
variable {X : Cx}
end
end L2
namespace L2
open PySem PySem.Spec PyProof.Rows
section
variable {X : Cx} {pins : List (Addr × Obj)} {σ : St} {H : Hp} {s : Shared} {scope : Scope} {N : List Str} {C : Addr} {ex : List Addr}
theorem ps_compSet {elt iter tg : Expr} {ifs : List Expr} {pos pos' spos : Pos} {y0 : Str} {go : TG} (hgo : PG X (.Name y0 pos') go) (hsw : swapsWith (.ListComp elt [⟨tg, iter, ifs, 0⟩] scope pos) (some (.Name y0 pos')) spos.line X.env = pure true) {wi : TI} {g : TG} {tc : TT} {te : TE} {k : Nat} {js : List Nat}
    (hc : X.calm = true) (hi : PI X tg iter wi)
    (hk : scope.kind = .function) (nc : ∀ y ∈ scope.names, y.2 ≠ .cell) (hf : ∀ x, (x, NameKind.free) ∈ scope.names → (X.env.kindOf x = some .cell ∨ X.env.kindOf x = some .free))
    (hnames : ∀ x ∈ scope.names, x.2 = .local → scope.names.lookup x.1 = some .local)
    (hlen : N.length = k + js.length)
    (hjs : ∀ i j, js[i]? = some j → ∃ x, N[k + i]? = some x ∧ X.N[j]? = some x ∧ scope.names.lookup x = some .free ∧ Vis X.env.scope x)
    (hg : ∀ cl s H C ex, PG (cxComp X scope N cl s H C ex) tg g) (htc : ∀ cl s H C ex, PTs (cxComp X scope N cl s H C ex) ifs tc) (hte : ∀ cl s H C ex, PE (cxComp X scope N cl s H C ex) elt te)
    (hs : ∀ x, foldedSetIterable iter X.env x = pure x := by intro _; rfl) : PS X (.Assign [.Name y0 pos'] (.ListComp elt [⟨tg, iter, ifs, 0⟩] scope pos) spos) (tAsg (tComp wi k js g tc te) go) := by
  intro pins s σ H D0 I h
  have hcell : ∀ x, (x, NameKind.free) ∈ scope.names → ∃ c, X.env.cells.lookup x = some c := fun x hx => I.ok.has x (hf x hx)
  rw [exec_Assign_Name_used _ _ _ _ hsw]
  refine wpAny_bind (wpAny_standAt (wpAny_bind ?_))
  show wpAny _ X.A (do let _ ← comprehension (.ListComp elt [⟨tg, iter, ifs, 0⟩] scope pos) scope X.env _ (newList []) false (eval iter X.env) (some (assign (.Name y0 pos') X.env))) _ _ s
  refine wpAny_bind (wpAny_mono (wpAny_comprehension_free (use := some (assign (.Name y0 pos') X.env)) (Q := fun _ s' => SP X pins D0 .next s') rfl hs (closureFor_ok hcell) hk hnames (thn (hi pins s σ H _ I h) fun v s1 h1 => thn h1 fun itv s2 h2 => ?_)) (fun _ s' hq => wpAny_pure (wpAny_pure hq)) fun _ _ e => e)
  obtain ⟨it, fp, tn, J, H2, e, I2, T, st2, f2, hW⟩ := h2
  subst e
  obtain ⟨W, ⟨m0, w0⟩, turn⟩ := hW s2.heap.objs.size (I2.hok.fresh (Nat.le_refl _))
  refine wpAny_newObj_type (wpAny_newFunctionEnv nc (by intro y hy; simp at hy) (fun h1 hns1 hsb1 => ?_) hk)
  dsimp only at hns1 hsb1 ⊢
  generalize hP : s2.heap.push { cls := .type "list", dict := none, data := .seq ([] : List Value).toArray } = P at hns1 hsb1 ⊢
  have hPs : P.objs.size = s2.heap.objs.size + 1 := by rw [← hP, Heap.size_push]
  have below : ∀ b, b < s2.heap.objs.size → b ≠ P.objs.size := fun b hb => by rw [hPs]; exact Nat.ne_of_lt (Nat.lt_succ_of_lt hb)
  have hDC : s2.heap.objs.size ≠ P.objs.size := by rw [hPs]; exact Nat.ne_of_lt (Nat.lt_succ_self _)
  have hCle : s2.heap.objs.size ≤ P.objs.size := by rw [hPs]; exact Nat.le_succ _
  have old : ∀ b o, s2.heap.get? b = some o → h1.get? b = some o := fun b o e => hsb1.extBut b o (below b (Heap.lt_size e)) (Heap.get?_push_of_some _ (hP ▸ Heap.get?_push_of_some _ e))
  have hacc : h1.get? s2.heap.objs.size = some { cls := .type "list", dict := none, data := .seq ([] : List Value).toArray } := hsb1.extBut _ _ hDC (Heap.get?_push_of_some _ (hP ▸ Heap.get?_push_size _ rfl))
  have hfx : ∀ b ∈ fp, b < s2.heap.objs.size := fun b hb => by
    obtain ⟨o, e, _⟩ := T.obj _ _ st2 b hb
    exact Heap.lt_size e
  have ok := I2.compOk (N := N) (C := P.objs.size) (ex := fp) hk nc hcell hCle f2 hfx
  have hsub : ∀ x c, (clOf X.env scope.names []).lookup x = some c → X.env.cells.lookup x = some c := clOf_sub _ _ (fun _ _ z => by cases z)
  have I3 : Inv (cxComp X scope N (clOf X.env scope.names []) s2 H2 P.objs.size fp) [] (stC k js σ) (upd H2 s2.heap.objs.size (.lst [])) { s2 with heap := h1, toks := s2.toks + ([] : List (Str × Value)).length } := by
    refine ⟨ok, rfl, I2.bare, Un.laid old (Nat.le_refl _) (I2.hok.fresh (Nat.le_refl _)), ⟨_, hns1, fun i x v e1 e2 e3 => ?_⟩, fun x c e => ?_, ?_, fun x c e => ?_, fun p hp => (by cases hp), I2.hok.laid old (Nat.le_refl _) ?_, ?_⟩
    · obtain ⟨j, hki, hj, hv⟩ := stC_get e2
      obtain ⟨y, n1, n2, n3, n4⟩ := hjs _ j hj
      have ei : k + (i - k) = i := by omega
      rw [ei] at n1
      have e1' : N[i]? = some x := e1
      rw [n1] at e1'
      cases e1'
      obtain ⟨m, hn, hl⟩ := I2.loc
      obtain ⟨u, r, lk⟩ := hl j x v n2 hv n4
      refine ⟨u, r, ?_⟩
      have mem := mem_of_look n3
      rcases lk with ⟨kk, _⟩ | ⟨kk, c, ec, ce⟩
      · rcases hf x mem with z | z
        · rw [z] at kk; cases kk
        · rw [z] at kk; cases kk
      · obtain ⟨c', ec'⟩ := clOf_has (env := X.env) scope.names [] x (.inr ⟨mem, c, ec⟩)
        have := hsub x c' ec'
        rw [ec] at this
        cases this
        refine .inr ⟨relabel_free n3, c, ec', ?_⟩
        obtain ⟨o, ho, hd⟩ := ce
        exact ⟨o, old _ _ ho, hd⟩
    · obtain ⟨v, o, ho, hd⟩ := I2.cell x c (hsub x c e)
      exact ⟨v, o, old _ _ ho, hd⟩
    · show upd H2 s2.heap.objs.size (.lst []) P.objs.size = none
      rw [upd_ne (Ne.symm hDC)]
      exact I2.hok.fresh hCle
    · obtain ⟨v, o, ho, hd⟩ := I2.cell x c (hsub x c e)
      rw [upd_ne (Nat.ne_of_lt (Heap.lt_size ho))]
      exact I2.freeC x c (hsub x c e)
    · exact ⟨Nat.zero_le _, [], _, .nil, hacc⟩
    · unfold stC
      rw [List.length_append, List.length_replicate, List.length_map]
      exact hlen.symm
  have stat : ∀ {H' : Hp}, (∀ b ∈ fp, H' b = none) → ∀ b ∈ fp, FpOk (cxComp X scope N (clOf X.env scope.names []) s2 H2 P.objs.size fp) [] H' b := fun hn b hb =>
    ⟨hn b hb, (ok.exf b hb).1, ok.exfs b hb, .inl hb, (ok.exf b hb).2, fun p hp => by cases hp⟩
  have fr0 : ∀ b ∈ fp, upd H2 s2.heap.objs.size (.lst []) b = none := fun b hb => by
    rw [upd_ne (Nat.ne_of_lt (hfx b hb))]
    exact (f2 b hb).1
  have st3 : tn 0 h1 := T.keep _ _ _ st2 fun b _ o e => old b o e
  have loop : codeAny (model X.prog X.w) X.A (.compLoop (.ListComp elt [⟨tg, iter, ifs, 0⟩] scope pos) 0 (.ref it) (.ref s2.heap.objs.size) (compEnvC scope (clOf X.env scope.names []) P.objs.size X.env))
      (compPost (model X.prog X.w) X.A X.xe (some (assign (.Name y0 pos') X.env)) (fun _ s' => SP X pins D0 .next s') (.ref s2.heap.objs.size) P.objs.size) { s2 with heap := h1, toks := s2.toks + ([] : List (Str × Value)).length } := by
    refine compLoop_go (fun n s' => ∃ i ys H', Inv (cxComp X scope N (clOf X.env scope.names []) s2 H2 P.objs.size fp) [] (stC k js σ) H' s' ∧ tn i s'.heap ∧ (∀ b ∈ fp, H' b = none) ∧ W i n ys H') ?_ m0 ⟨0, [], _, I3, st3, fr0, w0⟩
    rintro n s4 ⟨i, ys, H4, I4, st4, fr4, w4⟩
    obtain ⟨hD4, hd⟩ := turn i n ys H4 w4
    rcases hd with ⟨stop, q⟩ | ⟨go, hz, step⟩
    · refine thn (T.done (cxComp X scope N (clOf X.env scope.names []) s2 H2 P.objs.size fp) rfl rfl rfl hc i [] s4 _ H4 _ I4 (stat fr4) st4 stop) fun r s5 ⟨hr, I5⟩ => ?_
      subst hr
      obtain ⟨m, hn, _⟩ := id I5.loc
      have hC4 : H4 P.objs.size = none := I5.free
      have IA : Inv X pins σ H4 s5 := by
        refine I2.call' (s' := s5) (ch := fp) I5.os I5.base I5.hok I5.bare (fun b hb => ⟨(f2 b hb).2.2.2.1, (f2 b hb).2.1, (f2 b hb).2.2.2.2.1, (f2 b hb).2.2.2.2.2⟩)
      have fC : ∀ {H' : Hp}, H' P.objs.size = none → ∀ b ∈ [P.objs.size], FpOk X pins H' b := fun hn b hb => by
        have : b = P.objs.size := by simpa using hb
        subst this
        exact I2.fpOk hCle hn
      have oC : ∀ b ∈ [P.objs.size], ∃ o, s5.heap.get? b = some o ∧ ∀ v, o.data ≠ .cell v := fun b hb => by
        have : b = P.objs.size := by simpa using hb
        subst this
        obtain ⟨o, _, _, ho, hd, _⟩ := id hn
        exact ⟨o, ho, fun v z => by rw [hd] at z; cases z⟩
      have IB := IA.pinned (fC hC4) oC
      refine thn (hgo _ s5 σ H4 (.ref s2.heap.objs.size) (.ref s2.heap.objs.size) _ IB rfl q) fun _ s6 ⟨σ6, H6, I6, q6⟩ => ?_
      obtain ⟨oc, hoc, _⟩ := oC P.objs.size (by simp)
      have hp6 := I6.pin (P.objs.size, oc) (List.mem_append_right _ (List.mem_append_right _ (mem_pinsAt (by simp) hoc)))
      refine ⟨m, hn.at' fun o e => ?_, fun h' hs' => ⟨σ6, H6, ?_, q6⟩⟩
      · have e' : s5.heap.get? P.objs.size = some o := e
        rw [hoc] at e'; cases e'; exact hp6.1
      · exact I6.unpinned.turnedL (wr := [P.objs.size]) (tk := s6.toks) (fC hp6.2.1) fun b o nb e => hs'.extBut b o (by simpa using nb) e
    · refine thn (T.item (cxComp X scope N (clOf X.env scope.names []) s2 H2 P.objs.size fp) rfl rfl rfl hc i [] s4 _ H4 _ I4 (stat fr4) st4 go) fun r s5 ⟨u, hr, h5⟩ => ?_
      subst hr
      refine thn h5 fun _ s6 ⟨x, H6, I6, r6, y6, st6, fr6⟩ => ?_
      have I6' := I6.pinned (stat fr6) (T.obj _ _ st6)
      have back : ∀ {σ7 : St} {H7 : Hp} {s7 : Shared}, Inv (cxComp X scope N (clOf X.env scope.names []) s2 H2 P.objs.size fp) ([] ++ pinsAt fp s6.heap) σ7 H7 s7 → WeakS (stC k js σ) σ7 →
          Inv (cxComp X scope N (clOf X.env scope.names []) s2 H2 P.objs.size fp) [] (stC k js σ) H7 s7 ∧ tn (i + 1) s7.heap ∧ ∀ b ∈ fp, H7 b = none := fun {σ7 H7 s7} I7 hw => by
        refine ⟨I7.unpinned.weak hw.1 hw.2, T.keep _ _ _ st6 fun b hb o e => (I7.pin (b, o) (List.mem_append_right _ (List.mem_append_right _ (mem_pinsAt hb e)))).1, fun b hb => ?_⟩
        obtain ⟨o, e, d⟩ := T.obj _ _ st6 b hb
        exact (I7.pin (b, o) (List.mem_append_right _ (List.mem_append_right _ (mem_pinsAt hb e)))).2.1
      refine wpAny_mono (hg _ _ _ _ _ _ s6 _ H6 x u _ I6' r6 (step x H6 y6)) (fun _ s7 ⟨σ7, H7, I7, hw7, q7⟩ => ?_) fun _ _ z => z.elim
      refine wpAny_mono (htc _ _ _ _ _ _ s7 σ7 H7 _ I7 q7) (fun b s8 ⟨H8, I8, q8⟩ => ?_) fun _ _ z => z.elim
      cases b with
      | false =>
        obtain ⟨m', hm, w8⟩ := (show ∃ m', m' < n ∧ W (i + 1) m' ys H8 by simpa using q8)
        obtain ⟨a1, a2, a3⟩ := back I8 hw7
        exact (by simpa using ⟨m', hm, i + 1, ys, H8, a1, a2, a3, w8⟩)
      | true =>
        rw [if_pos rfl] at q8
        rw [if_pos rfl]
        refine wpAny_mono (hte _ _ _ _ _ _ s8 σ7 H8 _ I8 q8) (fun y s9 ⟨vy, H9, I9, r9, q9⟩ => ?_) fun _ _ z => z.elim
        obtain ⟨hD9, m', hm, w9⟩ := q9
        refine wpAny_mono (mt_append (X := cxComp X scope N (clOf X.env scope.names []) s2 H2 P.objs.size fp) _ s9 σ7 H9 (.ref s2.heap.objs.size) [vy] (.ref s2.heap.objs.size) [y] (fun _ H' => W (i + 1) m' (ys ++ [vy]) H') I9 rfl (.cons r9 .nil) ⟨_, ys, vy, rfl, rfl, hD9, hz, w9⟩) (fun z s10 ⟨_, H10, I10, _, q10⟩ => ?_) fun _ _ z => z.elim
        obtain ⟨a1, a2, a3⟩ := back I10 hw7
        exact ⟨m', hm, i + 1, _, H10, a1, a2, a3, q10⟩
  exact codeAny_compStart_list loop (T.self _ 0 _ _ _ st3 loop)
end
end L2
namespace L2
open PySem PySem.Spec PyProof.Rows
section
variable {X : Cx}
theorem call_reprD (hg : X.A.guards = some []) (hu : X.A.units + 64 < cLine) : CallR X (.builtin "repr") (fun xs H Q => ∃ (p : Addr) (N : Addr → Prop) (d : PyData), xs = [.ref p] ∧ Rp X.K H N (.ref p) d ∧ d.showable = true ∧ d.hasDict = false ∧ d.depth ≤ 60 ∧ d.shown.length ≤ sizeLine ∧ Q (.str d.shown) H) := by
  intro pins s σ H xs us Q I rv h
  obtain ⟨p, N, d, rfl, hd, hs, hh, hp, hz, q⟩ := h
  obtain ⟨u, rfl, ru⟩ := rv.one
  cases ru
  obtain ⟨as, r⟩ := I.reads hd rfl
  exact repr_of_reads' r hs (fun z => by rw [hh] at z; cases z) hg (by omega) (fun b o e => e) (fun h' u tk hk => ⟨.str d.shown, H, I.kept (t' := tk) hk, ⟨u, rfl⟩, q⟩) hz
theorem call_reprI : CallR X (.builtin "repr") (fun xs H Q => ∃ i : Int, xs = [.int i] ∧ i.natAbs.log2 < 1920 ∧ Q (.str (toString i)) H) := by
  intro pins s σ H xs us Q I rv h
  obtain ⟨i, rfl, hl, q⟩ := h
  obtain ⟨u, rfl, ru⟩ := rv.one
  obtain ⟨t, rfl⟩ := ru
  exact PySem.P.repr_of_int hl ⟨.str (toString i), H, I.kept (t' := s.toks + 1) fun b o e => e, ⟨_, rfl⟩, q⟩
open AutoSeq1 in
theorem extTup (l : Addr) (items : Array Value) (n : Nat) (b : Addr) (items2 : Array Value) (n2 : Nat) (dct : Option Addr) (sl : Array (Option Value)) (h0 : ¬(!items.isEmpty && Builtin.List.listTooLong (items.size + items2.size)) = true) (h1 : items.size ≤ sizeLine) (h2 : items.size + items2.size ≤ sizeLine + 1) :
    Meets (Builtin.«list.extend» ⟨[.ref l, .ref b], []⟩) (fun _ R s => s.heap.get? l = some { cls := .type "list", dict := none, data := .seq items n, slots := #[] } ∧ s.heap.get? b = some { cls := .type "tuple", dict := dct, data := .seq items2 n2, slots := sl } ∧
      R (.ok (.ret Value.none)) { s with heap := s.heap.update l (Obj.mapSeq fun x => x ++ items2), toks := s.toks }) :=
  .of_wp fun prog w A R s h => by
    obtain ⟨hp, g, d, tk, os⟩ := s; obtain ⟨hl, hb, h⟩ := h
    have a1 := idx_int
    have a2 := AutoSeq1.sub_tuple_tuple
    have a3 := AutoSeq1.sub_list_list
    have a4 := AutoSeq1.sub_tuple_list
    have a5 := AutoSeq1.sub_list_tuple
    have hz : (items ++ items2).size ≤ sizeLine + 1 := by rw [Array.size_append]; exact h2
    wp_walk using (wpAny_updateSeq hl rfl (hz := h1) (_hz' := hz)), wpAny_loadPart' hl, wpAny_loadPart' hb
    exact ⟨_, rfl, h⟩
def rExtT (K : PySem.W.Frag) : V → List V → Hp → VK → Prop := fun x vs H Q => ∃ l b xs zs, x = .ref l ∧ vs = [.ref b] ∧ H l = some (.lst xs) ∧ SqT K H b zs ∧ xs.length + zs.length ≤ sizeLine ∧ Q .non (upd H l (.lst (xs ++ zs)))
theorem mt_extT : MtM X "list.extend" (rExtT X.K) := by
  intro pins s σ H x vs v us Q I rx rv h
  obtain ⟨l, b, xs, zs, rfl, rfl, hH, hB, hz, q⟩ := h
  cases rx
  obtain ⟨u, rfl, ru⟩ := rv.one
  cases ru
  obtain ⟨z, its, n, r, hl, e⟩ := I.lstM hH
  obtain ⟨its2, r2, ⟨⟨c, dct, dt, sl⟩, e2, hc, n2, hd⟩, _⟩ := I.tuple hB
  replace hc : c = .type "tuple" := hc
  replace hd : dt = .seq its2.toArray n2 := hd
  subst hc hd
  have l2 : zs.length = its2.length := r2.length
  have hsz : its.toArray.size + its2.toArray.size ≤ sizeLine := by rw [List.size_toArray, List.size_toArray]; omega
  have hlong : ¬ (!its.toArray.isEmpty && Builtin.List.listTooLong (its.toArray.size + its2.toArray.size)) = true := by
    rw [notLongL hsz, Bool.and_false]
    exact Bool.false_ne_true
  refine call_meets PySem.F.slot_list_extend ⟨_, e, rfl⟩ PySem.F.entry_list_extend (PySem.F.args_list_extend_2 _ _)
    (extTup l its.toArray n b its2.toArray n2 dct sl hlong (by rw [List.size_toArray]; omega) (by omega)) ⟨e, e2, ?_⟩
  refine ⟨.non, _, I.lset (its' := its ++ its2) hH e (by simp) (r.append r2) ?_, rfl, q⟩
  rw [List.length_append]
  omega
end
end L2
namespace L2
open PySem PySem.Spec PyProof.Rows
structure ZAp3 (z TI TO i1 i2 i3 : Addr) (f1 f2 f3 : List Addr) : Prop where
  TIz : TI ≠ z
  TOz : TO ≠ z
  i1z : i1 ≠ z
  i2z : i2 ≠ z
  i3z : i3 ≠ z
  TITO : TI ≠ TO
  TIi1 : TI ≠ i1
  TIi2 : TI ≠ i2
  TIi3 : TI ≠ i3
  TOi1 : TO ≠ i1
  TOi2 : TO ≠ i2
  TOi3 : TO ≠ i3
  z1 : z ∉ f1
  z2 : z ∉ f2
  z3 : z ∉ f3
  O1 : TO ∉ f1
  O2 : TO ∉ f2
  O3 : TO ∉ f3
  a12 : i1 ∉ f2
  a13 : i1 ∉ f3
  a21 : i2 ∉ f1
  a23 : i2 ∉ f3
  a31 : i3 ∉ f1
  a32 : i3 ∉ f2
section
variable {prog : Program} {w : World} {A : Around} {E : Value → Shared → Prop} {s : Shared}
variable {z TI TO i1 i2 i3 : Addr} {f1 f2 f3 : List Addr} {n1 n2 n3 k : Nat} {P1 P2 P3 : Nat → Value → Prop} {S1 S2 S3 : Nat → Heap → Prop}
end
section
variable {prog : Program} {w : World} {A : Around} {E : Value → Shared → Prop} {s : Shared}
end
section
variable {X : Cx}
end
end L2
namespace L2
open PySem PySem.Spec PyProof.Rows
theorem sliceApplied_rev {prog : Program} {w : World} {A : Around} {E : Value → Shared → Prop} {s : Shared} {sl : Addr} {t : Tok} {n : Nat} {Q : Int × Int × Nat → Shared → Prop} (hs : s.heap.IsSliceOf sl .none .none (.int (-1) t))
    (h : Q ((n : Int) - 1, -1, n) s) : wpAny (model prog w) A (Builtin.Slice.sliceApplied (.ref sl) (pure (n : Int))) Q E s := by
  obtain ⟨os, hos, hcs, hds⟩ := id hs
  unfold Builtin.Slice.sliceApplied Builtin.Slice.sliceFields
  refine wpAny_bind (wpAny_bind (wpAny_field hos hds (x := .none) rfl (wpAny_bind (wpAny_field hos hds (x := .none) rfl (wpAny_bind (wpAny_field hos hds (x := .int (-1) t) rfl (wpAny_pure ?_)))))))
  refine wpAny_bind (HT.slicePart_ (.int (-1) t) ?_)
  show wpAny _ _ (if ((-1 : Int) == 0) = true then _ else _) _ _ s
  rw [if_neg (by decide)]
  refine wpAny_bind (HT.slicePart_ .none (wpAny_bind (HT.slicePart_ .none (wpAny_bind (wpAny_pure ?_)))))
  show wpAny _ _ (match Builtin.Slice.sliceAdjust none none (-1) (n : Int) with | (lo, hi) => pure (lo, (-1 : Int), Builtin.Slice.slicePlaces lo hi (-1))) _ _ s
  have e1 : Builtin.Slice.sliceAdjust none none (-1) (n : Int) = ((n : Int) - 1, -1) := by
    unfold Builtin.Slice.sliceAdjust
    rfl
  rw [e1]
  have e2 : Builtin.Slice.slicePlaces ((n : Int) - 1) (-1) (-1) = n := by
    unfold Builtin.Slice.slicePlaces
    have h1 : ¬ ((-1 : Int) > 0) := by decide
    simp only [h1, if_false]
    split
    · have e3 : (- -1 : Int) = 1 := rfl
      rw [e3, Int.ediv_one]
      omega
    · omega
  show wpAny _ _ (pure ((n : Int) - 1, (-1 : Int), Builtin.Slice.slicePlaces ((n : Int) - 1) (-1) (-1))) _ _ s
  rw [e2]
  exact wpAny_pure h
theorem pick_rev (xs : Array Value) : ((List.range xs.size).filterMap fun (m : Nat) => xs[(((xs.size : Int) - 1) + (m : Int) * -1).toNat]?).toArray = xs.toList.reverse.toArray := by
  congr 1
  have key : ∀ k, k ≤ xs.size → ((List.range k).filterMap fun (m : Nat) => xs[(((xs.size : Int) - 1) + (m : Int) * -1).toNat]?) = xs.toList.reverse.take k := by
    intro k
    induction k with
    | zero => intro _; simp
    | succ k ih =>
      intro hk
      rw [List.range_succ, List.filterMap_append, ih (by omega), List.take_add_one]
      congr 1
      have e2 : (((xs.size : Int) - 1) + (k : Int) * -1).toNat = xs.size - 1 - k := by omega
      rw [List.getElem?_reverse (by rw [Array.length_toList]; omega), Array.length_toList]
      simp only [List.filterMap_cons, List.filterMap_nil, e2]
      rw [Array.getElem?_toList]
      rw [Array.getElem?_eq_getElem (by omega)]
      rfl
  rw [key _ (Nat.le_refl _), List.take_of_length_le (by simp)]
theorem getItem_tuple_rev {prog : Program} {w : World} {A : Around} {E : Value → Shared → Prop} {s : Shared} {t sl : Addr} {items : Array Value} {tk : Tok} {Q : Value → Shared → Prop} (ht : IsTup s.heap t items) (hs : s.heap.IsSliceOf sl .none .none (.int (-1) tk))
    (h : Q (.ref s.heap.objs.size) { s with heap := s.heap.push { cls := .type "tuple", data := .seq items.toList.reverse.toArray } }) (hsz : items.size ≤ sizeLine) : wpAny (model prog w) A (getItem (.ref t) (.ref sl)) Q E s := by
  have htake : sizeOk (.seq items.toList.reverse.toArray) := by
    show items.toList.reverse.toArray.size ≤ sizeLine
    simpa using hsz
  obtain ⟨os, hos, hcs, hds⟩ := id hs
  have hTs : s.TypeIs (.ref sl) "slice" := ⟨os, hos, hcs⟩
  unfold getItem
  try with_reducible refine wpAny_holding ?_
  first | refine wpAny_bind (wpAny_pure ?_) | skip
  refine wpAny_bind (wpAny_sequenceKey ht.typeIs (by decide) ?_)
  refine wpAny_bind (wpAny_callSpecial?_slot (name := Str.ofString "__getitem__") ht.typeIs PyProof.Rows.slot_tuple_getitem
    (wpAny_call_entry PyProof.Rows.slot_tuple_getitem ht.typeIs entry_tuple_getitem ?_ (args_tuple_getitem _ _)))
  show wpAny _ _ (Builtin.Tuple.tupleItemsOf (.ref t) >>= _) _ _ s
  refine wpAny_bind (tupleItemsOf_ ht ?_)
  refine wpAny_bind (wpAny_typeOf hTs ?_)
  rw [if_pos (by decide)]
  refine wpAny_bind (sliceApplied_rev hs ?_)
  show wpAny _ _ (if ((((items.size : Int) - 1)) == 0 && (-1 : Int) == 1 && items.size == items.size) = true then _ else _) _ _ s
  rw [if_neg (by simp), pick_rev]
  first
    | exact wpAny_bind (m := Builtin.Tuple.tupleExact _) (wpAny_newObj_type (wpAny_pure ⟨_, rfl, wpAny_pure h⟩) htake)
    | exact wpAny_bind (m := Builtin.Tuple.tupleExact _) (wpAny_newObj_type (wpAny_bind (wpAny_pure (wpAny_pure ⟨_, rfl, wpAny_pure h⟩))) htake)
    | exact wpAny_bind (wpAny_bind (m := Builtin.Tuple.tupleExact _) (wpAny_newObj_type (wpAny_pure (wpAny_pure ⟨_, rfl, wpAny_pure h⟩)) htake))
    | exact wpAny_bind (wpAny_bind (m := Builtin.Tuple.tupleExact _) (wpAny_newObj_type (wpAny_pure ⟨_, rfl, wpAny_pure h⟩) htake))
section
variable {X : Cx}
def tRev (K : PySem.W.Frag) (te ts : TE) : TE := fun σ H Q => te σ H fun x H1 => ts σ H1 fun y H2 => y = .int (-1) ∧ ∃ a xs, x = .ref a ∧ SqT K H2 a xs ∧ ∀ p, H2 p = none → Q (.ref p) (upd H2 p (.tup xs.reverse))
theorem Vals.rev {xs : List V} {us : List Value} (r : Vals xs us) : Vals xs.reverse us.reverse := by
  induction r with
  | nil => exact .nil
  | cons r t ih => rw [List.reverse_cons, List.reverse_cons]; exact ih.append (.cons r .nil)
theorem pe_rev {e st : Expr} {te ts : TE} {p2 pos : Pos} (he : PE X e te) (hst : PE X st ts) : PE X (.Subscript e (.Slice none none (some st) p2) pos) (tRev X.K te ts) := by
  intro pins s σ H Q I h
  refine Subscript_ (thn (he pins s σ H _ I h) fun v s1 ⟨x, H1, I1, r1, q1⟩ => ?_)
  refine wpAny_Slice ?_
  rw [evalPart_none, evalPart_some]
  refine wpAny_pure (wpAny_pure (thn (hst pins s1 σ H1 _ I1 q1) fun vs s3 ⟨y, H3, I3, ry, q3⟩ => ?_))
  obtain ⟨rfl, a, xs, rfl, hx, q⟩ := q3
  obtain ⟨tk, rfl⟩ := ry
  cases r1
  have I4 : Inv X pins σ H3 { s3 with heap := s3.heap.push { cls := .type "slice", data := .fields #[.none, .none, .int (-1) tk] } } := I3.kept (t' := s3.toks) fun b ob q => Heap.get?_push_of_some _ q
  obtain ⟨its, r, ht, hz⟩ := I4.tuple hx
  have hlen : its.toArray.size = xs.length := by rw [List.size_toArray]; exact r.length.symm
  show wpAny (model X.prog X.w) X.A (subscriptTail e (.Slice none none (some st) p2) (.ref a) (.ref s3.heap.objs.size)) (EP X pins σ Q) X.xe { s3 with heap := s3.heap.push { cls := .type "slice", data := .fields #[.none, .none, .int (-1) tk] } }
  refine tail_any (ops := [.ref a, .ref s3.heap.objs.size]) ht.typeIs PyProof.Rows.slot_tuple_getitem.lookup ?_ (by with_unfolding_all rfl)
  refine getItem_tuple_rev ht (Heap.IsSliceOf.new ..) ?_ (by rw [hlen]; exact hz)
  refine ⟨.ref _, _, I4.laid (t' := s3.toks) (o := .tup xs.reverse) (fun b ob q => Heap.get?_push_of_some _ q) (Nat.le_refl _) ?_, rfl, q _ (I4.hok.fresh (Nat.le_refl _))⟩
  exact ⟨by rw [List.length_reverse]; exact hz, _, r.rev, IsTup.new _ _⟩
theorem preSum_eq (ns : List Int) : ∀ k, k ≤ ns.length → preSum (fun i => ns.getD i 0) k = (ns.take k).sum
  | 0, _ => by simp [preSum]
  | k + 1, h => by
    rw [List.take_add_one, List.getElem?_eq_getElem (by omega), List.sum_append]
    show preSum (fun i => ns.getD i 0) k + ns.getD k 0 = _
    rw [preSum_eq ns k (by omega)]
    have : k < ns.length := by omega
    simp [List.getD, this]
theorem call_sumL (hc : X.calm = true) : CallR X (.builtin "sum") (fun vs H Q => ∃ (p : Addr) (ns : List Int), vs = [.ref p] ∧ SqL X.K H p (ns.map V.int) ∧ (∀ n ∈ ns, 0 ≤ n ∧ n ≤ 1000000) ∧ ns.length ≤ 1000000 ∧ Q (.int ns.sum) H) := by
  intro pins s σ H xs us Q I r h
  obtain ⟨p, ns, rfl, hq, hn, hl, q⟩ := h
  obtain ⟨u, rfl, ru⟩ := vals1 r
  cases ru
  obtain ⟨its, rv, pl, hz⟩ := I.list hq
  have hlt : p < s.heap.objs.size := by obtain ⟨_, e, _⟩ := pl.isList; exact Heap.lt_size e
  have hlen := rv.length
  rw [List.length_map] at hlen
  have b0 : ∀ k, k ≤ ns.length → 0 ≤ preSum (fun i => ns.getD i 0) k ∧ preSum (fun i => ns.getD i 0) k ≤ 1000000 * (k : Int) := by
    intro k
    induction k with
    | zero => intro _; simp [preSum]
    | succ k ih =>
      intro hk
      have h1 := ih (by omega)
      have h2 := hn (ns.getD k 0) (by simp only [List.getD]; rw [List.getElem?_eq_getElem (by omega)]; exact List.getElem_mem _)
      show 0 ≤ preSum _ k + ns.getD k 0 ∧ preSum _ k + ns.getD k 0 ≤ _
      omega
  refine call_sum_walk (wpAny_pyIter_list pl.isList ?_)
  refine ⟨s.heap.objs.size, _, [s.heap.objs.size], _, _, _, fun i => ns.getD i 0, rfl, Walks.list (A := X.A.in1) (show X.A.in1.handled = none from I.ok.hd hc) s.heap.objs.size p (Nat.ne_of_lt hlt) its.toArray, ⟨⟨_, Heap.get?_push_size _ rfl, rfl, rfl⟩, pl.isList.push _⟩, fun b hb => ?_, fun i v hv => ?_, fun j hj => ?_, fun h' tk t' kk => ?_⟩
  · rw [size_push']
    simp only [List.mem_cons, List.not_mem_nil, or_false] at hb
    rcases hb with rfl | rfl
    · exact Nat.lt_succ_self _
    · exact Nat.lt_succ_of_lt hlt
  · have hv' : its[i]? = some v := by simpa using hv
    have hi : i < ns.length := by have := (List.getElem?_eq_some_iff.mp hv').1; omega
    obtain ⟨u, e, ru⟩ := Vals.get rv (i := i) (x := .int ns[i]) (by rw [List.getElem?_map, List.getElem?_eq_getElem hi]; rfl)
    rw [e] at hv'; cases hv'
    obtain ⟨t, rfl⟩ := ru
    exact ⟨t, by simp [List.getD, hi]⟩
  · have hj' : j < ns.length := by rw [List.size_toArray] at hj; omega
    have h1 := b0 (j + 1) (by omega)
    have h2 := hn (ns.getD j 0) (by simp only [List.getD]; rw [List.getElem?_eq_getElem hj']; exact List.getElem_mem _)
    have h3 : ((j + 1 : Nat) : Int) ≤ 1000000 := by omega
    have h4 : preSum (fun i => ns.getD i 0) (j + 1) ≤ 1000000000000 := by omega
    dsimp only
    generalize preSum (fun i => ns.getD i 0) (j + 1) = P at *
    generalize ns.getD j 0 = G at *
    refine ⟨?_, ?_⟩ <;> (unfold InLong; omega)
  · have e : preSum (fun i => ns.getD i 0) its.toArray.size = ns.sum := by rw [List.size_toArray, ← hlen, preSum_eq ns _ (Nat.le_refl _), List.take_length]
    rw [e]
    refine ⟨.int ns.sum, H, ?_, ⟨_, rfl⟩, q⟩
    exact I.kept (t' := tk) fun b o eb => kk b o (by simp only [List.mem_singleton]; exact Nat.ne_of_lt (Heap.lt_size eb)) (Heap.get?_push_of_some _ eb)
theorem truth_ints {A : Around} {prog : Program} {w : World} {ns : List Int} {its : List Value} (r : Vals (ns.map V.int) its) : TruthOf prog w A (fun i v => its.toArray[i]? = some v) (fun i => (ns.map (· != 0)).getD i false) := by
  intro i v s Q E hv hq
  have hv' : its[i]? = some v := by simpa using hv
  have hl : i < ns.length := by
    have h1 := (List.getElem?_eq_some_iff.mp hv').1
    have h2 := r.length
    rw [List.length_map] at h2
    omega
  obtain ⟨u, e, ru⟩ := Vals.get r (i := i) (x := .int ns[i]) (by rw [List.getElem?_map, List.getElem?_eq_getElem hl]; rfl)
  rw [e] at hv'
  cases hv'
  obtain ⟨t, rfl⟩ := ru
  have eq : (ns.map (· != 0)).getD i false = (ns[i] != 0) := by simp [List.getD, hl]
  have hq' : Q ((ns.map (· != 0)).getD i false) s := hq
  rw [eq] at hq'
  exact PyProof.Rows.truthy_int hq'
theorem call_allT (hc : X.calm = true) : CallR X (.builtin "all") (fun vs H Q => ∃ (p : Addr) (ns : List Int), vs = [.ref p] ∧ SqT X.K H p (ns.map V.int) ∧ Q (.bl (ns.all (· != 0))) H) := by
  intro pins s σ H xs us Q I r h
  obtain ⟨p, ns, rfl, hq, q⟩ := h
  obtain ⟨u, rfl, ru⟩ := vals1 r
  cases ru
  obtain ⟨its, rv, pl, hz⟩ := I.tuple hq
  have pl' : s.heap.IsTuple p its.toArray := pl
  have hlt : p < s.heap.objs.size := by obtain ⟨_, e, _⟩ := pl'; exact Heap.lt_size e
  have hlen := rv.length
  rw [List.length_map] at hlen
  refine call_all_walk (wpAny_pyIter_tuple pl' ?_)
  refine ⟨s.heap.objs.size, _, [s.heap.objs.size], _, _, _, _, rfl, Walks.tuple (A := X.A.in1) (show X.A.in1.handled = none from I.ok.hd hc) s.heap.objs.size p (Nat.ne_of_lt hlt) its.toArray, ⟨⟨_, Heap.get?_push_size _ rfl, rfl, rfl⟩, pl'.push _⟩, truth_ints rv, fun h' tk kk => ?_⟩
  have e : (List.range its.toArray.size).all (fun i => (ns.map (· != 0)).getD i false) = ns.all (· != 0) := by rw [List.size_toArray, ← hlen, show ns.length = (ns.map (· != 0)).length by simp, range_all, List.all_map]; rfl
  rw [e]
  refine ⟨.bl (ns.all (· != 0)), H, ?_, rfl, q⟩
  exact I.kept (t' := tk) fun b o eb => kk b o (by simp only [List.mem_singleton]; exact Nat.ne_of_lt (Heap.lt_size eb)) (Heap.get?_push_of_some _ eb)
theorem call_anyT (hc : X.calm = true) : CallR X (.builtin "any") (fun vs H Q => ∃ (p : Addr) (ns : List Int), vs = [.ref p] ∧ SqT X.K H p (ns.map V.int) ∧ Q (.bl (ns.any (· != 0))) H) := by
  intro pins s σ H xs us Q I r h
  obtain ⟨p, ns, rfl, hq, q⟩ := h
  obtain ⟨u, rfl, ru⟩ := vals1 r
  cases ru
  obtain ⟨its, rv, pl, hz⟩ := I.tuple hq
  have pl' : s.heap.IsTuple p its.toArray := pl
  have hlt : p < s.heap.objs.size := by obtain ⟨_, e, _⟩ := pl'; exact Heap.lt_size e
  have hlen := rv.length
  rw [List.length_map] at hlen
  refine call_any_walk (wpAny_pyIter_tuple pl' ?_)
  refine ⟨s.heap.objs.size, _, [s.heap.objs.size], _, _, _, _, rfl, Walks.tuple (A := X.A.in1) (show X.A.in1.handled = none from I.ok.hd hc) s.heap.objs.size p (Nat.ne_of_lt hlt) its.toArray, ⟨⟨_, Heap.get?_push_size _ rfl, rfl, rfl⟩, pl'.push _⟩, truth_ints rv, fun h' tk kk => ?_⟩
  have e : (List.range its.toArray.size).any (fun i => (ns.map (· != 0)).getD i false) = ns.any (· != 0) := by rw [List.size_toArray, ← hlen, show ns.length = (ns.map (· != 0)).length by simp, range_any, List.any_map]; rfl
  rw [e]
  refine ⟨.bl (ns.any (· != 0)), H, ?_, rfl, q⟩
  exact I.kept (t' := tk) fun b o eb => kk b o (by simp only [List.mem_singleton]; exact Nat.ne_of_lt (Heap.lt_size eb)) (Heap.get?_push_of_some _ eb)
end
end L2
namespace L2
open PySem PySem.Spec PyProof.Rows
section
variable {X : Cx}
def rInG (K : PySem.W.Frag) (neg : Bool) : R2 := fun x y H Q => ∃ (p : Addr) (xs : List V) (N N' : Addr → Prop) (dx : PyData) (ds : List PyData),
  y = .ref p ∧ (SqL K H p xs ∨ SqT K H p xs) ∧ Rp K H N x dx ∧ okD dx ∧ RpL K H N' xs ds ∧ (∀ d ∈ ds, okD d) ∧ Q (.bl (if neg then !(ds.any fun d => PyData.eqv d dx) else ds.any fun d => PyData.eqv d dx)) H
theorem any_eqW {h : Heap} {dx : PyData} : ∀ {ds : List PyData} {us : List Value} {as : List Addr}, ReadsAll h us ds as → (∀ d ∈ ds, okD d) → us.any (eqW h dx) = ds.any fun d => PyData.eqv d dx
  | _, _, _, .nil, _ => rfl
  | _, _, _, .cons r rr, o => by
    rw [List.any_cons, List.any_cons, eqW_is r (o _ (List.mem_cons_self ..)).1, any_eqW rr fun d hd => o d (List.mem_cons_of_mem _ hd)]
theorem mem_eqW {A : Around} {s : Shared} {dx : PyData} {u : Value} {bs : List Addr} (hu : A.units + 64 < cLine) (rb : Reads s.heap u dx bs) (oy : okD dx) : ∀ {ds : List PyData} {us : List Value} {as : List Addr}, ReadsAll s.heap us ds as → (∀ d ∈ ds, okD d) → ∀ w ∈ us, SeqAt.EqAt A.in1 s w u (eqW s.heap dx w) := fun {ds us as} ra ods w hw => by
  obtain ⟨m, hm, rfl⟩ := List.getElem_of_mem hw
  obtain ⟨d, cs, h1, h2⟩ := readsAll_get ra (List.getElem?_eq_getElem hm)
  have od := ods d (List.mem_of_getElem? h1)
  rw [eqW_is h2 od.1]
  refine SeqAt.eqAt_reads d dx _ s _ _ _ _ h2 rb od.1 oy.1 ?_
  have := od.2
  show A.units + 1 + min d.depth dx.depth < cLine
  omega
theorem op_inG (hu : X.A.units + 64 < cLine) : OpR X (compareOp .In) (rInG X.K false) := by
  intro pins s σ H x y v u Q I rx ry h
  obtain ⟨p, xs, N, N', dx, ds, rfl, hq, hx, ox, hxs, ods, q⟩ := h
  cases ry
  obtain ⟨bs, rb⟩ := I.reads hx rx
  rcases hq with hq | hq
  · obtain ⟨its, r, pl, hz⟩ := I.list hq
    obtain ⟨as, ra⟩ := I.readsL hxs r
    refine SeqAt.in_listAt (eqW s.heap dx) pl.isList (fun w hw => mem_eqW hu rb ox ra ods w (by simpa using hw)) ⟨.bl _, H, I, rfl, ?_⟩
    rw [show its.toArray.any (eqW s.heap dx) = its.any (eqW s.heap dx) by simp, any_eqW ra ods]
    exact q
  · obtain ⟨its, r, pl, hz⟩ := I.tuple hq
    obtain ⟨as, ra⟩ := I.readsL hxs r
    refine SeqAt.in_tupleAt (eqW s.heap dx) pl (fun w hw => mem_eqW hu rb ox ra ods w (by simpa using hw)) ⟨.bl _, H, I, rfl, ?_⟩
    rw [show its.toArray.any (eqW s.heap dx) = its.any (eqW s.heap dx) by simp, any_eqW ra ods]
    exact q
theorem op_notInG (hu : X.A.units + 64 < cLine) : OpR X (compareOp .NotIn) (rInG X.K true) := by
  intro pins s σ H x y v u Q I rx ry h
  obtain ⟨p, xs, N, N', dx, ds, rfl, hq, hx, ox, hxs, ods, q⟩ := h
  cases ry
  obtain ⟨bs, rb⟩ := I.reads hx rx
  rcases hq with hq | hq
  · obtain ⟨its, r, pl, hz⟩ := I.list hq
    obtain ⟨as, ra⟩ := I.readsL hxs r
    refine SeqAt.notIn_listAt (eqW s.heap dx) pl.isList (fun w hw => mem_eqW hu rb ox ra ods w (by simpa using hw)) ⟨.bl _, H, I, rfl, ?_⟩
    rw [show its.toArray.any (eqW s.heap dx) = its.any (eqW s.heap dx) by simp, any_eqW ra ods]
    exact q
  · obtain ⟨its, r, pl, hz⟩ := I.tuple hq
    obtain ⟨as, ra⟩ := I.readsL hxs r
    refine SeqAt.notIn_tupleAt (eqW s.heap dx) pl (fun w hw => mem_eqW hu rb ox ra ods w (by simpa using hw)) ⟨.bl _, H, I, rfl, ?_⟩
    rw [show its.toArray.any (eqW s.heap dx) = its.any (eqW s.heap dx) by simp, any_eqW ra ods]
    exact q
end
end L2
namespace L2
open PySem PySem.Spec PyProof.Rows
inductive D where
  | non | bl (b : Bool) | int (i : Int) | str (x : Str) | ty (n : String) | tup (xs : List D) | lst (n : Nat) | dct (n : Nat) | rol (xs : List D)
inductive O where
  | lst (xs : List D) | dk (kvs : List (Key × D)) | dt (kvs : List (List Key × D))
abbrev Store := List O
abbrev Env1 := List (Option D)
def SqF (K : PySem.W.Frag) (H : Hp) (a : Addr) (xs : List V) : Prop := (∃ o, H a = some (.frz o (.lst xs))) ∨
    ∃ (o : Obj) (its : Array Value) (n : Nat), K.lookup a = some o ∧ o.cls = .type "list" ∧ o.dict = none ∧ o.data = .seq its n ∧ its.size ≤ sizeLine ∧ Vals xs its.toList
theorem SqF.sq {K : PySem.W.Frag} {H : Hp} {a : Addr} {xs : List V} (h : SqF K H a xs) : SqL K H a xs := by
  rcases h with ⟨o, h⟩ | h
  · exact .inl (.inr ⟨o, h⟩)
  · exact .inr h
structure TF (K : PySem.W.Frag) (H H' : Hp) : Prop where
  t : TK K H H'
  f : ∀ a xs, SqF K H a xs → SqF K H' a xs
theorem TF.refl (K : PySem.W.Frag) (H : Hp) : TF K H H := ⟨TK.refl K H, fun _ _ h => h⟩
theorem TF.trans {K : PySem.W.Frag} {H H1 H2 : Hp} (a : TF K H H1) (b : TF K H1 H2) : TF K H H2 := ⟨a.t.trans b.t, fun p xs h => b.f p xs (a.f p xs h)⟩
theorem tf_of {K : PySem.W.Frag} {H H' : Hp} {p : Addr} (h : ∀ q o, q ≠ p → H q = some o → H' q = some o) (nt : ∀ xs, H p ≠ some (.tup xs)) (nf : ∀ x y, H p ≠ some (.frz x y)) : TF K H H' := by
  refine ⟨fun q ys e => ?_, fun q ys e => ?_⟩
  · rcases e with (e | ⟨w, e⟩) | e
    · exact .inl (.inl (h _ _ (fun z => nt _ (z ▸ e)) e))
    · exact .inl (.inr ⟨w, h _ _ (fun z => nf _ _ (z ▸ e)) e⟩)
    · exact .inr e
  · rcases e with ⟨w, e⟩ | e
    · exact .inl ⟨w, h _ _ (fun z => nf _ _ (z ▸ e)) e⟩
    · exact .inr e
theorem tf_upd {K : PySem.W.Frag} {H : Hp} {p : Addr} {u o : HO} (e : H p = some u) (nt : ∀ xs, u ≠ .tup xs) (nf : ∀ x y, u ≠ .frz x y) : TF K H (upd H p o) :=
  tf_of (p := p) (fun q v hq h => by rw [upd_ne hq]; exact h) (fun xs h => by rw [e] at h; exact nt xs (Option.some.inj h)) (fun x y h => by rw [e] at h; exact nf x y (Option.some.inj h))
theorem tf_lst {K : PySem.W.Frag} {H : Hp} {p : Addr} {xs : List V} {o : HO} (e : H p = some (.lst xs)) : TF K H (upd H p o) := tf_upd e (fun _ z => by cases z) (fun _ _ z => by cases z)
theorem tf_same {K : PySem.W.Frag} {H H' : Hp} (h : Same H H') : TF K H H' := ⟨fun p xs e => h.tup e, fun q ys e => by
  rcases e with ⟨w, e⟩ | e
  · exact .inl ⟨w, h _ _ e⟩
  · exact .inr e⟩
mutual
def RV (K : PySem.W.Frag) (H : Hp) (μ : List Addr) : D → V → Prop
  | .non, v => v = .non
  | .bl b, v => v = .bl b
  | .int i, v => v = .int i
  | .str x, v => v = .str x
  | .ty n, v => v = .ty n
  | .tup xs, v => ∃ p vs, v = .ref p ∧ SqT K H p vs ∧ RVs K H μ xs vs
  | .lst n, v => ∃ a, v = .ref a ∧ μ[n]? = some a
  | .dct n, v => ∃ a, v = .ref a ∧ μ[n]? = some a
  | .rol xs, v => ∃ p vs, v = .ref p ∧ SqF K H p vs ∧ RVs K H μ xs vs
def RVs (K : PySem.W.Frag) (H : Hp) (μ : List Addr) : List D → List V → Prop
  | [], vs => vs = []
  | d :: ds, vs => ∃ v ws, vs = v :: ws ∧ RV K H μ d v ∧ RVs K H μ ds ws
end
def RKs {κ : Type} (K : PySem.W.Frag) (H : Hp) (μ : List Addr) (kvs : List (κ × D)) (ws : List (κ × V)) : Prop := kvs.map (·.1) = ws.map (·.1) ∧ RVs K H μ (kvs.map (·.2)) (ws.map (·.2))
def OR (K : PySem.W.Frag) (H : Hp) (μ : List Addr) (a : Addr) : O → Prop
  | .lst xs => ∃ vs, H a = some (.lst vs) ∧ RVs K H μ xs vs
  | .dk kvs => ∃ ws, H a = some (.dK ws) ∧ RKs K H μ kvs ws
  | .dt kvs => ∃ ws, H a = some (.dT ws) ∧ RKs K H μ kvs ws
structure SR (K : PySem.W.Frag) (μ : List Addr) (S : Store) (H : Hp) : Prop where
  len : μ.length = S.length
  nd : μ.Nodup
  obj : ∀ (n : Nat) (a : Addr) (o : O), μ[n]? = some a → S[n]? = some o → OR K H μ a o
structure Step (K : PySem.W.Frag) (μ μ' : List Addr) (H H' : Hp) : Prop where
  pre : ∃ ν, μ' = μ ++ ν ∧ ∀ b ∈ ν, H b = none
  fr : ∀ b o, b ∉ μ → H b = some o → H' b = some o
  tk : TF K H H'
section
variable {K : PySem.W.Frag} {H H' H1 H2 : Hp} {μ μ' μ1 μ2 : List Addr} {S S' : Store}
mutual
theorem RV.up (tk : TF K H H') (pre : ∃ ν, μ' = μ ++ ν) : ∀ (d : D) (v : V), RV K H μ d v → RV K H' μ' d v
  | .non, v, h => by simpa [RV] using h
  | .bl b, v, h => by simpa [RV] using h
  | .int i, v, h => by simpa [RV] using h
  | .str x, v, h => by simpa [RV] using h
  | .ty n, v, h => by simpa [RV] using h
  | .tup xs, v, h => by
    unfold RV at h ⊢
    obtain ⟨p, vs, e, q, r⟩ := h
    exact ⟨p, vs, e, tk.t p vs q, RVs.up tk pre xs vs r⟩
  | .lst n, v, h => by
    unfold RV at h ⊢
    obtain ⟨a, e, q⟩ := h
    obtain ⟨ν, rfl⟩ := pre
    exact ⟨a, e, by rw [List.getElem?_append_left (List.getElem?_eq_some_iff.mp q).1]; exact q⟩
  | .dct n, v, h => by
    unfold RV at h ⊢
    obtain ⟨a, e, q⟩ := h
    obtain ⟨ν, rfl⟩ := pre
    exact ⟨a, e, by rw [List.getElem?_append_left (List.getElem?_eq_some_iff.mp q).1]; exact q⟩
  | .rol xs, v, h => by
    unfold RV at h ⊢
    obtain ⟨p, vs, e, q, r⟩ := h
    exact ⟨p, vs, e, tk.f p vs q, RVs.up tk pre xs vs r⟩
theorem RVs.up (tk : TF K H H') (pre : ∃ ν, μ' = μ ++ ν) : ∀ (ds : List D) (vs : List V), RVs K H μ ds vs → RVs K H' μ' ds vs
  | [], vs, h => by simpa [RVs] using h
  | d :: ds, vs, h => by
    unfold RVs at h ⊢
    obtain ⟨v, ws, e, r, q⟩ := h
    exact ⟨v, ws, e, RV.up tk pre d v r, RVs.up tk pre ds ws q⟩
end
theorem RVs.len : ∀ {ds : List D} {vs : List V}, RVs K H μ ds vs → ds.length = vs.length
  | [], vs, h => by unfold RVs at h; subst h; rfl
  | d :: ds, vs, h => by
    unfold RVs at h
    obtain ⟨v, ws, rfl, _, q⟩ := h
    rw [List.length_cons, List.length_cons, RVs.len q]
theorem RVs.nil : RVs K H μ [] [] := by unfold RVs; rfl
theorem RVs.cons {d : D} {v : V} {ds : List D} {vs : List V} (h : RV K H μ d v) (t : RVs K H μ ds vs) : RVs K H μ (d :: ds) (v :: vs) := by
  unfold RVs; exact ⟨v, vs, rfl, h, t⟩
theorem RVs.get : ∀ {ds : List D} {vs : List V} {i : Nat} {d : D}, RVs K H μ ds vs → ds[i]? = some d → ∃ v, vs[i]? = some v ∧ RV K H μ d v
  | [], vs, i, d, h, e => by simp at e
  | x :: ds, vs, 0, d, h, e => by
    unfold RVs at h
    obtain ⟨v, ws, rfl, r, q⟩ := h
    simp at e; subst e
    exact ⟨v, rfl, r⟩
  | x :: ds, vs, i + 1, d, h, e => by
    unfold RVs at h
    obtain ⟨v, ws, rfl, r, q⟩ := h
    obtain ⟨u, e1, e2⟩ := RVs.get (i := i) (d := d) q (by simpa using e)
    exact ⟨u, by simpa using e1, e2⟩
theorem RVs.append : ∀ {ds es : List D} {vs us : List V}, RVs K H μ ds vs → RVs K H μ es us → RVs K H μ (ds ++ es) (vs ++ us)
  | [], es, vs, us, h, g => by unfold RVs at h; subst h; exact g
  | d :: ds, es, vs, us, h, g => by
    unfold RVs at h
    obtain ⟨v, ws, rfl, r, q⟩ := h
    exact .cons r (RVs.append q g)
theorem RVs.take : ∀ {ds : List D} {vs : List V} (n : Nat), RVs K H μ ds vs → RVs K H μ (ds.take n) (vs.take n)
  | _, _, 0, _ => by simp; exact .nil
  | [], vs, n + 1, h => by unfold RVs at h; subst h; exact .nil
  | d :: ds, vs, n + 1, h => by
    unfold RVs at h
    obtain ⟨v, ws, rfl, r, q⟩ := h
    exact .cons r (RVs.take n q)
theorem RVs.drop : ∀ {ds : List D} {vs : List V} (n : Nat), RVs K H μ ds vs → RVs K H μ (ds.drop n) (vs.drop n)
  | _, _, 0, h => by simpa using h
  | [], vs, n + 1, h => by unfold RVs at h; subst h; exact .nil
  | d :: ds, vs, n + 1, h => by
    unfold RVs at h
    obtain ⟨v, ws, rfl, r, q⟩ := h
    exact RVs.drop n q
theorem RVs.set {d : D} {v : V} (g : RV K H μ d v) : ∀ {ds : List D} {vs : List V} (n : Nat), RVs K H μ ds vs → RVs K H μ (ds.set n d) (vs.set n v)
  | [], vs, n, h => by unfold RVs at h; subst h; exact .nil
  | x :: ds, vs, 0, h => by
    unfold RVs at h
    obtain ⟨u, ws, rfl, r, q⟩ := h
    exact .cons g q
  | x :: ds, vs, n + 1, h => by
    unfold RVs at h
    obtain ⟨u, ws, rfl, r, q⟩ := h
    exact .cons r (RVs.set g n q)
theorem RVs.ints {ns : List Int} : RVs K H μ (ns.map D.int) (ns.map V.int) := by
  induction ns with
  | nil => exact .nil
  | cons a r ih => exact .cons (by unfold RV; rfl) ih
theorem RKs.up {κ : Type} (tk : TF K H H') (pre : ∃ ν, μ' = μ ++ ν) {kvs : List (κ × D)} {ws : List (κ × V)} (h : RKs K H μ kvs ws) : RKs K H' μ' kvs ws := ⟨h.1, RVs.up tk pre _ _ h.2⟩
theorem SR.isS (sr : SR K μ S H) {a : Addr} (h : a ∈ μ) : ∃ o, H a = some o := by
  obtain ⟨n, hn⟩ := List.getElem?_of_mem h
  have hl : n < S.length := by rw [← sr.len]; exact (List.getElem?_eq_some_iff.mp hn).1
  have q := sr.obj n a S[n] hn (List.getElem?_eq_getElem hl)
  revert q
  generalize S[n] = o
  intro q
  cases o with
  | lst xs => obtain ⟨vs, e, _⟩ := q; exact ⟨_, e⟩
  | dk kvs => obtain ⟨vs, e, _⟩ := q; exact ⟨_, e⟩
  | dt kvs => obtain ⟨vs, e, _⟩ := q; exact ⟨_, e⟩
theorem SR.out (sr : SR K μ S H) {a : Addr} (h : H a = none) : a ∉ μ := fun m => by
  obtain ⟨o, e⟩ := sr.isS m
  rw [h] at e
  cases e
theorem Step.refl (K : PySem.W.Frag) (μ : List Addr) (H : Hp) : Step K μ μ H H := ⟨⟨[], by simp, by simp⟩, fun _ _ _ h => h, TF.refl K H⟩
theorem Step.mem (st : Step K μ μ' H H') {a : Addr} (h : a ∈ μ) : a ∈ μ' := by
  obtain ⟨ν, rfl, _⟩ := st.pre
  exact List.mem_append_left _ h
theorem Step.ext (st : Step K μ μ' H H') : ∃ ν, μ' = μ ++ ν := let ⟨ν, e, _⟩ := st.pre; ⟨ν, e⟩
theorem Step.trans (a : Step K μ μ1 H H1) (b : Step K μ1 μ2 H1 H2) (nd : μ2.Nodup) : Step K μ μ2 H H2 := by
  obtain ⟨ν, e, n1⟩ := a.pre
  obtain ⟨ν', e', n2⟩ := b.pre
  have nd' : (μ ++ ν ++ ν').Nodup := by rw [← e, ← e']; exact nd
  refine ⟨⟨ν ++ ν', by rw [e', e, List.append_assoc], fun c hc => ?_⟩, fun c o hc h => ?_, a.tk.trans b.tk⟩
  · rcases List.mem_append.mp hc with h | h
    · exact n1 c h
    · have hn := n2 c h
      cases q : H c with
      | none => rfl
      | some o =>
        have : c ∉ μ := fun hm => by
          have := (List.nodup_append.mp nd').2.2 c (List.mem_append_left _ hm) c h
          exact this rfl
        rw [a.fr c o this q] at hn
        cases hn
  · refine b.fr c o (fun hm => ?_) (a.fr c o hc h)
    rw [e] at hm
    rcases List.mem_append.mp hm with h' | h'
    · exact hc h'
    · rw [n1 c h'] at h; cases h
theorem OR.up (tk : TF K H H') (pre : ∃ ν, μ' = μ ++ ν) {a : Addr} (e : H' a = H a) : ∀ {o : O}, OR K H μ a o → OR K H' μ' a o
  | .lst xs, ⟨vs, h, r⟩ => ⟨vs, by rw [e]; exact h, RVs.up tk pre _ _ r⟩
  | .dk kvs, ⟨ws, h, r⟩ => ⟨ws, by rw [e]; exact h, r.up tk pre⟩
  | .dt kvs, ⟨ws, h, r⟩ => ⟨ws, by rw [e]; exact h, r.up tk pre⟩
theorem tk_new {p : Addr} {o : HO} (h : H p = none) : TF K H (upd H p o) := tf_same (same_new h o)
theorem SR.other (sr : SR K μ S H) {p : Addr} {o : HO} (h : H p = none) : SR K μ S (upd H p o) ∧ Step K μ μ H (upd H p o) := by
  have hp := sr.out h
  refine ⟨⟨sr.len, sr.nd, fun n a o' e1 e2 => ?_⟩, ⟨⟨[], by simp, by simp⟩, fun b u hb e => ?_, tk_new h⟩⟩
  · have hm : a ∈ μ := List.mem_of_getElem? e1
    have ne : a ≠ p := fun z => hp (z ▸ hm)
    exact (sr.obj n a o' e1 e2).up (tk_new h) ⟨[], by simp⟩ (upd_ne ne)
  · rw [upd_ne (ne_of_none e h)]; exact e
theorem SR.push (sr : SR K μ S H) {p : Addr} {o : HO} {o' : O} (h : H p = none) (ho : OR K (upd H p o) (μ ++ [p]) p o') : SR K (μ ++ [p]) (S ++ [o']) (upd H p o) ∧ Step K μ (μ ++ [p]) H (upd H p o) := by
  have hp := sr.out h
  refine ⟨⟨by simp [sr.len], ?_, fun n a u e1 e2 => ?_⟩, ⟨⟨[p], rfl, fun b hb => ?_⟩, fun b u hb e => ?_, tk_new h⟩⟩
  · rw [List.nodup_append]
    refine ⟨sr.nd, by simp, fun a ha b hb => ?_⟩
    simp at hb; subst hb
    exact fun z => hp (z ▸ ha)
  · by_cases hn : n < μ.length
    · rw [List.getElem?_append_left hn] at e1
      rw [List.getElem?_append_left (by rw [← sr.len]; exact hn)] at e2
      have hm : a ∈ μ := List.mem_of_getElem? e1
      have ne : a ≠ p := fun z => hp (z ▸ hm)
      exact (sr.obj n a u e1 e2).up (tk_new h) ⟨[p], rfl⟩ (upd_ne ne)
    · rw [List.getElem?_append_right (by omega)] at e1
      rw [List.getElem?_append_right (by rw [← sr.len]; omega)] at e2
      have h1 : n - μ.length = 0 := by
        have := (List.getElem?_eq_some_iff.mp e1).1
        simp at this; omega
      rw [h1] at e1
      rw [← sr.len, h1] at e2
      simp at e1 e2
      subst e1 e2
      exact ho
  · simp at hb; subst hb; exact h
  · rw [upd_ne (ne_of_none e h)]; exact e
theorem SR.put (sr : SR K μ S H) {n : Nat} {p : Addr} {o u : HO} {o' : O} (hn : μ[n]? = some p) (hp : H p = some u) (nt : ∀ xs, u ≠ .tup xs) (nf : ∀ x y, u ≠ .frz x y) (ho : OR K (upd H p o) μ p o') : SR K μ (S.set n o') (upd H p o) ∧ Step K μ μ H (upd H p o) := by
  have tk : TF K H (upd H p o) := tf_upd hp nt nf
  have hmem : p ∈ μ := List.mem_of_getElem? hn
  refine ⟨⟨by simp [sr.len], sr.nd, fun m a w e1 e2 => ?_⟩, ⟨⟨[], by simp, by simp⟩, fun b w hb e => ?_, tk⟩⟩
  · by_cases hm : m = n
    · subst hm
      rw [hn] at e1; cases e1
      have hl : m < S.length := by rw [← sr.len]; exact (List.getElem?_eq_some_iff.mp hn).1
      rw [List.getElem?_set_self hl] at e2
      cases e2
      exact ho
    · rw [List.getElem?_set_ne (fun z => hm z.symm)] at e2
      have ne : a ≠ p := fun z => by
        subst z
        exact hm ((List.getElem?_inj (List.getElem?_eq_some_iff.mp e1).1 sr.nd).mp (e1.trans hn.symm))
      exact (sr.obj m a w e1 e2).up tk ⟨[], by simp⟩ (upd_ne ne)
  · have ne : b ≠ p := fun z => hb (z ▸ hmem)
    rw [upd_ne ne]; exact e
end
end L2
namespace L2
open PySem PySem.Spec PyProof.Rows
inductive R (α : Type) where
  | bad | ok (a : α) (S : Store) | er (c : Str) (S : Store)
abbrev M (α : Type) := Store → R α
def bnd {α β : Type} (m : M α) (f : α → M β) : M β := fun S => match m S with
  | .bad => .bad
  | .er c S' => .er c S'
  | .ok a S' => f a S'
def ret {α : Type} (a : α) : M α := fun S => .ok a S
def bad {α : Type} : M α := fun _ => .bad
theorem bnd_ok {α β : Type} {m : M α} {f : α → M β} {S S2 : Store} {b : β} (h : bnd m f S = .ok b S2) : ∃ a S1, m S = .ok a S1 ∧ f a S1 = .ok b S2 := by
  unfold bnd at h
  cases e : m S with
  | bad => rw [e] at h; cases h
  | er c S' => rw [e] at h; cases h
  | ok a S' => rw [e] at h; exact ⟨a, S', rfl, h⟩
theorem ret_ok {α : Type} {a b : α} {S S' : Store} (h : ret a S = .ok b S') : b = a ∧ S' = S := by
  unfold ret at h; cases h; exact ⟨rfl, rfl⟩
abbrev C := Env1 → M D
abbrev CT := Env1 → M Bool
abbrev CA := Env1 → M (List D)
def RE (K : PySem.W.Frag) (H : Hp) (μ : List Addr) (ρ : Env1) (σ : St) : Prop := ρ.length = σ.length ∧ ∀ (i : Nat) (d : D), ρ[i]? = some (some d) → ∃ v, σ[i]? = some (some v) ∧ RV K H μ d v
section
variable {K : PySem.W.Frag} {H H' : Hp} {μ μ' : List Addr} {ρ : Env1} {σ : St}
theorem RE.up (h : RE K H μ ρ σ) (st : Step K μ μ' H H') : RE K H' μ' ρ σ := ⟨h.1, fun i d e => let ⟨v, q, r⟩ := h.2 i d e; ⟨v, q, RV.up st.tk st.ext d v r⟩⟩
theorem RE.set (h : RE K H μ ρ σ) {d : D} {v : V} (r : RV K H μ d v) (i : Nat) : RE K H μ (ρ.set i (some d)) (σ.set i (some v)) := by
  refine ⟨by simp [h.1], fun j d' e => ?_⟩
  by_cases hj : i = j
  · subst hj
    have hl : i < ρ.length := by
      have := (List.getElem?_eq_some_iff.mp e).1
      simpa using this
    rw [List.getElem?_set_self hl] at e
    cases e
    exact ⟨v, by rw [List.getElem?_set_self (by rw [← h.1]; exact hl)], r⟩
  · rw [List.getElem?_set_ne hj] at e ⊢
    exact h.2 j d' e
end
def Yld (K : PySem.W.Frag) (μ : List Addr) (H : Hp) (d : D) (S' : Store) (Q : VK) : Prop := ∀ v H' μ', SR K μ' S' H' → Step K μ μ' H H' → RV K H' μ' d v → Q v H'
def YldA (K : PySem.W.Frag) (μ : List Addr) (H : Hp) (ds : List D) (S' : Store) (Q : List V → Hp → Prop) : Prop := ∀ vs H' μ', SR K μ' S' H' → Step K μ μ' H H' → RVs K H' μ' ds vs → Q vs H'
def YldT (K : PySem.W.Frag) (μ : List Addr) (H : Hp) (b : Bool) (S' : Store) (Q : Bool → Hp → Prop) : Prop := ∀ H' μ', SR K μ' S' H' → Step K μ μ' H H' → Q b H'
def tOf (K : PySem.W.Frag) (c : C) : TE := fun σ H Q => ∃ μ ρ S d S', SR K μ S H ∧ RE K H μ ρ σ ∧ c ρ S = .ok d S' ∧ Yld K μ H d S' Q
def tOfA (K : PySem.W.Frag) (c : CA) : TA := fun σ H Q => ∃ μ ρ S d S', SR K μ S H ∧ RE K H μ ρ σ ∧ c ρ S = .ok d S' ∧ YldA K μ H d S' Q
def tOfT (K : PySem.W.Frag) (c : CT) : TT := fun σ H Q => ∃ μ ρ S d S', SR K μ S H ∧ RE K H μ ρ σ ∧ c ρ S = .ok d S' ∧ YldT K μ H d S' Q
theorem Yld.self {K : PySem.W.Frag} {μ : List Addr} {H : Hp} {d : D} {S : Store} {Q : VK} (h : Yld K μ H d S Q) (sr : SR K μ S H) {v : V} (r : RV K H μ d v) : Q v H := h v H μ sr (Step.refl K μ H) r
theorem Yld.shift {K : PySem.W.Frag} {μ μ1 : List Addr} {H H1 : Hp} {d : D} {S : Store} {Q : VK} (h : Yld K μ H d S Q) (st : Step K μ μ1 H H1) : Yld K μ1 H1 d S Q := fun v H' μ' sr s2 r => h v H' μ' sr (st.trans s2 sr.nd) r
theorem YldT.shift {K : PySem.W.Frag} {μ μ1 : List Addr} {H H1 : Hp} {d : Bool} {S : Store} {Q : Bool → Hp → Prop} (h : YldT K μ H d S Q) (st : Step K μ μ1 H H1) : YldT K μ1 H1 d S Q := fun H' μ' sr s2 => h H' μ' sr (st.trans s2 sr.nd)
theorem PE.weak {X : Cx} {e : Expr} {t t' : TE} (h : PE X e t) (w : ∀ σ H Q, t' σ H Q → t σ H Q) : PE X e t' := fun pins s σ H Q I q => h pins s σ H Q I (w σ H Q q)
theorem PT.weak {X : Cx} {e : Expr} {t t' : TT} (h : PT X e t) (w : ∀ σ H Q, t' σ H Q → t σ H Q) : PT X e t' := fun pins s σ H Q I q => h pins s σ H Q I (w σ H Q q)
theorem PW.weak {X : Cx} {e : Expr} {t t' : TT} (h : PW X e t) (w : ∀ σ H Q, t' σ H Q → t σ H Q) : PW X e t' := fun wh pins s σ H Q I q => h wh pins s σ H Q I (w σ H Q q)
theorem PA.weak {X : Cx} {e : List Expr} {t t' : TA} (h : PA X e t) (w : ∀ σ H Q, t' σ H Q → t σ H Q) : PA X e t' := fun pos pins s σ H Q I q => h pos pins s σ H Q I (w σ H Q q)
theorem PS.weak {X : Cx} {e : Stmt} {t t' : TS} (h : PS X e t) (w : ∀ D σ H, t' D σ H → t D σ H) : PS X e t' := fun pins s σ H D I q => h pins s σ H D I (w D σ H q)
theorem PSs.weak {X : Cx} {e : List Stmt} {t t' : TS} (h : PSs X e t) (w : ∀ D σ H, t' D σ H → t D σ H) : PSs X e t' := fun pins s σ H D I q => h pins s σ H D I (w D σ H q)
def rAny (X : Cx) (f : Value → Value → Sem Value) : R2 := fun v u H Q => ∃ r, OpR X f r ∧ r v u H Q
theorem opAny {X : Cx} {f : Value → Value → Sem Value} : OpR X f (rAny X f) := fun pins s σ H x y v u Q I rx ry ⟨r, ho, q⟩ => ho pins s σ H x y v u Q I rx ry q
def uAny (X : Cx) (f : Value → Sem Value) : V → Hp → VK → Prop := fun v H Q => ∃ r, UnR X f r ∧ r v H Q
theorem unAny {X : Cx} {f : Value → Sem Value} : UnR X f (uAny X f) := fun pins s σ H x v Q I rx ⟨r, ho, q⟩ => ho pins s σ H x v Q I rx q
def cAny (X : Cx) (f : Value) : List V → Hp → VK → Prop := fun vs H Q => ∃ r, CallR X f r ∧ r vs H Q
theorem callAny {X : Cx} {f : Value} : CallR X f (cAny X f) := fun pins s σ H x v Q I rx ⟨r, ho, q⟩ => ho pins s σ H x v Q I rx q
def ixAnyR (X : Cx) : R2 := fun v u H Q => ∃ r, IxR X r ∧ r v u H Q
theorem ixAny {X : Cx} : IxR X (ixAnyR X) := fun va sl pins s σ H x y v u Q I rx ry ⟨r, ho, q⟩ hs => ho va sl pins s σ H x y v u Q I rx ry q hs
def slAnyR (X : Cx) : V → Option Int → Option Int → Hp → VK → Prop := fun v lo hi H Q => ∃ r, SlR X r ∧ r v lo hi H Q
theorem slAny {X : Cx} : SlR X (slAnyR X) := fun pins s σ H x v vl vu lo hi sl Q I rx a b c ⟨r, ho, q⟩ => ho pins s σ H x v vl vu lo hi sl Q I rx a b c q
def mtAnyR (X : Cx) (id : String) : V → List V → Hp → VK → Prop := fun v vs H Q => ∃ r, MtR X id r ∧ r v vs H Q
theorem mtAny {X : Cx} {id : String} : MtR X id (mtAnyR X id) := fun pins s σ H x xs v us Q I rx rs ⟨r, ho, q⟩ => ho pins s σ H x xs v us Q I rx rs q
def setAnyR (X : Cx) : TSet := fun o i v H Q => ∃ r, PSet X r ∧ r o i v H Q
theorem setAny {X : Cx} : PSet X (setAnyR X) := fun pins s σ H o i v ov iv u Q I r1 r2 r3 ⟨r, ho, q⟩ => ho pins s σ H o i v ov iv u Q I r1 r2 r3 q
def cVar (i : Nat) : C := fun ρ S => match ρ[i]? with
  | some (some d) => .ok d S
  | _ => .bad
def cCon (d : D) : C := fun _ S => .ok d S
def cBin (o : D → D → M D) (a b : C) : C := fun ρ => bnd (a ρ) fun x => bnd (b ρ) fun y => o x y
def cUn (o : D → M D) (a : C) : C := fun ρ => bnd (a ρ) o
def cArgs : List C → CA
  | [] => fun _ => ret []
  | c :: cs => fun ρ => bnd (c ρ) fun x => bnd (cArgs cs ρ) fun xs => ret (x :: xs)
def cApp (o : List D → M D) (a : CA) : C := fun ρ => bnd (a ρ) o
def cTup (a : CA) : C := cApp (fun xs => ret (.tup xs)) a
def cLst (a : CA) : C := cApp (fun xs S => .ok (.lst S.length) (S ++ [.lst xs])) a
def cIf (t : CT) (a b : C) : C := fun ρ => bnd (t ρ) fun k => if k then a ρ else b ρ
def cBool (a : C) : CT := fun ρ => bnd (a ρ) fun x => match x with
  | .bl b => ret b
  | _ => bad
def cAndV (a b : C) : C := fun ρ => bnd (cBool a ρ) fun k => if k then b ρ else ret (.bl false)
def cOrV (a b : C) : C := fun ρ => bnd (cBool a ρ) fun k => if k then ret (.bl true) else b ρ
def cNotV (a : C) : C := fun ρ => bnd (cBool a ρ) fun k => ret (.bl (!k))
def cAndT (a b : CT) : CT := fun ρ => bnd (a ρ) fun k => if k then b ρ else ret false
def cOrT (a b : CT) : CT := fun ρ => bnd (a ρ) fun k => if k then ret true else b ρ
def cNotT (a : CT) : CT := fun ρ => bnd (a ρ) fun k => ret (!k)
def dB (x : D) : M Bool := match x with
  | .bl b => ret b
  | _ => bad
def cChain (o o' : D → D → M D) (a b c : C) : C := fun ρ => bnd (a ρ) fun x => bnd (b ρ) fun y => bnd (o x y) fun z => bnd (dB z) fun k => if k then bnd (c ρ) fun w => o' y w else ret (.bl false)
section
variable {X : Cx} {a b c d : Expr} {ca cb cc cd : C} {pos : Pos}
theorem se_var {i : Nat} {x : Str} (h : PE X (.Name x pos) (tVar i)) : PE X (.Name x pos) (tOf X.K (cVar i)) := h.weak fun σ H Q ⟨μ, ρ, S, d, S', sr, re, e, y⟩ => by
  unfold cVar at e
  split at e
  · rename_i d' hd
    cases e
    obtain ⟨v, q, r⟩ := re.2 i _ hd
    exact ⟨v, q, y.self sr r⟩
  · cases e
theorem se_con {e : Expr} {v : V} {d : D} (h : PE X e (tC v)) (hd : ∀ K H μ, RV K H μ d v) : PE X e (tOf X.K (cCon d)) := h.weak fun σ H Q ⟨μ, ρ, S, d', S', sr, re, e, y⟩ => by
  unfold cCon at e
  cases e
  exact y.self sr (hd _ _ _)
def OpS (K : PySem.W.Frag) (r : R2) (o : D → D → M D) : Prop := ∀ x y S d S' H μ v u Q, o x y S = .ok d S' → SR K μ S H → RV K H μ x v → RV K H μ y u → Yld K μ H d S' Q → r v u H Q
theorem of_bin {r : R2} {o : D → D → M D} (ho : OpS X.K r o) : ∀ σ H Q, tOf X.K (cBin o ca cb) σ H Q → tOp r (tOf X.K ca) (tOf X.K cb) σ H Q := by
  rintro σ H Q ⟨μ, ρ, S, d, S', sr, re, e, y⟩
  obtain ⟨x, S1, e1, e⟩ := bnd_ok e
  obtain ⟨z, S2, e2, e⟩ := bnd_ok e
  refine ⟨μ, ρ, S, x, S1, sr, re, e1, fun v H1 μ1 sr1 st1 r1 => ⟨μ1, ρ, S1, z, S2, sr1, re.up st1, e2, fun u H2 μ2 sr2 st2 r2 => ?_⟩⟩
  exact ho x z S2 d S' H2 μ2 v u Q e sr2 (RV.up st2.tk st2.ext _ _ r1) r2 (y.shift (st1.trans st2 sr2.nd))
theorem se_bin {op : Operator} {o : D → D → M D} (ho : OpS X.K (rAny X (binaryOp op)) o) (ha : PE X a (tOf X.K ca)) (hb : PE X b (tOf X.K cb)) : PE X (.BinOp a op b pos) (tOf X.K (cBin o ca cb)) := (pe_op opAny ha hb).weak (of_bin ho)
theorem se_cmp {op : CmpOp} {o : D → D → M D} (ho : OpS X.K (rAny X (compareOp op)) o) (ha : PE X a (tOf X.K ca)) (hb : PE X b (tOf X.K cb)) (hm : behindInMarks op b = false) : PE X (.Compare a [op] [b] pos) (tOf X.K (cBin o ca cb)) := (pe_cmpR opAny ha hb hm).weak (of_bin ho)
theorem of_test {t : TE} {c : C} (h : ∀ σ H Q, tOf X.K c σ H Q → t σ H Q) : ∀ σ H Q, tOfT X.K (cBool c) σ H Q → tTest t σ H Q := by
  rintro σ H Q ⟨μ, ρ, S, d, S', sr, re, e, y⟩
  obtain ⟨x, S1, e1, e⟩ := bnd_ok e
  refine h σ H _ ⟨μ, ρ, S, x, S1, sr, re, e1, fun v H1 μ1 sr1 st1 r1 => ?_⟩
  cases x with
  | bl k =>
    obtain ⟨rfl, rfl⟩ := ret_ok e
    unfold RV at r1
    exact ⟨_, r1, y H1 μ1 sr1 st1⟩
  | _ => cases e
theorem st_cmp {op : CmpOp} {o : D → D → M D} (ho : OpS X.K (rAny X (compareOp op)) o) (ha : PE X a (tOf X.K ca)) (hb : PE X b (tOf X.K cb)) (hm : behindInMarks op b = false) : PT X (.Compare a [op] [b] pos) (tOfT X.K (cBool (cBin o ca cb))) := (pt_cmpR opAny ha hb hm).weak (of_test (of_bin ho))
theorem of_chain {r r' : R2} {o o' : D → D → M D} (ho : OpS X.K r o) (ho' : OpS X.K r' o') : ∀ σ H Q, tOf X.K (cChain o o' ca cb cc) σ H Q → tChain r r' (tOf X.K ca) (tOf X.K cb) (tOf X.K cc) σ H Q := by
  rintro σ H Q ⟨μ, ρ, S, d, S', sr, re, e, y⟩
  obtain ⟨x, S1, e1, f1⟩ := bnd_ok e
  obtain ⟨z, S2, e2, f2⟩ := bnd_ok f1
  obtain ⟨t, S3, e3, f3⟩ := bnd_ok f2
  obtain ⟨k, S4, e4, f4⟩ := bnd_ok f3
  refine ⟨μ, ρ, S, x, S1, sr, re, e1, fun v H1 μ1 sr1 st1 r1 => ⟨μ1, ρ, S1, z, S2, sr1, re.up st1, e2, fun u H2 μ2 sr2 st2 r2 => ?_⟩⟩
  have st12 := st1.trans st2 sr2.nd
  refine ho x z S2 t S3 H2 μ2 v u _ e3 sr2 (RV.up st2.tk st2.ext _ _ r1) r2 fun v3 H3 μ3 sr3 st3 r3 => ?_
  have st13 := st12.trans st3 sr3.nd
  cases t with
  | bl k' =>
    obtain ⟨rfl, rfl⟩ := ret_ok e4
    unfold RV at r3
    refine ⟨_, r3, ?_⟩
    cases k with
    | true =>
      rw [if_pos rfl] at f4 ⊢
      obtain ⟨w, S5, e5, f5⟩ := bnd_ok f4
      refine ⟨μ3, ρ, _, w, S5, sr3, re.up st13, e5, fun v5 H5 μ5 sr5 st5 r5 => ?_⟩
      exact ho' z w S5 d S' H5 μ5 u v5 Q f5 sr5 (RV.up st5.tk st5.ext _ _ (RV.up st3.tk st3.ext _ _ r2)) r5 (y.shift (st13.trans st5 sr5.nd))
    | false =>
      rw [if_neg Bool.false_ne_true] at f4 ⊢
      obtain ⟨rfl, rfl⟩ := ret_ok f4
      exact y _ H3 μ3 sr3 st13 (by unfold RV; rfl)
  | _ => cases e4
theorem se_chain {op op' : CmpOp} {o o' : D → D → M D} (ho : OpS X.K (rAny X (compareOp op)) o) (ho' : OpS X.K (rAny X (compareOp op')) o') (ha : PE X a (tOf X.K ca)) (hb : PE X b (tOf X.K cb)) (hc : PE X c (tOf X.K cc)) (hm : lastMarks [op, op'] [b, c] = false) :
    PE X (.Compare a [op, op'] [b, c] pos) (tOf X.K (cChain o o' ca cb cc)) := (pe_chain opAny opAny ha hb hc hm).weak (of_chain ho ho')
theorem st_chain {op op' : CmpOp} {o o' : D → D → M D} (ho : OpS X.K (rAny X (compareOp op)) o) (ho' : OpS X.K (rAny X (compareOp op')) o') (ha : PE X a (tOf X.K ca)) (hb : PE X b (tOf X.K cb)) (hc : PE X c (tOf X.K cc)) (hm : lastMarks [op, op'] [b, c] = false) :
    PT X (.Compare a [op, op'] [b, c] pos) (tOfT X.K (cBool (cChain o o' ca cb cc))) := (pt_chain opAny opAny ha hb hc hm).weak (of_test (of_chain ho ho'))
def UnS (K : PySem.W.Frag) (r : V → Hp → VK → Prop) (o : D → M D) : Prop := ∀ x S d S' H μ v Q, o x S = .ok d S' → SR K μ S H → RV K H μ x v → Yld K μ H d S' Q → r v H Q
theorem se_un {op : UnaryOp} {o : D → M D} (ho : UnS X.K (uAny X (unaryOp op)) o) (ha : PE X a (tOf X.K ca)) : PE X (.UnaryOp op a pos) (tOf X.K (cUn o ca)) := (pe_un unAny ha).weak (by
  rintro σ H Q ⟨μ, ρ, S, d, S', sr, re, e, y⟩
  obtain ⟨x, S1, e1, e⟩ := bnd_ok e
  exact ⟨μ, ρ, S, x, S1, sr, re, e1, fun v H1 μ1 sr1 st1 r1 => ho x S1 d S' H1 μ1 v Q e sr1 r1 (y.shift st1)⟩)
theorem of_bool {σ : St} {H : Hp} {μ : List Addr} {ρ : Env1} {S S' : Store} {k : Bool} (sr : SR X.K μ S H) (re : RE X.K H μ ρ σ) (e : cBool ca ρ S = .ok k S') {Q : VK} (h : ∀ H1 μ1, SR X.K μ1 S' H1 → Step X.K μ μ1 H H1 → Q (.bl k) H1) : tOf X.K ca σ H Q := by
  obtain ⟨x, S1, e1, e⟩ := bnd_ok e
  refine ⟨μ, ρ, S, x, S1, sr, re, e1, fun v H1 μ1 sr1 st1 r1 => ?_⟩
  cases x with
  | bl k' =>
    obtain ⟨rfl, rfl⟩ := ret_ok e
    unfold RV at r1
    subst r1
    exact h H1 μ1 sr1 st1
  | _ => cases e
theorem se_and {rest : List Expr} (ha : PE X a (tOf X.K ca)) (hb : PE X (.BoolOp .And (b :: rest) pos) (tOf X.K cb)) : PE X (.BoolOp .And (a :: b :: rest) pos) (tOf X.K (cAndV ca cb)) := (pe_and ha hb).weak (by
  rintro σ H Q ⟨μ, ρ, S, d, S', sr, re, e, y⟩
  obtain ⟨k, S1, e1, e⟩ := bnd_ok e
  refine of_bool sr re e1 fun H1 μ1 sr1 st1 => ⟨k, rfl, ?_⟩
  cases k with
  | true => rw [if_pos rfl] at e ⊢; exact ⟨μ1, ρ, S1, d, S', sr1, re.up st1, e, y.shift st1⟩
  | false => rw [if_neg Bool.false_ne_true] at e ⊢; obtain ⟨rfl, rfl⟩ := ret_ok e; exact y _ H1 μ1 sr1 st1 (by unfold RV; rfl))
theorem se_or {rest : List Expr} (ha : PE X a (tOf X.K ca)) (hb : PE X (.BoolOp .Or (b :: rest) pos) (tOf X.K cb)) : PE X (.BoolOp .Or (a :: b :: rest) pos) (tOf X.K (cOrV ca cb)) := (pe_or ha hb).weak (by
  rintro σ H Q ⟨μ, ρ, S, d, S', sr, re, e, y⟩
  obtain ⟨k, S1, e1, e⟩ := bnd_ok e
  refine of_bool sr re e1 fun H1 μ1 sr1 st1 => ⟨k, rfl, ?_⟩
  cases k with
  | false => rw [if_neg Bool.false_ne_true] at e ⊢; exact ⟨μ1, ρ, S1, d, S', sr1, re.up st1, e, y.shift st1⟩
  | true => rw [if_pos rfl] at e ⊢; obtain ⟨rfl, rfl⟩ := ret_ok e; exact y _ H1 μ1 sr1 st1 (by unfold RV; rfl))
theorem se_not (ha : PE X a (tOf X.K ca)) : PE X (.UnaryOp .Not a pos) (tOf X.K (cNotV ca)) := (pe_not ha).weak (by
  rintro σ H Q ⟨μ, ρ, S, d, S', sr, re, e, y⟩
  obtain ⟨k, S1, e1, e⟩ := bnd_ok e
  obtain ⟨rfl, rfl⟩ := ret_ok e
  exact of_bool sr re e1 fun H1 μ1 sr1 st1 => ⟨k, rfl, y _ H1 μ1 sr1 st1 (by unfold RV; rfl)⟩)
theorem se_ifExp {t : Expr} {ct : CT} (ht : PT X t (tOfT X.K ct)) (ha : PE X a (tOf X.K ca)) (hb : PE X b (tOf X.K cb)) : PE X (.IfExp t a b pos) (tOf X.K (cIf ct ca cb)) := (pe_ifExp ht ha hb).weak (by
  rintro σ H Q ⟨μ, ρ, S, d, S', sr, re, e, y⟩
  obtain ⟨k, S1, e1, e⟩ := bnd_ok e
  refine ⟨μ, ρ, S, k, S1, sr, re, e1, fun H1 μ1 sr1 st1 => ?_⟩
  cases k with
  | true => rw [if_pos rfl] at e ⊢; exact ⟨μ1, ρ, S1, d, S', sr1, re.up st1, e, y.shift st1⟩
  | false => rw [if_neg Bool.false_ne_true] at e ⊢; exact ⟨μ1, ρ, S1, d, S', sr1, re.up st1, e, y.shift st1⟩)
variable {ta tb : CT}
theorem sw_and {rest : List Expr} (ha : PT X a (tOfT X.K ta)) (hb : PW X (.BoolOp .And (b :: rest) pos) (tOfT X.K tb)) : PW X (.BoolOp .And (a :: b :: rest) pos) (tOfT X.K (cAndT ta tb)) := (pw_and ha hb).weak (by
  rintro σ H Q ⟨μ, ρ, S, d, S', sr, re, e, y⟩
  obtain ⟨k, S1, e1, e⟩ := bnd_ok e
  refine ⟨μ, ρ, S, k, S1, sr, re, e1, fun H1 μ1 sr1 st1 => ?_⟩
  cases k with
  | true => rw [if_pos rfl] at e ⊢; exact ⟨μ1, ρ, S1, d, S', sr1, re.up st1, e, y.shift st1⟩
  | false => rw [if_neg Bool.false_ne_true] at e ⊢; obtain ⟨rfl, rfl⟩ := ret_ok e; exact y H1 μ1 sr1 st1)
theorem sw_or {rest : List Expr} (ha : PT X a (tOfT X.K ta)) (hb : PW X (.BoolOp .Or (b :: rest) pos) (tOfT X.K tb)) : PW X (.BoolOp .Or (a :: b :: rest) pos) (tOfT X.K (cOrT ta tb)) := (pw_or ha hb).weak (by
  rintro σ H Q ⟨μ, ρ, S, d, S', sr, re, e, y⟩
  obtain ⟨k, S1, e1, e⟩ := bnd_ok e
  refine ⟨μ, ρ, S, k, S1, sr, re, e1, fun H1 μ1 sr1 st1 => ?_⟩
  cases k with
  | false => rw [if_neg Bool.false_ne_true] at e ⊢; exact ⟨μ1, ρ, S1, d, S', sr1, re.up st1, e, y.shift st1⟩
  | true => rw [if_pos rfl] at e ⊢; obtain ⟨rfl, rfl⟩ := ret_ok e; exact y H1 μ1 sr1 st1)
theorem st_not (ha : PT X a (tOfT X.K ta)) : PT X (.UnaryOp .Not a pos) (tOfT X.K (cNotT ta)) := (pt_not ha).weak (by
  rintro σ H Q ⟨μ, ρ, S, d, S', sr, re, e, y⟩
  obtain ⟨k, S1, e1, e⟩ := bnd_ok e
  obtain ⟨rfl, rfl⟩ := ret_ok e
  exact ⟨μ, ρ, S, k, _, sr, re, e1, fun H1 μ1 sr1 st1 => y H1 μ1 sr1 st1⟩)
def dTru (x : D) : M Bool := fun S => match x with
  | .non => .ok false S
  | .bl b => .ok b S
  | .int i => .ok (i != 0) S
  | .str y => if y.length ≤ sizeLine then .ok ((y.length : Int) != 0) S else .bad
  | .tup xs => .ok (!xs.isEmpty) S
  | .lst n => match S[n]? with
    | some (.lst xs) => .ok (!xs.isEmpty) S
    | _ => .bad
  | .dct n => match S[n]? with
    | some (.dk kvs) => .ok (!kvs.isEmpty) S
    | _ => .bad
  | .ty _ => .bad
  | .rol xs => .ok (!xs.isEmpty) S
def cTru (a : C) : CT := fun ρ => bnd (a ρ) dTru
theorem emp_of {K : PySem.W.Frag} {H : Hp} {μ : List Addr} {ds : List D} {vs : List V} (h : RVs K H μ ds vs) : ds.isEmpty = vs.isEmpty := by
  cases ds with
  | nil => unfold RVs at h; subst h; rfl
  | cons d ds => unfold RVs at h; obtain ⟨v, ws, rfl, _⟩ := h; rfl
theorem SR.get {K : PySem.W.Frag} {H : Hp} {μ : List Addr} {S : Store} (sr : SR K μ S H) {n : Nat} {a : Addr} {o : O} (h : μ[n]? = some a) (ho : S[n]? = some o) : OR K H μ a o := sr.obj n a o h ho
theorem dTru_ok {K : PySem.W.Frag} {H : Hp} {μ : List Addr} {S S' : Store} {x : D} {v : V} {k : Bool} (e : dTru x S = .ok k S') (sr : SR K μ S H) (r : RV K H μ x v) : S' = S ∧ TruV K v H k := by
  unfold dTru at e
  cases x with
  | non => cases e; unfold RV at r; subst r; exact ⟨rfl, rfl⟩
  | bl b => cases e; unfold RV at r; subst r; exact ⟨rfl, rfl⟩
  | int i => cases e; unfold RV at r; subst r; exact ⟨rfl, rfl⟩
  | str y =>
    unfold RV at r; subst r
    dsimp only at e
    split at e
    · rename_i hl; cases e; exact ⟨rfl, hl, rfl⟩
    · cases e
  | tup xs =>
    cases e; unfold RV at r; obtain ⟨p, vs, rfl, q, rr⟩ := r
    exact ⟨rfl, .inr (.inl ⟨vs, q, by rw [emp_of rr]⟩)⟩
  | lst n =>
    unfold RV at r; obtain ⟨a, rfl, hm⟩ := r
    dsimp only at e
    split at e
    · rename_i xs ho
      cases e
      obtain ⟨vs, hq, rr⟩ := sr.get hm ho
      exact ⟨rfl, .inl ⟨vs, SqL.of hq, by rw [emp_of rr]⟩⟩
    · cases e
  | dct n =>
    unfold RV at r; obtain ⟨a, rfl, hm⟩ := r
    dsimp only at e
    split at e
    · rename_i kvs ho
      cases e
      obtain ⟨ws, hq, rr⟩ := sr.get hm ho
      refine ⟨rfl, .inr (.inr ⟨ws, hq, ?_⟩)⟩
      have := emp_of rr.2
      rw [List.isEmpty_map, List.isEmpty_map] at this
      rw [this]
    · cases e
  | ty _ => cases e
  | rol xs =>
    cases e; unfold RV at r; obtain ⟨p, vs, rfl, q, rr⟩ := r
    exact ⟨rfl, .inl ⟨vs, q.sq, by rw [emp_of rr]⟩⟩
theorem st_tru (ha : PE X a (tOf X.K ca)) (he : ∀ whole, isTrue a X.env whole = (do let v ← whole; standAt a.pos; holding [v] (truthy v))) : PT X a (tOfT X.K (cTru ca)) := (pt_truth ha he).weak (by
  rintro σ H Q ⟨μ, ρ, S, d, S', sr, re, e, y⟩
  obtain ⟨x, S1, e1, e⟩ := bnd_ok e
  refine ⟨μ, ρ, S, x, S1, sr, re, e1, fun v H1 μ1 sr1 st1 r1 => ?_⟩
  obtain ⟨rfl, tv⟩ := dTru_ok e sr1 r1
  exact ⟨d, tv, y H1 μ1 sr1 st1⟩)
variable {es : List Expr} {cs : List C}
theorem sa_nil : PA X [] (tOfA X.K (cArgs [])) := pa_nil.weak (by
  rintro σ H Q ⟨μ, ρ, S, d, S', sr, re, e, y⟩
  obtain ⟨rfl, rfl⟩ := ret_ok e
  exact y [] H μ sr (Step.refl _ _ _) RVs.nil)
theorem sa_cons (ha : PE X a (tOf X.K ca)) (hr : PA X es (tOfA X.K (cArgs cs))) (hs : starEach (a :: es) X.env = (false, eval a X.env) :: starEach es X.env) : PA X (a :: es) (tOfA X.K (cArgs (ca :: cs))) := (pa_cons ha hr hs).weak (by
  rintro σ H Q ⟨μ, ρ, S, d, S', sr, re, e, y⟩
  obtain ⟨x, S1, e1, e⟩ := bnd_ok e
  obtain ⟨xs, S2, e2, e⟩ := bnd_ok e
  obtain ⟨rfl, rfl⟩ := ret_ok e
  exact ⟨μ, ρ, S, x, S1, sr, re, e1, fun v H1 μ1 sr1 st1 r1 => ⟨μ1, ρ, S1, xs, S', sr1, re.up st1, e2, fun vs H2 μ2 sr2 st2 r2 => y (v :: vs) H2 μ2 sr2 (st1.trans st2 sr2.nd) (.cons (RV.up st2.tk st2.ext _ _ r1) r2)⟩⟩)
theorem cArgs_len {ρ : Env1} : ∀ {cs : List C} {S S' : Store} {xs : List D}, cArgs cs ρ S = .ok xs S' → xs.length = cs.length
  | [], S, S', xs, e => by obtain ⟨rfl, rfl⟩ := ret_ok e; rfl
  | c :: cs, S, S', xs, e => by
    obtain ⟨x, S1, e1, e⟩ := bnd_ok e
    obtain ⟨ys, S2, e2, e⟩ := bnd_ok e
    obtain ⟨rfl, rfl⟩ := ret_ok e
    rw [List.length_cons, List.length_cons, cArgs_len e2]
theorem new_tup {K : PySem.W.Frag} {H : Hp} {μ : List Addr} {S : Store} {ds : List D} {vs : List V} {p : Addr} (sr : SR K μ S H) (h : H p = none) (r : RVs K H μ ds vs) : SR K μ S (upd H p (.tup vs)) ∧ Step K μ μ H (upd H p (.tup vs)) ∧ RV K (upd H p (.tup vs)) μ (.tup ds) (.ref p) := by
  obtain ⟨s1, s2⟩ := sr.other (o := .tup vs) h
  exact ⟨s1, s2, by unfold RV; exact ⟨p, vs, rfl, SqT.of upd_same, RVs.up s2.tk s2.ext _ _ r⟩⟩
theorem new_lst {K : PySem.W.Frag} {H : Hp} {μ : List Addr} {S : Store} {ds : List D} {vs : List V} {p : Addr} (sr : SR K μ S H) (h : H p = none) (r : RVs K H μ ds vs) : SR K (μ ++ [p]) (S ++ [.lst ds]) (upd H p (.lst vs)) ∧ Step K μ (μ ++ [p]) H (upd H p (.lst vs)) ∧ RV K (upd H p (.lst vs)) (μ ++ [p]) (.lst S.length) (.ref p) := by
  obtain ⟨s1, s2⟩ := sr.push (o := .lst vs) (o' := .lst ds) h ⟨vs, upd_same, RVs.up (tk_new h) ⟨[p], rfl⟩ _ _ r⟩
  exact ⟨s1, s2, by unfold RV; exact ⟨p, rfl, by rw [← sr.len, List.getElem?_append_right (Nat.le_refl _), Nat.sub_self]; rfl⟩⟩
theorem Yld.newL {K : PySem.W.Frag} {H : Hp} {μ : List Addr} {S : Store} {ds : List D} {vs : List V} {p : Addr} {Q : VK} (y : Yld K μ H (.lst S.length) (S ++ [.lst ds]) Q) (sr : SR K μ S H) (h : H p = none) (r : RVs K H μ ds vs) : Q (.ref p) (upd H p (.lst vs)) := by
  obtain ⟨s1, s2, s3⟩ := new_lst sr h r
  exact y _ _ _ s1 s2 s3
theorem Yld.newT {K : PySem.W.Frag} {H : Hp} {μ : List Addr} {S : Store} {ds : List D} {vs : List V} {p : Addr} {Q : VK} (y : Yld K μ H (.tup ds) S Q) (sr : SR K μ S H) (h : H p = none) (r : RVs K H μ ds vs) : Q (.ref p) (upd H p (.tup vs)) := by
  obtain ⟨s1, s2, s3⟩ := new_tup sr h r
  exact y _ _ _ s1 s2 s3
theorem se_tup {x1} (h : PA X es (tOfA X.K (cArgs cs))) (hl : cs.length ≤ 1000) : PE X (.Tuple es x1 pos) (tOf X.K (cTup (cArgs cs))) := (pe_tup h).weak (by
  rintro σ H Q ⟨μ, ρ, S, d, S', sr, re, e, y⟩
  obtain ⟨xs, S1, e1, e⟩ := bnd_ok e
  obtain ⟨rfl, rfl⟩ := ret_ok e
  refine ⟨μ, ρ, S, xs, S', sr, re, e1, fun vs H1 μ1 sr1 st1 r1 => ⟨?_, fun p hp => (y.shift st1).newT sr1 hp r1⟩⟩
  have h1 := cArgs_len e1
  have h2 := r1.len
  exact Nat.le_of_lt (small1000 (by omega)))
theorem se_lst (h : PA X es (tOfA X.K (cArgs cs))) (hl : cs.length ≤ 1000) : PE X (.List es pos) (tOf X.K (cLst (cArgs cs))) := (pe_lst h).weak (by
  rintro σ H Q ⟨μ, ρ, S, d, S', sr, re, e, y⟩
  obtain ⟨xs, S1, e1, e⟩ := bnd_ok e
  cases e
  refine ⟨μ, ρ, S, xs, S1, sr, re, e1, fun vs H1 μ1 sr1 st1 r1 => ⟨?_, fun p hp => (y.shift st1).newL sr1 hp r1⟩⟩
  have h1 := cArgs_len e1
  have h2 := r1.len
  exact Nat.le_of_lt (small1000 (by omega)))
theorem se_ix {o : D → D → M D} (ho : OpS X.K (ixAnyR X) o) (ha : PE X a (tOf X.K ca)) (hb : PE X b (tOf X.K cb)) (hs : PlainIx b) : PE X (.Subscript a b pos) (tOf X.K (cBin o ca cb)) := (pe_ix ixAny ha hb hs).weak (of_bin ho)
def CO := Env1 → M (Option Int)
def cNoPart : CO := fun _ => ret none
def dInt (x : D) : M Int := match x with
  | .int i => ret i
  | _ => bad
def cPart (a : C) : CO := fun ρ => bnd (a ρ) fun x => bnd (dInt x) fun i => ret (some i)
def YldO (K : PySem.W.Frag) (μ : List Addr) (H : Hp) (b : Option Int) (S' : Store) (Q : Option Int → Hp → Prop) : Prop := ∀ H' μ', SR K μ' S' H' → Step K μ μ' H H' → Q b H'
def tOfO (K : PySem.W.Frag) (c : CO) : TO := fun σ H Q => ∃ μ ρ S d S', SR K μ S H ∧ RE K H μ ρ σ ∧ c ρ S = .ok d S' ∧ YldO K μ H d S' Q
theorem PO.weak {e : Option Expr} {t t' : TO} (h : PO X e t) (w : ∀ σ H Q, t' σ H Q → t σ H Q) : PO X e t' := fun pins s σ H Q I q => h pins s σ H Q I (w σ H Q q)
theorem so_none : PO X none (tOfO X.K cNoPart) := po_none.weak (by
  rintro σ H Q ⟨μ, ρ, S, d, S', sr, re, e, y⟩
  obtain ⟨rfl, rfl⟩ := ret_ok e
  exact y H μ sr (Step.refl _ _ _))
theorem so_some (ha : PE X a (tOf X.K ca)) : PO X (some a) (tOfO X.K (cPart ca)) := (po_some ha).weak (by
  rintro σ H Q ⟨μ, ρ, S, d, S', sr, re, e, y⟩
  obtain ⟨x, S1, e1, e⟩ := bnd_ok e
  obtain ⟨i, S2, e2, e⟩ := bnd_ok e
  obtain ⟨rfl, rfl⟩ := ret_ok e
  refine ⟨μ, ρ, S, x, S1, sr, re, e1, fun v H1 μ1 sr1 st1 r1 => ?_⟩
  cases x with
  | int j =>
    obtain ⟨rfl, rfl⟩ := ret_ok e2
    unfold RV at r1
    exact ⟨_, r1, y H1 μ1 sr1 st1⟩
  | _ => cases e2)
def cSl (o : D → Option Int → Option Int → M D) (a : C) (lo hi : CO) : C := fun ρ => bnd (a ρ) fun x => bnd (lo ρ) fun l => bnd (hi ρ) fun h => o x l h
def SlS (K : PySem.W.Frag) (r : V → Option Int → Option Int → Hp → VK → Prop) (o : D → Option Int → Option Int → M D) : Prop := ∀ x l h S d S' H μ v Q, o x l h S = .ok d S' → SR K μ S H → RV K H μ x v → Yld K μ H d S' Q → r v l h H Q
theorem se_slice {lo hi : Option Expr} {cl ch : CO} {p2 : Pos} {o : D → Option Int → Option Int → M D} (ho : SlS X.K (slAnyR X) o) (ha : PE X a (tOf X.K ca)) (hl : PO X lo (tOfO X.K cl)) (hh : PO X hi (tOfO X.K ch)) : PE X (.Subscript a (.Slice lo hi none p2) pos) (tOf X.K (cSl o ca cl ch)) := (pe_slice slAny ha hl hh).weak (by
  rintro σ H Q ⟨μ, ρ, S, d, S', sr, re, e, y⟩
  obtain ⟨x, S1, e1, e⟩ := bnd_ok e
  obtain ⟨l, S2, e2, e⟩ := bnd_ok e
  obtain ⟨h, S3, e3, e⟩ := bnd_ok e
  refine ⟨μ, ρ, S, x, S1, sr, re, e1, fun v H1 μ1 sr1 st1 r1 => ⟨μ1, ρ, S1, l, S2, sr1, re.up st1, e2, fun H2 μ2 sr2 st2 => ?_⟩⟩
  have st12 := st1.trans st2 sr2.nd
  refine ⟨μ2, ρ, S2, h, S3, sr2, re.up st12, e3, fun H3 μ3 sr3 st3 => ?_⟩
  exact ho x l h S3 d S' H3 μ3 v Q e sr3 (RV.up st3.tk st3.ext _ _ (RV.up st2.tk st2.ext _ _ r1)) (y.shift (st12.trans st3 sr3.nd)))
def CallS (K : PySem.W.Frag) (r : List V → Hp → VK → Prop) (o : List D → M D) : Prop := ∀ xs S d S' H μ vs Q, o xs S = .ok d S' → SR K μ S H → RVs K H μ xs vs → Yld K μ H d S' Q → r vs H Q
variable {ca' : CA}
theorem of_app {r : List V → Hp → VK → Prop} {o : List D → M D} (ho : CallS X.K r o) : ∀ σ H Q, tOf X.K (cApp o ca') σ H Q → tCB r (tOfA X.K ca') σ H Q := by
  rintro σ H Q ⟨μ, ρ, S, d, S', sr, re, e, y⟩
  obtain ⟨xs, S1, e1, e⟩ := bnd_ok e
  exact ⟨μ, ρ, S, xs, S1, sr, re, e1, fun vs H1 μ1 sr1 st1 r1 => ho xs S1 d S' H1 μ1 vs Q e sr1 r1 (y.shift st1)⟩
def spOf (K : PySem.W.Frag) (φ : List D → M D) (n : Nat) : Sp := fun vs H Q E => vs.length = n ∧ ∃ μ ds S d S', SR K μ S H ∧ RVs K H μ ds vs ∧ φ ds S = .ok d S' ∧ Yld K μ H d S' Q
theorem of_call {φ : List D → M D} {n : Nat} (hn : ∀ ds S d S', φ ds S = .ok d S' → ds.length = n) : ∀ σ H Q, tOf X.K (cApp φ ca') σ H Q → tCall (spOf X.K φ n) [] E0 (tOfA X.K ca') σ H Q := by
  rintro σ H Q ⟨μ, ρ, S, d, S', sr, re, e, y⟩
  obtain ⟨xs, S1, e1, e⟩ := bnd_ok e
  refine ⟨μ, ρ, S, xs, S1, sr, re, e1, fun vs H1 μ1 sr1 st1 r1 => ?_⟩
  dsimp only
  rw [List.append_nil]
  exact ⟨by rw [← r1.len]; exact hn _ _ _ _ e, μ1, xs, S1, d, S', sr1, r1, e, y.shift st1⟩
end
end L2
namespace L2
open PySem PySem.Spec PyProof.Rows
def lim : Nat := 1048576
theorem lim_le {n : Nat} (h : n ≤ lim) : n ≤ sizeLine := Nat.le_trans h (by decide)
theorem lim_lt {n : Nat} (h : n < lim) : n < sizeLine := Nat.lt_of_lt_of_le h (by decide)
section
variable {K : PySem.W.Frag} {H H' H1 : Hp} {μ : List Addr} {S : Store}
theorem SR.same (sr : SR K μ S H) (sm : Same H H1) : SR K μ S H1 ∧ Step K μ μ H H1 := by
  have tk : TF K H H1 := tf_same sm
  refine ⟨⟨sr.len, sr.nd, fun n a o e1 e2 => ?_⟩, ⟨⟨[], by simp, by simp⟩, fun b o _ h => sm b o h, tk⟩⟩
  obtain ⟨u, hu⟩ := sr.isS (List.mem_of_getElem? e1)
  exact (sr.obj n a o e1 e2).up tk ⟨[], by simp⟩ (by rw [hu]; exact sm _ _ hu)
theorem Yld.oldT {ds : List D} {vs : List V} {p : Addr} {Q : VK} (y : Yld K μ H (.tup ds) S Q) (sr : SR K μ S H) (sm : Same H H1) (h : SqT K H1 p vs) (r : RVs K H μ ds vs) : Q (.ref p) H1 := by
  obtain ⟨s1, s2⟩ := sr.same sm
  exact y _ _ _ s1 s2 (by unfold RV; exact ⟨p, vs, rfl, h, RVs.up s2.tk s2.ext _ _ r⟩)
theorem rv_int {i : Int} : RV K H μ (.int i) (.int i) := by unfold RV; rfl
theorem rv_bl {i : Bool} : RV K H μ (.bl i) (.bl i) := by unfold RV; rfl
theorem rv_non : RV K H μ .non .non := by unfold RV; rfl
theorem rv_str {i : Str} : RV K H μ (.str i) (.str i) := by unfold RV; rfl
theorem SR.lst (sr : SR K μ S H) {n : Nat} {a : Addr} {xs : List D} (h : μ[n]? = some a) (ho : S[n]? = some (.lst xs)) : ∃ vs, H a = some (.lst vs) ∧ RVs K H μ xs vs := sr.obj n a _ h ho
def lstAt (S : Store) (n : Nat) : Option (List D) := match S[n]? with
  | some (.lst xs) => some xs
  | _ => none
theorem SR.sq (sr : SR K μ S H) {n : Nat} {a : Addr} {xs : List D} (h : μ[n]? = some a) (ho : lstAt S n = some xs) : ∃ vs, SqL K H a vs ∧ RVs K H μ xs vs := by
  unfold lstAt at ho
  split at ho
  · rename_i ys e; cases ho
    obtain ⟨vs, q, r⟩ := sr.get h e
    exact ⟨vs, SqL.of q, r⟩
  · cases ho
def seqAt (S : Store) : D → Option (List D)
  | .tup xs => some xs
  | .lst n => lstAt S n
  | .rol xs => some xs
  | _ => none
theorem SR.seq (sr : SR K μ S H) {x : D} {v : V} {xs : List D} (r : RV K H μ x v) (ho : seqAt S x = some xs) : ∃ a vs, v = .ref a ∧ (SqL K H a vs ∨ SqT K H a vs) ∧ RVs K H μ xs vs := by
  unfold seqAt at ho
  split at ho
  · cases ho
    unfold RV at r; obtain ⟨p, vs, rfl, q, rr⟩ := r
    exact ⟨p, vs, rfl, .inr q, rr⟩
  · unfold RV at r; obtain ⟨a, rfl, hm⟩ := r
    obtain ⟨vs, q, rr⟩ := sr.sq hm ho
    exact ⟨a, vs, rfl, .inl q, rr⟩
  · cases ho
    unfold RV at r; obtain ⟨p, vs, rfl, q, rr⟩ := r
    exact ⟨p, vs, rfl, .inl q.sq, rr⟩
  · cases ho
theorem RVs.rep {ds : List D} {vs : List V} (h : RVs K H μ ds vs) : ∀ k : Nat, RVs K H μ (List.replicate k ds).flatten (List.replicate k vs).flatten
  | 0 => by simp; exact .nil
  | k + 1 => by rw [List.replicate_succ, List.flatten_cons, List.replicate_succ, List.flatten_cons]; exact h.append (RVs.rep h k)
theorem RVs.cons_inv {d : D} {ds : List D} {vs : List V} (h : RVs K H μ (d :: ds) vs) : ∃ v ws, vs = v :: ws ∧ RV K H μ d v ∧ RVs K H μ ds ws := by unfold RVs at h; exact h
theorem RVs.nil_inv {vs : List V} (h : RVs K H μ [] vs) : vs = [] := by unfold RVs at h; exact h
end
def oInt (g : Int → Int → Int) : D → D → M D
  | .int i, .int j => ret (.int (g i j))
  | _, _ => bad
def oAdd : D → D → M D
  | .int i, .int j => ret (.int (i + j))
  | .tup xs, .tup ys => fun S => if xs.length + ys.length ≤ lim then .ok (.tup (xs ++ ys)) S else .bad
  | .lst n, .lst m => fun S => match S[n]?, S[m]? with
    | some (.lst xs), some (.lst ys) => if xs.length + ys.length ≤ lim then .ok (.lst S.length) (S ++ [.lst (xs ++ ys)]) else .bad
    | _, _ => .bad
  | .str x, .str y => fun S => if x.length + y.length ≤ lim then .ok (.str (x ++ y)) S else .bad
  | _, _ => bad
def mulOk (i j : Int) : Bool := (decide (-18446744073709551616 < i) && decide (i < 18446744073709551616)) || (decide (-18446744073709551616 < j) && decide (j < 18446744073709551616))
def oMul : D → D → M D
  | .int i, .int j => fun S => if mulOk i j then .ok (.int (i * j)) S else .bad
  | .tup xs, .int k => fun S => if xs ≠ [] ∧ 2 ≤ k ∧ k < 1000 ∧ xs.length * k.toNat ≤ lim then .ok (.tup (List.replicate k.toNat xs).flatten) S else .bad
  | .lst n, .int k => fun S => match S[n]? with
    | some (.lst xs) => if -1000 < k ∧ k < 1000000 ∧ xs.length * k.toNat ≤ lim then .ok (.lst S.length) (S ++ [.lst (List.replicate k.toNat xs).flatten]) else .bad
    | _ => .bad
  | _, _ => bad
def oMod : D → D → M D
  | .int i, .int j => fun S => if 0 < j then .ok (.int (i % j)) S else .bad
  | _, _ => bad
def oDiv : D → D → M D
  | .int i, .int j => fun S => if 0 < j ∧ j < 1073741824 then .ok (.int (i / j)) S else .bad
  | _, _ => bad
def oPow : D → D → M D
  | .int i, .int j => fun S => if 0 ≤ j ∧ j ≤ 1000000 ∧ i.natAbs < 18446744073709551616 then .ok (.int (i ^ j.toNat)) S else .bad
  | _, _ => bad
def oShl : D → D → M D
  | .int i, .int j => fun S => if 0 ≤ j ∧ j ≤ 1000000 ∧ i.natAbs < 18446744073709551616 then .ok (.int (i * 2 ^ j.toNat)) S else .bad
  | _, _ => bad
def oShr : D → D → M D
  | .int i, .int j => fun S => if 0 ≤ j then .ok (.int (i / 2 ^ j.toNat)) S else .bad
  | _, _ => bad
def oNeg : D → M D
  | .int i => ret (.int (-i))
  | _ => bad
section
variable {X : Cx}
theorem os_int {op : Operator} {g : Int → Int → Int} (h : OpR X (binaryOp op) (rI0 fun i j => .int (g i j))) : OpS X.K (rAny X (binaryOp op)) (oInt g) := by
  intro x y S d S' H μ v u Q e sr rx ry h'
  unfold oInt at e
  split at e
  · obtain ⟨rfl, rfl⟩ := ret_ok e
    unfold RV at rx ry; subst rx ry
    exact ⟨_, h, _, _, rfl, rfl, h'.self sr rv_int⟩
  · cases e
theorem os_sub : OpS X.K (rAny X (binaryOp .Sub)) (oInt fun i j => i - j) := os_int op_sub
theorem os_and : OpS X.K (rAny X (binaryOp .BitAnd)) (oInt Builtin.bitAnd) := os_int op_and
theorem os_or : OpS X.K (rAny X (binaryOp .BitOr)) (oInt Builtin.bitOr) := os_int op_or
theorem os_xor : OpS X.K (rAny X (binaryOp .BitXor)) (oInt Builtin.bitXor) := os_int op_xor
theorem os_add : OpS X.K (rAny X (binaryOp .Add)) oAdd := by
  intro x y S d S' H μ v u Q e sr rx ry h
  unfold oAdd at e
  split at e
  · obtain ⟨rfl, rfl⟩ := ret_ok e
    unfold RV at rx ry; subst rx ry
    exact ⟨_, op_add, _, _, rfl, rfl, h.self sr rv_int⟩
  · try dsimp only at e
    split at e
    · rename_i hl; cases e
      unfold RV at rx ry
      obtain ⟨p, vs, rfl, q1, r1⟩ := rx
      obtain ⟨p2, ws, rfl, q2, r2⟩ := ry
      exact ⟨_, op_catT2, p, p2, vs, ws, rfl, rfl, q1, q2, by rw [← r1.len, ← r2.len]; exact lim_le hl, fun p3 H1 sm sq => h.oldT sr sm sq (r1.append r2)⟩
    · cases e
  · try dsimp only at e
    unfold RV at rx ry
    obtain ⟨p, rfl, m1⟩ := rx
    obtain ⟨p2, rfl, m2⟩ := ry
    split at e
    · rename_i xs ys o1 o2
      split at e
      · rename_i hl; cases e
        obtain ⟨vs, q1, r1⟩ := sr.lst m1 o1
        obtain ⟨ws, q2, r2⟩ := sr.lst m2 o2
        exact ⟨_, op_cat, p, p2, vs, ws, rfl, rfl, q1, q2, by rw [← r1.len, ← r2.len]; exact lim_le hl, fun p3 hp => h.newL sr hp (r1.append r2)⟩
      · cases e
    · cases e
  · try dsimp only at e
    split at e
    · rename_i hl; cases e
      unfold RV at rx ry; subst rx ry
      exact ⟨_, op_add_str, _, _, rfl, rfl, lim_le hl, h.self sr rv_str⟩
    · cases e
  · cases e
theorem mulOk_c {i j : Int} (h : mulOk i j = true) : CMul i j := by
  unfold mulOk at h
  simp only [Bool.or_eq_true, Bool.and_eq_true, decide_eq_true_eq] at h
  exact h
theorem os_mul : OpS X.K (rAny X (binaryOp .Mult)) oMul := by
  intro x y S d S' H μ v u Q e sr rx ry h
  unfold oMul at e
  split at e
  · try dsimp only at e
    split at e
    · rename_i hl; cases e
      unfold RV at rx ry; subst rx ry
      exact ⟨_, op_mul, _, _, rfl, rfl, mulOk_c hl, h.self sr rv_int⟩
    · cases e
  · try dsimp only at e
    split at e
    · rename_i hl; cases e
      obtain ⟨h1, h2, h3, h4⟩ := hl
      unfold RV at rx ry
      obtain ⟨p, vs, rfl, q1, r1⟩ := rx
      subst ry
      refine ⟨_, op_repT, p, vs, _, rfl, rfl, q1, ?_, h2, h3, by rw [← r1.len]; exact lim_le h4, fun p hp => h.newT sr hp (r1.rep _)⟩
      intro z; subst z
      have := r1.len
      exact h1 (List.length_eq_zero_iff.mp this)
    · cases e
  · try dsimp only at e
    split at e
    · rename_i ys o1
      split at e
      · rename_i hl; cases e
        obtain ⟨h1, h2, h3⟩ := hl
        unfold RV at rx ry
        obtain ⟨p, rfl, m1⟩ := rx
        subst ry
        obtain ⟨vs, q1, r1⟩ := sr.lst m1 o1
        exact ⟨_, op_rep, p, _, vs, rfl, rfl, q1, by omega, by omega, by rw [← r1.len]; exact lim_le h3, fun p hp => h.newL sr hp (r1.rep _)⟩
      · cases e
    · cases e
  · cases e
theorem os_mod : OpS X.K (rAny X (binaryOp .Mod)) oMod := by
  intro x y S d S' H μ v u Q e sr rx ry h
  unfold oMod at e
  split at e
  · try dsimp only at e
    split at e
    · rename_i hl; cases e
      unfold RV at rx ry; subst rx ry
      exact ⟨_, op_mod, _, _, rfl, rfl, hl, h.self sr rv_int⟩
    · cases e
  · cases e
theorem os_div : OpS X.K (rAny X (binaryOp .FloorDiv)) oDiv := by
  intro x y S d S' H μ v u Q e sr rx ry h
  unfold oDiv at e
  split at e
  · try dsimp only at e
    split at e
    · rename_i hl; cases e
      unfold RV at rx ry; subst rx ry
      exact ⟨_, op_fdiv, _, _, rfl, rfl, hl, h.self sr rv_int⟩
    · cases e
  · cases e
theorem os_pow : OpS X.K (rAny X (binaryOp .Pow)) oPow := by
  intro x y S d S' H μ v u Q e sr rx ry h
  unfold oPow at e
  split at e
  · try dsimp only at e
    split at e
    · rename_i hl; cases e
      unfold RV at rx ry; subst rx ry
      exact ⟨_, op_pow, _, _, rfl, rfl, hl, h.self sr rv_int⟩
    · cases e
  · cases e
theorem os_shl : OpS X.K (rAny X (binaryOp .LShift)) oShl := by
  intro x y S d S' H μ v u Q e sr rx ry h
  unfold oShl at e
  split at e
  · try dsimp only at e
    split at e
    · rename_i hl; cases e
      unfold RV at rx ry; subst rx ry
      exact ⟨_, op_shl, _, _, rfl, rfl, hl, h.self sr rv_int⟩
    · cases e
  · cases e
theorem os_shr : OpS X.K (rAny X (binaryOp .RShift)) oShr := by
  intro x y S d S' H μ v u Q e sr rx ry h
  unfold oShr at e
  split at e
  · try dsimp only at e
    split at e
    · rename_i hl; cases e
      unfold RV at rx ry; subst rx ry
      exact ⟨_, op_shr, _, _, rfl, rfl, hl, h.self sr rv_int⟩
    · cases e
  · cases e
theorem us_neg : UnS X.K (uAny X (unaryOp .USub)) oNeg := by
  intro x S d S' H μ v Q e sr rx h
  unfold oNeg at e
  split at e
  · obtain ⟨rfl, rfl⟩ := ret_ok e
    unfold RV at rx; subst rx
    exact ⟨_, un_neg, _, rfl, h.self sr rv_int⟩
  · cases e
def oCmp (g : Int → Int → Bool) : D → D → M D
  | .int i, .int j => ret (.bl (g i j))
  | _, _ => bad
theorem os_cmp {op : CmpOp} {g : Int → Int → Bool} (h : OpR X (compareOp op) (rI0 fun i j => .bl (g i j))) : OpS X.K (rAny X (compareOp op)) (oCmp g) := by
  intro x y S d S' H μ v u Q e sr rx ry h'
  unfold oCmp at e
  split at e
  · obtain ⟨rfl, rfl⟩ := ret_ok e
    unfold RV at rx ry; subst rx ry
    exact ⟨_, h, _, _, rfl, rfl, h'.self sr rv_bl⟩
  · cases e
theorem os_le : OpS X.K (rAny X (compareOp .LtE)) (oCmp fun i j => decide (i ≤ j)) := os_cmp op_le
theorem os_gt : OpS X.K (rAny X (compareOp .Gt)) (oCmp fun i j => decide (j < i)) := os_cmp op_gt
theorem os_ge : OpS X.K (rAny X (compareOp .GtE)) (oCmp fun i j => decide (j ≤ i)) := os_cmp op_ge
def intsOf : List D → Option (List Int)
  | [] => some []
  | .int i :: r => (intsOf r).map (i :: ·)
  | _ :: _ => none
theorem intsOf_vs {K : PySem.W.Frag} {H : Hp} {μ : List Addr} : ∀ {ds : List D} {ns : List Int} {vs : List V}, intsOf ds = some ns → RVs K H μ ds vs → vs = ns.map V.int
  | [], ns, vs, e, r => by cases e; rw [r.nil_inv]; rfl
  | .int i :: ds, ns, vs, e, r => by
    obtain ⟨v, ws, rfl, r1, r2⟩ := r.cons_inv
    unfold intsOf at e
    cases q : intsOf ds with
    | none => rw [q] at e; cases e
    | some ms =>
      rw [q] at e; cases e
      unfold RV at r1; subst r1
      rw [intsOf_vs q r2]; rfl
  | .non :: ds, ns, vs, e, r => by cases e
  | .bl _ :: ds, ns, vs, e, r => by cases e
  | .str _ :: ds, ns, vs, e, r => by cases e
  | .ty _ :: ds, ns, vs, e, r => by cases e
  | .tup _ :: ds, ns, vs, e, r => by cases e
  | .lst _ :: ds, ns, vs, e, r => by cases e
  | .dct _ :: ds, ns, vs, e, r => by cases e
  | .rol _ :: ds, ns, vs, e, r => by cases e
def oLt : D → D → M D
  | .int i, .int j => ret (.bl (decide (i < j)))
  | _, _ => bad
theorem os_lt (hu : X.A.units < cLine) : OpS X.K (rAny X (compareOp .Lt)) oLt := by
  intro x y S d S' H μ v u Q e sr rx ry h
  unfold oLt at e
  split at e
  · obtain ⟨rfl, rfl⟩ := ret_ok e
    unfold RV at rx ry; subst rx ry
    exact ⟨_, op_lt, _, _, rfl, rfl, h.self sr rv_bl⟩
  · cases e
def snap : Nat → Store → D → Option PyData
  | 0, _, _ => none
  | n + 1, S, d => match d with
    | .non => some .none
    | .bl b => some (.bool b)
    | .int i => some (.int i)
    | .str x => if PyData.strOk x then some (.str x) else none
    | .tup xs => (xs.mapM (snap n S)).map .tuple
    | .lst k => match lstAt S k with
      | some xs => (xs.mapM (snap n S)).map .list
      | none => none
    | _ => none
theorem snapL {K : PySem.W.Frag} {H : Hp} {μ : List Addr} {S : Store} {n : Nat} (ih : ∀ d v p, snap n S d = some p → RV K H μ d v → Rp K H (fun _ => True) v p ∧ p.canLay0 = true ∧ p.depth ≤ n) : ∀ (xs : List D) (vs : List V) (ps : List PyData), xs.mapM (snap n S) = some ps → RVs K H μ xs vs → RpL K H (fun _ => True) vs ps ∧ PyData.canLayAll0 ps = true ∧ PyData.depthAll ps ≤ n
  | [], vs, ps, e, r => by
    simp at e; subst e
    rw [r.nil_inv]
    exact ⟨.nil, rfl, Nat.zero_le _⟩
  | d :: ds, vs, ps, e, r => by
    obtain ⟨v, ws, rfl, r1, r2⟩ := r.cons_inv
    rw [List.mapM_cons] at e
    cases q : snap n S d with
    | none => rw [q] at e; cases e
    | some p =>
      cases q2 : ds.mapM (snap n S) with
      | none => rw [q, q2] at e; cases e
      | some ps' =>
        rw [q, q2] at e
        cases e
        obtain ⟨a1, a2, a3⟩ := ih d v p q r1
        obtain ⟨b1, b2, b3⟩ := snapL ih ds ws ps' q2 r2
        refine ⟨.cons a1 b1, ?_, ?_⟩
        · show (PyData.canLay0 p && PyData.canLayAll0 ps') = true
          rw [a2, b2]; rfl
        · show max p.depth (PyData.depthAll ps') ≤ n
          omega
theorem snap_ok {K : PySem.W.Frag} {H : Hp} {μ : List Addr} {S : Store} (sr : SR K μ S H) : ∀ (n : Nat) (d : D) (v : V) (p : PyData), snap n S d = some p → RV K H μ d v → Rp K H (fun _ => True) v p ∧ p.canLay0 = true ∧ p.depth ≤ n
  | 0, d, v, p, e, r => by cases e
  | n + 1, d, v, p, e, r => by
    unfold snap at e
    cases d with
    | non => cases e; unfold RV at r; subst r; exact ⟨.non, rfl, Nat.zero_le _⟩
    | bl b => cases e; unfold RV at r; subst r; exact ⟨.bl b, rfl, Nat.zero_le _⟩
    | int i => cases e; unfold RV at r; subst r; exact ⟨.int i, rfl, Nat.zero_le _⟩
    | str x =>
      dsimp only at e
      split at e
      · rename_i hs; cases e; unfold RV at r; subst r; exact ⟨.str x, hs, Nat.zero_le _⟩
      · cases e
    | tup xs =>
      dsimp only at e
      cases q : xs.mapM (snap n S) with
      | none => rw [q] at e; cases e
      | some ps =>
        rw [q] at e; cases e
        unfold RV at r; obtain ⟨a, vs, rfl, hq, rr⟩ := r
        obtain ⟨b1, b2, b3⟩ := snapL (fun d v p e r => snap_ok sr n d v p e r) xs vs ps q rr
        exact ⟨.tup hq b1, b2, Nat.succ_le_succ b3⟩
    | lst k =>
      dsimp only at e
      split at e
      · rename_i xs hx
        cases q : xs.mapM (snap n S) with
        | none => rw [q] at e; cases e
        | some ps =>
          rw [q] at e; cases e
          unfold RV at r; obtain ⟨a, rfl, hm⟩ := r
          obtain ⟨vs, hq, rr⟩ := sr.sq hm hx
          obtain ⟨b1, b2, b3⟩ := snapL (fun d v p e r => snap_ok sr n d v p e r) xs vs ps q rr
          exact ⟨.lst True.intro hq b1, b2, Nat.succ_le_succ b3⟩
      · cases e
    | dct k => cases e
    | ty k => cases e
    | rol k => cases e
def oEq : D → D → M D := fun x y S => match x, y with
  | .str a, .str b => .ok (.bl (decide (a = b))) S
  | _, _ => match snap 40 S x, snap 40 S y with
    | some p, some q => .ok (.bl (PyData.eqv p q)) S
    | _, _ => .bad
def oNe : D → D → M D := fun x y S => match x, y with
  | .str a, .str b => .ok (.bl (!decide (a = b))) S
  | _, _ => match snap 40 S x, snap 40 S y with
    | some p, some q => .ok (.bl (!PyData.eqv p q)) S
    | _, _ => .bad
theorem os_eq (hu : X.A.units + 64 < cLine) : OpS X.K (rAny X (compareOp .Eq)) oEq := by
  intro x y S d S' H μ v u Q e sr rx ry h
  unfold oEq at e
  split at e
  · rename_i a b
    cases e
    unfold RV at rx ry; subst rx ry
    refine ⟨_, op_eq, rfl, ?_⟩
    have z : decide (V.str a = V.str b) = decide (a = b) := by simp
    rw [z]
    exact h.self sr rv_bl
  · split at e
    · rename_i p q e1 e2
      cases e
      obtain ⟨a1, a2, a3⟩ := snap_ok sr 40 x v p e1 rx
      obtain ⟨b1, b2, b3⟩ := snap_ok sr 40 y u q e2 ry
      exact ⟨_, op_eqD hu, _, _, p, q, a1, b1, ⟨a2, by omega⟩, ⟨b2, by omega⟩, h.self sr rv_bl⟩
    · cases e
theorem os_ne (hu : X.A.units + 64 < cLine) : OpS X.K (rAny X (compareOp .NotEq)) oNe := by
  intro x y S d S' H μ v u Q e sr rx ry h
  unfold oNe at e
  split at e
  · rename_i a b
    cases e
    unfold RV at rx ry; subst rx ry
    refine ⟨_, op_ne, rfl, ?_⟩
    have z : decide (V.str a = V.str b) = decide (a = b) := by simp
    rw [z]
    exact h.self sr rv_bl
  · split at e
    · rename_i p q e1 e2
      cases e
      obtain ⟨a1, a2, a3⟩ := snap_ok sr 40 x v p e1 rx
      obtain ⟨b1, b2, b3⟩ := snap_ok sr 40 y u q e2 ry
      exact ⟨_, op_neD hu, _, _, p, q, a1, b1, ⟨a2, by omega⟩, ⟨b2, by omega⟩, h.self sr rv_bl⟩
    · cases e
def D.isNon : D → Bool
  | .non => true
  | _ => false
theorem isNon_v {K : PySem.W.Frag} {H : Hp} {μ : List Addr} {x : D} {v : V} (r : RV K H μ x v) : decide (v = .non) = x.isNon := by
  cases x with
  | non => unfold RV at r; subst r; rfl
  | bl _ => unfold RV at r; subst r; rfl
  | int _ => unfold RV at r; subst r; rfl
  | str _ => unfold RV at r; subst r; rfl
  | ty _ => unfold RV at r; subst r; rfl
  | tup _ => unfold RV at r; obtain ⟨_, _, rfl, _⟩ := r; rfl
  | lst _ => unfold RV at r; obtain ⟨_, rfl, _⟩ := r; rfl
  | dct _ => unfold RV at r; obtain ⟨_, rfl, _⟩ := r; rfl
  | rol _ => unfold RV at r; obtain ⟨_, _, rfl, _⟩ := r; rfl
def oIs : D → D → M D
  | x, .non => ret (.bl x.isNon)
  | .bl a, .bl b => ret (.bl (a == b))
  | _, _ => bad
def oIsNot : D → D → M D
  | x, .non => ret (.bl (!x.isNon))
  | .bl a, .bl b => ret (.bl (a != b))
  | _, _ => bad
theorem os_is : OpS X.K (rAny X (compareOp .Is)) oIs := by
  intro x y S d S' H μ v u Q e sr rx ry h
  unfold oIs at e
  split at e
  · obtain ⟨rfl, rfl⟩ := ret_ok e
    unfold RV at ry
    exact ⟨_, op_isN, ry, by rw [isNon_v rx]; exact h.self sr rv_bl⟩
  · obtain ⟨rfl, rfl⟩ := ret_ok e
    unfold RV at rx ry; subst rx ry
    exact ⟨_, op_is_bl, _, _, rfl, rfl, h.self sr rv_bl⟩
  · cases e
theorem os_isNot : OpS X.K (rAny X (compareOp .IsNot)) oIsNot := by
  intro x y S d S' H μ v u Q e sr rx ry h
  unfold oIsNot at e
  split at e
  · obtain ⟨rfl, rfl⟩ := ret_ok e
    unfold RV at ry
    exact ⟨_, op_notN, ry, by rw [isNon_v rx]; exact h.self sr rv_bl⟩
  · obtain ⟨rfl, rfl⟩ := ret_ok e
    unfold RV at rx ry; subst rx ry
    exact ⟨_, op_isnot_bl, _, _, rfl, rfl, h.self sr rv_bl⟩
  · cases e
def flat : D → Option V
  | .non => some .non
  | .bl b => some (.bl b)
  | .int i => some (.int i)
  | .str x => some (.str x)
  | _ => none
theorem flat_v {K : PySem.W.Frag} {H : Hp} {μ : List Addr} {x : D} {v w : V} (e : flat x = some w) (r : RV K H μ x v) : v = w := by
  cases x with
  | non => cases e; unfold RV at r; exact r
  | bl _ => cases e; unfold RV at r; exact r
  | int _ => cases e; unfold RV at r; exact r
  | str _ => cases e; unfold RV at r; exact r
  | _ => cases e
theorem flats_v {K : PySem.W.Frag} {H : Hp} {μ : List Addr} : ∀ {ds : List D} {vs ws : List V}, ds.mapM flat = some ws → RVs K H μ ds vs → vs = ws
  | [], vs, ws, e, r => by simp at e; subst e; exact r.nil_inv
  | d :: ds, vs, ws, e, r => by
    obtain ⟨v, us, rfl, r1, r2⟩ := r.cons_inv
    rw [List.mapM_cons] at e
    cases q : flat d with
    | none => rw [q] at e; cases e
    | some w =>
      cases q2 : ds.mapM flat with
      | none => rw [q, q2] at e; cases e
      | some ws' =>
        rw [q, q2] at e; cases e
        rw [flat_v q r1, flats_v q2 r2]
def keyOf : D → Option Key
  | .int i => some (.inl i)
  | .str x => some (.inr x)
  | _ => none
theorem keyOf_v {K : PySem.W.Frag} {H : Hp} {μ : List Addr} {x : D} {v : V} {k : Key} (e : keyOf x = some k) (r : RV K H μ x v) : v = kV k := by
  cases x with
  | int _ => cases e; unfold RV at r; exact r
  | str _ => cases e; unfold RV at r; exact r
  | _ => cases e
def valD {κ : Type} [DecidableEq κ] (kvs : List (κ × D)) (k : κ) : Option D := (kvs.find? fun kv => decide (kv.1 = k)).map (·.2)
def putD {κ : Type} [DecidableEq κ] (kvs : List (κ × D)) (k : κ) (v : D) : List (κ × D) :=
  if (kvs.any fun kv => decide (kv.1 = k)) = true then kvs.map (fun kv => if kv.1 = k then (kv.1, v) else kv) else kvs ++ [(k, v)]
section
variable {κ : Type} [DecidableEq κ] {K : PySem.W.Frag} {H : Hp} {μ : List Addr}
theorem RKs.cons_inv {p : κ × D} {kvs : List (κ × D)} {ws : List (κ × V)} (h : RKs K H μ (p :: kvs) ws) : ∃ q us, ws = q :: us ∧ p.1 = q.1 ∧ RV K H μ p.2 q.2 ∧ RKs K H μ kvs us := by
  obtain ⟨h1, h2⟩ := h
  rw [List.map_cons] at h1 h2
  obtain ⟨v, vs, e, r1, r2⟩ := h2.cons_inv
  cases ws with
  | nil => simp at h1
  | cons q us =>
    rw [List.map_cons] at h1 e
    cases e
    rw [List.cons.injEq] at h1
    exact ⟨q, us, rfl, h1.1, r1, h1.2, r2⟩
theorem RKs.val {k : κ} : ∀ {kvs : List (κ × D)} {ws : List (κ × V)}, RKs K H μ kvs ws → (∀ d, valD kvs k = some d → ∃ v, valV ws k = some v ∧ RV K H μ d v) ∧ (valD kvs k = none → valV ws k = none)
  | [], ws, h => by
    have : ws = [] := by have := h.1; cases ws with | nil => rfl | cons a b => simp at this
    subst this
    exact ⟨fun d e => (by cases e), fun _ => rfl⟩
  | p :: kvs, ws, h => by
    obtain ⟨q, us, rfl, e1, r1, r2⟩ := h.cons_inv
    obtain ⟨i1, i2⟩ := RKs.val (k := k) r2
    by_cases hk : p.1 = k
    · have e2 : valD (p :: kvs) k = some p.2 := by simp [valD, List.find?_cons, hk]
      rw [e2, valV_pos (e1 ▸ hk)]
      exact ⟨fun d e => by cases e; exact ⟨_, rfl, r1⟩, fun e => by cases e⟩
    · have e2 : valD (p :: kvs) k = valD kvs k := by simp [valD, List.find?_cons, hk]
      rw [e2, valV_neg (e1 ▸ hk)]
      exact ⟨i1, i2⟩
theorem RKs.nil : RKs K H μ ([] : List (κ × D)) [] := ⟨rfl, RVs.nil⟩
theorem RKs.cons {k : κ} {d : D} {v : V} {kvs : List (κ × D)} {ws : List (κ × V)} (r : RV K H μ d v) (h : RKs K H μ kvs ws) : RKs K H μ ((k, d) :: kvs) ((k, v) :: ws) := ⟨by rw [List.map_cons, List.map_cons, h.1], by rw [List.map_cons, List.map_cons]; exact .cons r h.2⟩
theorem RKs.any {k : κ} : ∀ {kvs : List (κ × D)} {ws : List (κ × V)}, RKs K H μ kvs ws → (kvs.any fun kv => decide (kv.1 = k)) = (ws.any fun kv => decide (kv.1 = k))
  | [], ws, h => by
    have : ws = [] := by have := h.1; cases ws with | nil => rfl | cons a b => simp at this
    subst this; rfl
  | p :: kvs, ws, h => by
    obtain ⟨q, us, rfl, e1, r1, r2⟩ := h.cons_inv
    rw [List.any_cons, List.any_cons, RKs.any r2, e1]
theorem RKs.mapSet {k : κ} {d : D} {v : V} (rv : RV K H μ d v) : ∀ {kvs : List (κ × D)} {ws : List (κ × V)}, RKs K H μ kvs ws → RKs K H μ (kvs.map (fun kv => if kv.1 = k then (kv.1, d) else kv)) (ws.map (fun kv => if kv.1 = k then (kv.1, v) else kv))
  | [], ws, h => by
    have : ws = [] := by have := h.1; cases ws with | nil => rfl | cons a b => simp at this
    subst this; exact .nil
  | p :: kvs, ws, h => by
    obtain ⟨q, us, rfl, e1, r1, r2⟩ := h.cons_inv
    rw [List.map_cons, List.map_cons]
    obtain ⟨p1, p2⟩ := p
    obtain ⟨q1, q2⟩ := q
    dsimp only at e1 r1 ⊢
    subst e1
    by_cases hk : p1 = k
    · rw [if_pos hk, if_pos hk]; exact .cons rv (RKs.mapSet rv r2)
    · rw [if_neg hk, if_neg hk]; exact .cons r1 (RKs.mapSet rv r2)
theorem RKs.append {as : List (κ × D)} {bs : List (κ × V)} {cs : List (κ × D)} {ds : List (κ × V)} (h : RKs K H μ as bs) (g : RKs K H μ cs ds) : RKs K H μ (as ++ cs) (bs ++ ds) := ⟨by rw [List.map_append, List.map_append, h.1, g.1], by rw [List.map_append, List.map_append]; exact h.2.append g.2⟩
theorem RKs.put {k : κ} {d : D} {v : V} (rv : RV K H μ d v) {kvs : List (κ × D)} {ws : List (κ × V)} (h : RKs K H μ kvs ws) : RKs K H μ (putD kvs k d) (putK ws k v) := by
  unfold putD putK
  rw [h.any (k := k)]
  by_cases hc : (ws.any fun kv => decide (kv.1 = k)) = true
  · rw [if_pos hc, if_pos hc]; exact h.mapSet rv
  · rw [if_neg hc, if_neg hc]; exact h.append (.cons rv .nil)
theorem RKs.len {kvs : List (κ × D)} {ws : List (κ × V)} (h : RKs K H μ kvs ws) : kvs.length = ws.length := by
  have := congrArg List.length h.1
  simpa using this
end
def dictAt (S : Store) (n : Nat) (x : D) : Option (Option D) := match S[n]? with
  | some (.dk kvs) => (keyOf x).map fun k => valD kvs k
  | _ => none
theorem dictAt_ok {K : PySem.W.Frag} {H : Hp} {μ : List Addr} {S : Store} {n : Nat} {x : D} {v : V} {a : Addr} {r : Option D} (sr : SR K μ S H) (e : dictAt S n x = some r) (hm : μ[n]? = some a) (rx : RV K H μ x v) : ∃ o, DGet H a v o ∧ (∀ d, r = some d → ∃ w, o = some w ∧ RV K H μ d w) ∧ (r = none → o = none) := by
  unfold dictAt at e
  split at e
  · rename_i kvs ho
    cases q : keyOf x with
    | none => rw [q] at e; cases e
    | some k =>
      rw [q] at e; cases e
      obtain ⟨ws, hw, rr⟩ := sr.get hm ho
      have := keyOf_v q rx
      subst this
      exact ⟨valV ws k, DGet.k hw, (rr.val (k := k)).1, (rr.val (k := k)).2⟩
  · cases e
def oIn (neg : Bool) : D → D → M D := fun x y S => match y with
  | .dct n => match dictAt S n x with
    | some o => .ok (.bl (if neg then !o.isSome else o.isSome)) S
    | none => .bad
  | _ => match seqAt S y, flat x with
    | some ys, some v => match ys.mapM flat with
      | some vs => .ok (.bl (if neg then !inV v vs else inV v vs)) S
      | none => .bad
    | some ys, none => match snap 40 S x, ys.mapM (snap 40 S) with
      | some p, some ps => .ok (.bl (if neg then !(ps.any fun d => PyData.eqv d p) else ps.any fun d => PyData.eqv d p)) S
      | _, _ => .bad
    | _, _ => .bad
theorem flat_flatV {x : D} {v : V} (h : flat x = some v) : flatV v = true := by
  cases x <;> first | (cases h; rfl) | cases h
theorem flats_flatV : ∀ {ds : List D} {vs : List V}, ds.mapM flat = some vs → vs.all flatV = true
  | [], vs, e => by simp at e; subst e; rfl
  | d :: ds, vs, e => by
    rw [List.mapM_cons] at e
    cases q : flat d with
    | none => rw [q] at e; cases e
    | some w =>
      cases q2 : ds.mapM flat with
      | none => rw [q, q2] at e; cases e
      | some ws' =>
        rw [q, q2] at e; cases e
        rw [List.all_cons, flat_flatV q, flats_flatV q2]; rfl
theorem op_din (hu : X.A.units + 1 < cLine) : OpR X (compareOp .In) (fun y x H Q => ∃ a o, x = .ref a ∧ DGet H a y o ∧ Q (.bl o.isSome) H) := by
  intro pins s σ H y x v u Q I ry rx h
  obtain ⟨a, o, rfl, g, q⟩ := h
  obtain rfl : u = Value.ref a := rx
  exact d_in hu I g ry fun s3 I3 => ⟨.bl o.isSome, H, I3, rfl, q⟩
theorem op_dnotin (hu : X.A.units + 1 < cLine) : OpR X (compareOp .NotIn) (fun y x H Q => ∃ a o, x = .ref a ∧ DGet H a y o ∧ Q (.bl (!o.isSome)) H) := by
  intro pins s σ H y x v u Q I ry rx h
  obtain ⟨a, o, rfl, g, q⟩ := h
  obtain rfl : u = Value.ref a := rx
  exact d_notIn hu I g ry fun s3 I3 => ⟨.bl (!o.isSome), H, I3, rfl, q⟩
theorem okAll {n : Nat} : ∀ {ps : List PyData}, PyData.canLayAll0 ps = true → PyData.depthAll ps ≤ n → ∀ d ∈ ps, d.canLay0 = true ∧ d.depth ≤ n
  | [], _, _, d, h => by cases h
  | p :: ps, h1, h2, d, h => by
    replace h1 : (PyData.canLay0 p && PyData.canLayAll0 ps) = true := h1
    replace h2 : max p.depth (PyData.depthAll ps) ≤ n := h2
    rw [Bool.and_eq_true] at h1
    rcases List.mem_cons.mp h with rfl | h
    · exact ⟨h1.1, by omega⟩
    · exact okAll h1.2 (by omega) d h
theorem os_in_core {neg : Bool} {op : CmpOp} (h1 : OpR X (compareOp op) (rIn X.K neg)) (h2 : OpR X (compareOp op) (fun y x H Q => ∃ a o, x = .ref a ∧ DGet H a y o ∧ Q (.bl (if neg then !o.isSome else o.isSome)) H))
    (h3 : OpR X (compareOp op) (rInG X.K neg))
    : OpS X.K (rAny X (compareOp op)) (oIn neg) := by
  intro x y S d S' H μ v u Q e sr rx ry h
  unfold oIn at e
  split at e
  · rename_i n
    split at e
    · rename_i o ho
      cases e
      unfold RV at ry
      obtain ⟨a, rfl, hm⟩ := ry
      obtain ⟨o', g, g1, g2⟩ := dictAt_ok sr ho hm rx
      have e2 : o'.isSome = o.isSome := by
        cases o with
        | none => simp [g2 rfl]
        | some d => obtain ⟨w, rfl, _⟩ := g1 d rfl; rfl
      exact ⟨_, h2, a, o', rfl, g, by rw [e2]; exact h.self sr rv_bl⟩
    · cases e
  · split at e
    · rename_i ys w e1 e2
      split at e
      · rename_i ws e3
        cases e
        obtain ⟨a, vs, rfl, hq, rr⟩ := sr.seq ry e1
        have z1 := flat_v e2 rx
        have z2 := flats_v e3 rr
        subst z1 z2
        exact ⟨_, h1, a, vs, rfl, hq, flat_flatV e2, flats_flatV e3, h.self sr rv_bl⟩
      · cases e
    · rename_i ys e1 e2
      split at e
      · rename_i p ps hp hps
        cases e
        obtain ⟨a, vs, rfl, hq, rr⟩ := sr.seq ry e1
        obtain ⟨a1, a2, a3⟩ := snap_ok sr 40 x v p hp rx
        obtain ⟨b1, b2, b3⟩ := snapL (fun d v p e r => snap_ok sr 40 d v p e r) ys vs ps hps rr
        exact ⟨_, h3, a, vs, _, _, p, ps, rfl, hq, a1, ⟨a2, by omega⟩, b1, fun d hd => ⟨(okAll b2 b3 d hd).1, by have := (okAll b2 b3 d hd).2; omega⟩, h.self sr rv_bl⟩
      · cases e
    · cases e
theorem os_in (hu : X.A.units + 64 < cLine) : OpS X.K (rAny X (compareOp .In)) (oIn false) := os_in_core op_in_seq (op_din (by omega))
  (op_inG hu)
theorem os_notIn (hu : X.A.units + 64 < cLine) : OpS X.K (rAny X (compareOp .NotIn)) (oIn true) := os_in_core op_notIn_seq (op_dnotin (by omega))
  (op_notInG hu)
end
end L2
namespace L2
open PySem PySem.Spec PyProof.Rows
section
variable {X : Cx}
theorem ix_dict (hu : X.A.units + 1 < cLine) : IxR X (fun x y H Q => ∃ a v, x = .ref a ∧ DGet H a y (some v) ∧ Q v H) := by
  intro value slice pins s σ H x y v u Q I rx ry h hs
  obtain ⟨a, z, rfl, g, q⟩ := h
  obtain rfl : v = Value.ref a := rx
  have hT := dict_typeIs I g
  have h₂ : wpAny (model X.prog X.w) X.A (getItem (.ref a) u) (EP X pins σ Q) X.xe s := d_getItem hu I g ry fun w' s3 I3 rw' => ⟨z, H, I3, rw', q⟩
  unfold subscriptTail
  refine wpAny_bind ?_
  rw [getitemInPython_of_ne hT.not_modules]
  refine wpAny_bind (wpAny_specialOf hT PySem.F.slot_dict_getitem.lookup ?_)
  have fin : wpAny (model X.prog X.w) X.A (subscripted slice false (.ref a) u) (fun r s₃ => wpAny (model X.prog X.w) X.A (letTemporaryGo value (.ref a) r >>= fun _ => pure r) (EP X pins σ Q) X.xe s₃) X.xe s := by
    rw [hs]
    exact wpAny_operating (wpAny_mono h₂ (fun r s₃ h₃ => wpAny_bind (wpAny_letTemporaryGo (wpAny_pure h₃))) fun _ _ x => x)
  exact wpAny_pure (wpAny_bind fin)
def oIx : D → D → M D := fun x i S => match x with
  | .dct n => match dictAt S n i with
    | some (some d) => .ok d S
    | _ => .bad
  | _ => match seqAt S x, i with
    | some xs, .int j => match atI xs j with
      | some d => .ok d S
      | none => .bad
    | _, _ => .bad
theorem RVs.at {K : PySem.W.Frag} {H : Hp} {μ : List Addr} {ds : List D} {vs : List V} {i : Int} {d : D} (r : RVs K H μ ds vs) (e : atI ds i = some d) : ∃ v, atI vs i = some v ∧ RV K H μ d v := by
  unfold atI at e ⊢
  rw [← r.len]
  cases q : ixN ds.length i with
  | none => rw [q] at e; cases e
  | some j =>
    rw [q] at e
    obtain ⟨v, e1, e2⟩ := r.get (i := j) (d := d) e
    exact ⟨v, e1, e2⟩
theorem os_ix (hu : X.A.units + 1 < cLine) : OpS X.K (ixAnyR X) oIx := by
  intro x y S d S' H μ v u Q e sr rx ry h
  unfold oIx at e
  split at e
  · rename_i n
    split at e
    · rename_i d' ho
      cases e
      unfold RV at rx
      obtain ⟨a, rfl, hm⟩ := rx
      obtain ⟨o, g, g1, _⟩ := dictAt_ok sr ho hm ry
      obtain ⟨w, rfl, rw'⟩ := g1 _ rfl
      exact ⟨_, ix_dict hu, a, w, rfl, g, h.self sr rw'⟩
    · cases e
  · split at e
    · rename_i xs j e1
      split at e
      · rename_i d' e2
        cases e
        obtain ⟨a, vs, rfl, hq, rr⟩ := sr.seq rx e1
        obtain ⟨w, e3, rw'⟩ := rr.at e2
        unfold RV at ry
        subst ry
        rcases hq with hq | hq
        · exact ⟨_, ix_list, a, vs, j, w, rfl, rfl, hq, e3, h.self sr rw'⟩
        · exact ⟨_, ix_tup, a, vs, j, w, rfl, rfl, hq, e3, h.self sr rw'⟩
      · cases e
    · cases e
def cutD (xs : List D) (lo hi : Option Int) : List D := (xs.drop (HT.sIx xs.length 0 lo)).take (HT.sIx xs.length xs.length hi - HT.sIx xs.length 0 lo)
def oSl : D → Option Int → Option Int → M D := fun x lo hi S => match x with
  | .tup xs => .ok (.tup (cutD xs lo hi)) S
  | .lst n => match lstAt S n with
    | some xs => .ok (.lst S.length) (S ++ [.lst (cutD xs lo hi)])
    | none => .bad
  | _ => .bad
theorem RVs.cut {K : PySem.W.Frag} {H : Hp} {μ : List Addr} {ds : List D} {vs : List V} (r : RVs K H μ ds vs) (lo hi : Option Int) : RVs K H μ (cutD ds lo hi) (cutV vs lo hi) := by
  unfold cutD cutV
  rw [r.len]
  exact (r.drop _).take _
theorem ss_sl : SlS X.K (slAnyR X) oSl := by
  intro x lo hi S d S' H μ v Q e sr rx h
  unfold oSl at e
  split at e
  · cases e
    unfold RV at rx
    obtain ⟨p, vs, rfl, q, rr⟩ := rx
    exact ⟨_, sl_tup2, p, vs, rfl, q, fun p2 H1 sm sq => h.oldT sr sm sq (rr.cut lo hi)⟩
  · split at e
    · rename_i xs e1
      cases e
      unfold RV at rx
      obtain ⟨a, rfl, hm⟩ := rx
      obtain ⟨vs, q, rr⟩ := sr.sq hm e1
      exact ⟨_, sl_list, a, vs, rfl, q, fun p hp => h.newL sr hp (rr.cut lo hi)⟩
    · cases e
  · cases e
def oRev : D → D → M D := fun x y S => match x, y with
  | .tup xs, .int j => if j = -1 then .ok (.tup xs.reverse) S else .bad
  | _, _ => .bad
theorem RVs.reverse {K : PySem.W.Frag} {H : Hp} {μ : List Addr} : ∀ {ds : List D} {vs : List V}, RVs K H μ ds vs → RVs K H μ ds.reverse vs.reverse
  | [], vs, r => by rw [r.nil_inv]; exact .nil
  | d :: ds, vs, r => by
    obtain ⟨v, ws, rfl, r1, r2⟩ := r.cons_inv
    rw [List.reverse_cons, List.reverse_cons]
    exact r2.reverse.append (.cons r1 .nil)
theorem se_rev {a b : Expr} {ca cb : C} {p2 pos : Pos} (ha : PE X a (tOf X.K ca)) (hb : PE X b (tOf X.K cb)) : PE X (.Subscript a (.Slice none none (some b) p2) pos) (tOf X.K (cBin oRev ca cb)) := (pe_rev ha hb).weak (by
  rintro σ H Q ⟨μ, ρ, S, d, S', sr, re, e, y⟩
  obtain ⟨x, S1, e1, e⟩ := bnd_ok e
  obtain ⟨z, S2, e2, e⟩ := bnd_ok e
  refine ⟨μ, ρ, S, x, S1, sr, re, e1, fun v H1 μ1 sr1 st1 r1 => ⟨μ1, ρ, S1, z, S2, sr1, re.up st1, e2, fun u H2 μ2 sr2 st2 r2 => ?_⟩⟩
  unfold oRev at e
  split at e
  · split at e
    · rename_i hj
      cases e
      have rx := RV.up st2.tk st2.ext _ _ r1
      unfold RV at rx r2
      obtain ⟨a, xs, rfl, q, rr⟩ := rx
      subst r2 hj
      exact ⟨rfl, a, xs, rfl, q, fun p hp => (y.shift (st1.trans st2 sr2.nd)).newT sr2 hp rr.reverse⟩
    · cases e
  · cases e)
def fLen : List D → M D := fun xs S => match xs with
  | [.str x] => if x.length ≤ lim then .ok (.int x.length) S else .bad
  | [.dct n] => .bad
  | [x] => match seqAt S x with
    | some ys => .ok (.int ys.length) S
    | none => .bad
  | _ => .bad
theorem RVs.one {K : PySem.W.Frag} {H : Hp} {μ : List Addr} {d : D} {vs : List V} (h : RVs K H μ [d] vs) : ∃ v, vs = [v] ∧ RV K H μ d v := by
  obtain ⟨v, ws, rfl, r1, r2⟩ := h.cons_inv
  rw [r2.nil_inv]
  exact ⟨v, rfl, r1⟩
theorem RVs.two {K : PySem.W.Frag} {H : Hp} {μ : List Addr} {d e : D} {vs : List V} (h : RVs K H μ [d, e] vs) : ∃ v u, vs = [v, u] ∧ RV K H μ d v ∧ RV K H μ e u := by
  obtain ⟨v, ws, rfl, r1, r2⟩ := h.cons_inv
  obtain ⟨u, rfl, r3⟩ := r2.one
  exact ⟨v, u, rfl, r1, r3⟩
def fRepr : List D → M D := fun xs S => match xs with
  | [.int i] => if i.natAbs < 1000000000000000000 then .ok (.str (toString i)) S else .bad
  | [.tup ys] => match snap 40 S (.tup ys) with
    | some p => if p.showable = true ∧ p.hasDict = false ∧ p.shown.length ≤ sizeLine then .ok (.str p.shown) S else .bad
    | none => .bad
  | [.lst k] => match snap 40 S (.lst k) with
    | some p => if p.showable = true ∧ p.hasDict = false ∧ p.shown.length ≤ sizeLine then .ok (.str p.shown) S else .bad
    | none => .bad
  | _ => .bad
theorem cs_repr (hg : X.A.guards = some []) (hu : X.A.units + 64 < cLine) : CallS X.K (cAny X (.builtin "repr")) fRepr := by
  intro xs S d S' H μ vs Q e sr rx h
  unfold fRepr at e
  split at e
  · rename_i i
    split at e
    · rename_i hl
      cases e
      obtain ⟨v, rfl, r⟩ := rx.one
      unfold RV at r; subst r
      refine ⟨_, call_reprI, i, rfl, ?_, h.self sr rv_str⟩
      by_cases h0 : i.natAbs = 0
      · rw [h0]; decide
      · exact (Nat.log2_lt h0).mpr (Nat.lt_trans hl (by decide))
    · cases e
  · rename_i ys
    split at e
    · rename_i p hp
      split at e
      · rename_i hc
        cases e
        obtain ⟨v, rfl, r⟩ := rx.one
        obtain ⟨a1, a2, a3⟩ := snap_ok sr 40 _ v p hp r
        unfold RV at r; obtain ⟨b, ws, rfl, _⟩ := r
        exact ⟨_, call_reprD hg hu, b, _, p, rfl, a1, hc.1, hc.2.1, by omega, hc.2.2, h.self sr rv_str⟩
      · cases e
    · cases e
  · rename_i k
    split at e
    · rename_i p hp
      split at e
      · rename_i hc
        cases e
        obtain ⟨v, rfl, r⟩ := rx.one
        obtain ⟨a1, a2, a3⟩ := snap_ok sr 40 _ v p hp r
        unfold RV at r; obtain ⟨b, rfl, _⟩ := r
        exact ⟨_, call_reprD hg hu, b, _, p, rfl, a1, hc.1, hc.2.1, by omega, hc.2.2, h.self sr rv_str⟩
      · cases e
    · cases e
  · cases e
theorem cs_len : CallS X.K (cAny X (.builtin "len")) fLen := by
  intro xs S d S' H μ vs Q e sr rx h
  unfold fLen at e
  split at e
  · split at e
    · rename_i hl; cases e
      obtain ⟨v, rfl, r⟩ := rx.one
      unfold RV at r; subst r
      exact ⟨_, call_len_str, _, rfl, lim_le hl, h.self sr rv_int⟩
    · cases e
  · cases e
  · split at e
    · rename_i ys e1
      cases e
      obtain ⟨v, rfl, r⟩ := rx.one
      obtain ⟨a, vs, rfl, hq, rr⟩ := sr.seq r e1
      exact ⟨_, call_len_seq, a, vs, rfl, hq, by rw [← rr.len]; exact h.self sr rv_int⟩
    · cases e
  · cases e
def fMin : List D → M D := fun xs S => match xs with
  | [.int i, .int j] => .ok (.int (if j < i then j else i)) S
  | _ => .bad
def fMax : List D → M D := fun xs S => match xs with
  | [.int i, .int j] => .ok (.int (if j > i then j else i)) S
  | _ => .bad
theorem cs_min (hc : X.calm = true) : CallS X.K (cAny X (.builtin "min")) fMin := by
  intro xs S d S' H μ vs Q e sr rx h
  unfold fMin at e
  split at e
  · cases e
    obtain ⟨v, u, rfl, r1, r2⟩ := rx.two
    unfold RV at r1 r2; subst r1 r2
    exact ⟨_, call_min2 hc, _, _, rfl, h.self sr rv_int⟩
  · cases e
theorem cs_max (hc : X.calm = true) : CallS X.K (cAny X (.builtin "max")) fMax := by
  intro xs S d S' H μ vs Q e sr rx h
  unfold fMax at e
  split at e
  · cases e
    obtain ⟨v, u, rfl, r1, r2⟩ := rx.two
    unfold RV at r1 r2; subst r1 r2
    exact ⟨_, call_max2 hc, _, _, rfl, h.self sr rv_int⟩
  · cases e
def fList : List D → M D := fun xs S => match xs with
  | [x] => match seqAt S x with
    | some ys => .ok (.lst S.length) (S ++ [.lst ys])
    | none => .bad
  | _ => .bad
theorem cs_list : CallS X.K (cAny X (.type "list")) fList := by
  intro xs S d S' H μ vs Q e sr rx h
  unfold fList at e
  split at e
  · split at e
    · rename_i ys e1
      cases e
      obtain ⟨v, rfl, r⟩ := rx.one
      obtain ⟨a, vs, rfl, hq, rr⟩ := sr.seq r e1
      exact ⟨_, call_list_of, a, vs, rfl, hq, fun l hl => h.newL sr hl rr⟩
    · cases e
  · cases e
def fTuple : List D → M D := fun xs S => match xs with
  | [.tup ys] => .ok (.tup ys) S
  | [.lst n] => match lstAt S n with
    | some ys => .ok (.tup ys) S
    | none => .bad
  | _ => .bad
theorem cs_tuple : CallS X.K (cAny X (.type "tuple")) fTuple := by
  intro xs S d S' H μ vs Q e sr rx h
  unfold fTuple at e
  split at e
  · cases e
    obtain ⟨v, rfl, r⟩ := rx.one
    have r' := r
    unfold RV at r'; obtain ⟨p, ws, rfl, q, rr⟩ := r'
    exact ⟨_, call_tuple_of, p, ws, rfl, .inr ⟨q, h.self sr r⟩⟩
  · split at e
    · rename_i ys e1
      cases e
      obtain ⟨v, rfl, r⟩ := rx.one
      unfold RV at r; obtain ⟨a, rfl, hm⟩ := r
      obtain ⟨ws, q, rr⟩ := sr.sq hm e1
      exact ⟨_, call_tuple_of, a, ws, rfl, .inl ⟨q, fun l hl => h.newT sr hl rr⟩⟩
    · cases e
  · cases e
def fInt : List D → M D := fun xs S => match xs with
  | [.int i] => .ok (.int i) S
  | [.bl b] => .ok (.int (if b then 1 else 0)) S
  | _ => .bad
theorem cs_int : CallS X.K (cAny X (.type "int")) fInt := by
  intro xs S d S' H μ vs Q e sr rx h
  unfold fInt at e
  split at e
  · cases e
    obtain ⟨v, rfl, r⟩ := rx.one
    unfold RV at r; subst r
    exact ⟨_, call_int1, .inl ⟨_, rfl, h.self sr rv_int⟩⟩
  · cases e
    obtain ⟨v, rfl, r⟩ := rx.one
    unfold RV at r; subst r
    exact ⟨_, call_int1, .inr ⟨_, rfl, h.self sr rv_int⟩⟩
  · cases e
def dictK (S : Store) (n : Nat) : Option String := match S[n]? with
  | some (.dk _) => some "dict"
  | _ => none
def kindD (S : Store) : D → Option String
  | .non => some "NoneType"
  | .bl _ => some "bool"
  | .int _ => some "int"
  | .str _ => some "str"
  | .tup _ => some "tuple"
  | .lst n => if (lstAt S n).isSome then some "list" else none
  | .dct n => dictK S n
  | _ => none
def fInst : List D → M D := fun xs S => match xs with
  | [x, .ty T] => match kindD S x with
    | some t => if T ∈ ["bool", "int", "tuple", "list", "str", "dict"] then .ok (.bl (kOf t T)) S else .bad
    | none => .bad
  | _ => .bad
theorem kind_ok {K : PySem.W.Frag} {H : Hp} {μ : List Addr} {S : Store} {x : D} {v : V} {t : String} (sr : SR K μ S H) (e : kindD S x = some t) (r : RV K H μ x v) : Ty2 K H v t ∧ t ∈ ["NoneType", "bool", "int", "str", "tuple", "list", "dict"] := by
  cases x with
  | non => cases e; unfold RV at r; subst r; exact ⟨.non, by decide⟩
  | bl b => cases e; unfold RV at r; subst r; exact ⟨.bl b, by decide⟩
  | int i => cases e; unfold RV at r; subst r; exact ⟨.int i, by decide⟩
  | str i => cases e; unfold RV at r; subst r; exact ⟨.str i, by decide⟩
  | tup xs => cases e; unfold RV at r; obtain ⟨p, vs, rfl, q, _⟩ := r; exact ⟨.tup q, by decide⟩
  | lst n =>
    have e : (if (lstAt S n).isSome then some "list" else none) = some t := e
    split at e
    · rename_i hs
      cases e
      obtain ⟨xs, hx⟩ := Option.isSome_iff_exists.mp hs
      unfold RV at r; obtain ⟨a, rfl, hm⟩ := r
      obtain ⟨vs, q, _⟩ := sr.sq hm hx
      exact ⟨.lst q, by decide⟩
    · cases e
  | dct n =>
    have e : dictK S n = some t := e
    unfold dictK at e
    split at e
    · rename_i kvs ho
      cases e
      unfold RV at r; obtain ⟨a, rfl, hm⟩ := r
      obtain ⟨ws, hw, _⟩ := sr.get hm ho
      exact ⟨.dk hw, by decide⟩
    · cases e
  | ty n => cases e
  | rol n => cases e
theorem cs_inst : CallS X.K (cAny X (.builtin "isinstance")) fInst := by
  intro xs S d S' H μ vs Q e sr rx h
  unfold fInst at e
  split at e
  · rename_i x T
    split at e
    · rename_i t e1
      split at e
      · rename_i hT
        cases e
        obtain ⟨v, u, rfl, r1, r2⟩ := rx.two
        unfold RV at r2; subst r2
        obtain ⟨k1, k2⟩ := kind_ok sr e1 r1
        exact ⟨_, call_isinst2, v, t, T, _, rfl, k1, kit_all2 X.K t k2 T hT, h.self sr rv_bl⟩
      · cases e
    · cases e
  · cases e
def boolsOf : List D → Option (List Bool)
  | [] => some []
  | .bl b :: r => (boolsOf r).map (b :: ·)
  | _ :: _ => none
theorem boolsOf_vs {K : PySem.W.Frag} {H : Hp} {μ : List Addr} : ∀ {ds : List D} {ns : List Bool} {vs : List V}, boolsOf ds = some ns → RVs K H μ ds vs → vs = ns.map V.bl
  | [], ns, vs, e, r => by cases e; rw [r.nil_inv]; rfl
  | .bl i :: ds, ns, vs, e, r => by
    obtain ⟨v, ws, rfl, r1, r2⟩ := r.cons_inv
    unfold boolsOf at e
    cases q : boolsOf ds with
    | none => rw [q] at e; cases e
    | some ms =>
      rw [q] at e; cases e
      unfold RV at r1; subst r1
      rw [boolsOf_vs q r2]; rfl
  | .non :: ds, ns, vs, e, r => by cases e
  | .int _ :: ds, ns, vs, e, r => by cases e
  | .str _ :: ds, ns, vs, e, r => by cases e
  | .ty _ :: ds, ns, vs, e, r => by cases e
  | .tup _ :: ds, ns, vs, e, r => by cases e
  | .lst _ :: ds, ns, vs, e, r => by cases e
  | .dct _ :: ds, ns, vs, e, r => by cases e
  | .rol _ :: ds, ns, vs, e, r => by cases e
def fBools (g : List Bool → Bool) : List D → M D := fun xs S => match xs with
  | [.tup ys] => match intsOf ys with
    | some ns => .ok (.bl (g (ns.map (· != 0)))) S
    | none => .bad
  | [.lst n] => match (lstAt S n).bind boolsOf with
    | some bs => .ok (.bl (g bs)) S
    | none => .bad
  | _ => .bad
theorem cs_bools {id : String} {g : List Bool → Bool} (hr : CallR X (.builtin id) (fun vs H Q => ∃ (p : Addr) (bs : List Bool), vs = [.ref p] ∧ SqL X.K H p (bs.map V.bl) ∧ Q (.bl (g bs)) H)) (hr2 : CallR X (.builtin id) (fun vs H Q => ∃ (p : Addr) (ns : List Int), vs = [.ref p] ∧ SqT X.K H p (ns.map V.int) ∧ Q (.bl (g (ns.map (· != 0)))) H)) : CallS X.K (cAny X (.builtin id)) (fBools g) := by
  intro xs S d S' H μ vs Q e sr rx h
  unfold fBools at e
  split at e
  · split at e
    · rename_i ns e1
      cases e
      obtain ⟨v, rfl, r⟩ := rx.one
      unfold RV at r; obtain ⟨a, ws, rfl, q, rr⟩ := r
      have z := intsOf_vs e1 rr
      subst z
      exact ⟨_, hr2, a, ns, rfl, q, h.self sr rv_bl⟩
    · cases e
  · split at e
    · rename_i bs e1
      cases e
      obtain ⟨ys, e2, e3⟩ := Option.bind_eq_some_iff.mp e1
      obtain ⟨v, rfl, r⟩ := rx.one
      unfold RV at r; obtain ⟨a, rfl, hm⟩ := r
      obtain ⟨ws, q, rr⟩ := sr.sq hm e2
      have z := boolsOf_vs e3 rr
      subst z
      exact ⟨_, hr, a, bs, rfl, q, h.self sr rv_bl⟩
    · cases e
  · cases e
theorem CallR.imp {f : Value} {r r' : List V → Hp → VK → Prop} (h : CallR X f r) (w : ∀ vs H Q, r' vs H Q → r vs H Q) : CallR X f r' := fun pins s σ H xs us Q I rv q => h pins s σ H xs us Q I rv (w _ _ _ q)
theorem cs_all (hc : X.calm = true) : CallS X.K (cAny X (.builtin "all")) (fBools fun bs => bs.all id) := cs_bools (call_allL hc) ((call_allT hc).imp fun vs H Q ⟨p, ns, h1, h2, h3⟩ => ⟨p, ns, h1, h2, by rw [List.all_map] at h3; exact h3⟩)
theorem cs_any (hc : X.calm = true) : CallS X.K (cAny X (.builtin "any")) (fBools fun bs => bs.any id) := cs_bools (call_anyL hc) ((call_anyT hc).imp fun vs H Q ⟨p, ns, h1, h2, h3⟩ => ⟨p, ns, h1, h2, by rw [List.any_map] at h3; exact h3⟩)
def fSum : List D → M D := fun xs S => match xs with
  | [.lst n] => match (lstAt S n).bind intsOf with
    | some ns => if (ns.all fun i => decide (0 ≤ i) && decide (i ≤ 1000000)) = true ∧ ns.length ≤ 1000000 then .ok (.int ns.sum) S else .bad
    | none => .bad
  | _ => .bad
theorem cs_sum (hc : X.calm = true) : CallS X.K (cAny X (.builtin "sum")) fSum := by
  intro xs S d S' H μ vs Q e sr rx h
  unfold fSum at e
  split at e
  · split at e
    · rename_i ns e1
      split at e
      · rename_i hl
        cases e
        obtain ⟨ys, e2, e3⟩ := Option.bind_eq_some_iff.mp e1
        obtain ⟨v, rfl, r⟩ := rx.one
        unfold RV at r; obtain ⟨a, rfl, hm⟩ := r
        obtain ⟨ws, q, rr⟩ := sr.sq hm e2
        have z := intsOf_vs e3 rr
        subst z
        refine ⟨_, call_sumL hc, a, ns, rfl, q, fun n hn => ?_, hl.2, h.self sr rv_int⟩
        have := List.all_eq_true.mp hl.1 n hn
        simpa using this
      · cases e
    · cases e
  · cases e
def MtS (K : PySem.W.Frag) (T : String) (r : V → List V → Hp → VK → Prop) (o : D → List D → M D) : Prop := ∀ x xs S d S' H μ v vs Q, o x xs S = .ok d S' → SR K μ S H → RV K H μ x v → RVs K H μ xs vs → Yld K μ H d S' Q → r v vs H Q
def tyOk (T : String) (x : D) (S : Store) : Bool := match x with
  | .lst n => decide (T = "list") && (lstAt S n).isSome
  | .dct n => decide (T = "dict") && (match S[n]? with | some (.dk _) => true | _ => false)
  | .int _ => decide (T = "int")
  | .str _ => decide (T = "str")
  | _ => false
theorem tyOk_v {K : PySem.W.Frag} {H : Hp} {μ : List Addr} {S : Store} {T : String} {x : D} {v : V} (sr : SR K μ S H) (h : tyOk T x S = true) (r : RV K H μ x v) : tyV K T v H := by
  unfold tyOk at h
  split at h
  · simp only [Bool.and_eq_true, decide_eq_true_eq] at h
    obtain ⟨h1, h2⟩ := h
    obtain ⟨xs, hx⟩ := Option.isSome_iff_exists.mp h2
    unfold RV at r; obtain ⟨a, rfl, hm⟩ := r
    obtain ⟨vs, q, _⟩ := sr.sq hm hx
    exact .inl ⟨h1, vs, q⟩
  · simp only [Bool.and_eq_true, decide_eq_true_eq] at h
    obtain ⟨h1, h2⟩ := h
    unfold RV at r; obtain ⟨a, rfl, hm⟩ := r
    split at h2
    · rename_i kvs ho
      obtain ⟨ws, q, _⟩ := sr.get hm ho
      exact .inr (.inr (.inl ⟨h1, .inl ⟨ws, q⟩⟩))
    · cases h2
  · unfold RV at r; subst r
    exact (of_decide_eq_true h : T = "int")
  · unfold RV at r; subst r
    exact (of_decide_eq_true h : T = "str")
  · cases h
def cMeth (T : String) (o : D → List D → M D) (a : C) (as : CA) : C := fun ρ => bnd (a ρ) fun x S => if tyOk T x S then bnd (as ρ) (fun xs => o x xs) S else .bad
variable {o e : Expr} {es : List Expr} {co : C} {ca : CA} {name : Str} {apos cpos : Pos} {T id : String} {m : D → List D → M D}
theorem se_meth (pa : PlainAttrs T) (slot : Slot T name id) (hty : typeOf (.builtin id) = pure (.type "method_descriptor")) (hm : MtS X.K T (mtAnyR X id) m) (ho : PE X o (tOf X.K co)) (ha : PA X (e :: es) (tOfA X.K ca))
    (hbase : attributeBase o name X.env (eval o X.env) = eval o X.env)
    (hfew : ((backTo cpos (starEach (e :: es) X.env)).all (fun x => !x.1) && (backToKw cpos (keywordEach [] X.env)).all (fun x => x.1.isSome)
      && decide ((e :: es).length + ([] : List Keyword).length + (if ([] : List Keyword).isEmpty then 0 else 1) < 30)) = true)
    (hline : (apos.endLine == cpos.line) = true) (hs : starEach (e :: es) X.env = (false, eval e X.env) :: starEach es X.env) (hplain : (backTo cpos (starEach es X.env)).any (·.1) = false) :
    PE X (.Call (.Attribute o name apos) (e :: es) [] cpos) (tOf X.K (cMeth T m co ca)) := (pe_bm pa slot hty mtAny ho ha hbase hfew hline hs hplain).weak (by
  rintro σ H Q ⟨μ, ρ, S, d, S', sr, re, e, y⟩
  obtain ⟨x, S1, e1, e⟩ := bnd_ok e
  split at e
  · rename_i hk
    obtain ⟨xs, S2, e2, e⟩ := bnd_ok e
    refine ⟨μ, ρ, S, x, S1, sr, re, e1, fun v H1 μ1 sr1 st1 r1 => ⟨tyOk_v sr1 hk r1, μ1, ρ, S1, xs, S2, sr1, re.up st1, e2, fun vs H2 μ2 sr2 st2 r2 => ?_⟩⟩
    exact hm x xs S2 d S' H2 μ2 v vs Q e sr2 (RV.up st2.tk st2.ext _ _ r1) r2 (y.shift (st1.trans st2 sr2.nd))
  · cases e)
def cMeth0 (T : String) (o : D → List D → M D) (a : C) : C := fun ρ => bnd (a ρ) fun x S => if tyOk T x S then o x [] S else .bad
theorem se_meth0 (pa : PlainAttrs T) (slot : Slot T name id) (hty : typeOf (.builtin id) = pure (.type "method_descriptor")) (hm : MtS X.K T (mtAnyR X id) m) (ho : PE X o (tOf X.K co))
    (hbase : attributeBase o name X.env (eval o X.env) = eval o X.env) (hline : (apos.endLine == cpos.line) = true) : PE X (.Call (.Attribute o name apos) [] [] cpos) (tOf X.K (cMeth0 T m co)) := (pe_bm0 pa slot hty mtAny ho hbase hline).weak (by
  rintro σ H Q ⟨μ, ρ, S, d, S', sr, re, e, y⟩
  obtain ⟨x, S1, e1, e⟩ := bnd_ok e
  split at e
  · rename_i hk
    exact ⟨μ, ρ, S, x, S1, sr, re, e1, fun v H1 μ1 sr1 st1 r1 => ⟨tyOk_v sr1 hk r1, hm x [] S1 d S' H1 μ1 v [] Q e sr1 r1 RVs.nil (y.shift st1)⟩⟩
  · cases e)
def mList (g : List D → List D → Option (List D × D)) : D → List D → M D := fun x xs S => match x with
  | .lst n => match S[n]? with
    | some (.lst ys) => match g ys xs with
      | some (zs, d) => .ok d (S.set n (.lst zs))
      | none => .bad
    | _ => .bad
  | _ => .bad
theorem SR.putL {K : PySem.W.Frag} {H : Hp} {μ : List Addr} {S : Store} {n : Nat} {p : Addr} {vs ws : List V} {zs : List D} (sr : SR K μ S H) (hn : μ[n]? = some p) (hp : H p = some (.lst vs)) (r : RVs K H μ zs ws) : SR K μ (S.set n (.lst zs)) (upd H p (.lst ws)) ∧ Step K μ μ H (upd H p (.lst ws)) :=
  sr.put hn hp (fun _ z => by cases z) (fun _ _ z => by cases z) ⟨ws, upd_same, RVs.up (tf_lst hp) ⟨[], by simp⟩ _ _ r⟩
theorem ms_list {g : List D → List D → Option (List D × D)}
    (h : ∀ (K : PySem.W.Frag) H μ ys xs zs d vs us, g ys xs = some (zs, d) → RVs K H μ ys vs → RVs K H μ xs us → ∃ ws w, RVs K H μ zs ws ∧ RV K H μ d w ∧ ∀ (p : Addr) (Q : VK), H p = some (.lst vs) → Q w (upd H p (.lst ws)) → mtAnyR X id (.ref p) us H Q) : MtS X.K "list" (mtAnyR X id) (mList g) := by
  intro x xs S d S' H μ v us Q e sr rx rs y
  unfold mList at e
  split at e
  · rename_i n
    split at e
    · rename_i ys ho
      split at e
      · rename_i zs d' hg
        cases e
        unfold RV at rx; obtain ⟨p, rfl, hm⟩ := rx
        obtain ⟨vs, hp, rr⟩ := sr.lst hm ho
        obtain ⟨ws, w, r1, r2, fin⟩ := h X.K H μ ys xs zs d vs us hg rr rs
        obtain ⟨s1, s2⟩ := sr.putL hm hp r1
        exact fin p Q hp (y w _ μ s1 s2 (RV.up s2.tk s2.ext _ _ r2))
      · cases e
    · cases e
  · cases e
def gAppend : List D → List D → Option (List D × D) := fun ys xs => match xs with
  | [x] => if ys.length < lim then some (ys ++ [x], .non) else none
  | _ => none
theorem ms_append : MtS X.K "list" (mtAnyR X "list.append") (mList gAppend) := ms_list fun K H μ ys xs zs d vs us e r1 r2 => by
  unfold gAppend at e
  split at e
  · split at e
    · rename_i hl; cases e
      obtain ⟨v, rfl, r3⟩ := r2.one
      exact ⟨vs ++ [v], .non, r1.append (.cons r3 .nil), rv_non, fun p Q hp q => ⟨_, mt_append, p, vs, v, rfl, rfl, hp, by rw [← r1.len]; exact lim_lt hl, q⟩⟩
    · cases e
  · cases e
def gInsert : List D → List D → Option (List D × D) := fun ys xs => match xs with
  | [.int i, x] => if ys.length < 1000 ∧ 0 ≤ i ∧ i.toNat ≤ ys.length then some (ys.take i.toNat ++ x :: ys.drop i.toNat, .non) else none
  | _ => none
theorem ms_insert : MtS X.K "list" (mtAnyR X "list.insert") (mList gInsert) := ms_list fun K H μ ys xs zs d vs us e r1 r2 => by
  unfold gInsert at e
  split at e
  · rename_i i x
    split at e
    · rename_i hl; cases e
      obtain ⟨h1, h2, h3⟩ := hl
      obtain ⟨v, u, rfl, r3, r4⟩ := r2.two
      unfold RV at r3; subst r3
      have ei : i = ((i.toNat : Nat) : Int) := by omega
      exact ⟨vs.take i.toNat ++ u :: vs.drop i.toNat, .non, (r1.take _).append (.cons r4 (r1.drop _)), rv_non, fun p Q hp q => ⟨_, mt_insert, p, vs, i.toNat, u, rfl, by rw [← ei], hp, by rw [← r1.len]; exact h1, by rw [← r1.len]; exact h3, q⟩⟩
    · cases e
  · cases e
def gPop : List D → List D → Option (List D × D) := fun ys xs => match xs with
  | [] => match ys[ys.length - 1]? with
    | some y => some (ys.dropLast, y)
    | none => none
  | _ => none
theorem RVs.dropLast {K : PySem.W.Frag} {H : Hp} {μ : List Addr} {ds : List D} {vs : List V} (r : RVs K H μ ds vs) : RVs K H μ ds.dropLast vs.dropLast := by
  rw [List.dropLast_eq_take, List.dropLast_eq_take, r.len]
  exact r.take _
theorem ms_pop : MtS X.K "list" (mtAnyR X "list.pop") (mList gPop) := ms_list fun K H μ ys xs zs d vs us e r1 r2 => by
  unfold gPop at e
  split at e
  · split at e
    · rename_i y hy; cases e
      have := r2.nil_inv
      subst this
      obtain ⟨v, e1, r3⟩ := r1.get hy
      exact ⟨vs.dropLast, v, r1.dropLast, r3, fun p Q hp q => ⟨_, mt_pop, p, vs, v, rfl, rfl, hp, by rw [← r1.len]; exact e1, q⟩⟩
    · cases e
  · cases e
def mExtend : D → List D → M D := fun x xs S => match x, xs with
  | .lst n, [.lst k] => match S[n]?, S[k]? with
    | some (.lst ys), some (.lst zs) => if ys.length + zs.length ≤ lim then .ok .non (S.set n (.lst (ys ++ zs))) else .bad
    | _, _ => .bad
  | .lst n, [.tup zs] => match S[n]? with
    | some (.lst ys) => if ys.length + zs.length ≤ lim then .ok .non (S.set n (.lst (ys ++ zs))) else .bad
    | _ => .bad
  | _, _ => .bad
theorem ms_extend : MtS X.K "list" (mtAnyR X "list.extend") mExtend := by
  intro x xs S d S' H μ v us Q e sr rx rs y
  unfold mExtend at e
  split at e
  · split at e
    · rename_i ys zs o1 o2
      split at e
      · rename_i hl
        cases e
        unfold RV at rx; obtain ⟨p, rfl, m1⟩ := rx
        obtain ⟨u, rfl, r2⟩ := rs.one
        unfold RV at r2; obtain ⟨p2, rfl, m2⟩ := r2
        obtain ⟨vs, h1, r1⟩ := sr.lst m1 o1
        obtain ⟨ws, h2, r3⟩ := sr.lst m2 o2
        obtain ⟨s1, s2⟩ := sr.putL m1 h1 (r1.append r3)
        exact ⟨_, mt_extend, p, p2, vs, ws, rfl, rfl, h1, h2, by rw [← r1.len, ← r3.len]; exact lim_le hl, y _ _ μ s1 s2 rv_non⟩
      · cases e
    · cases e
  · split at e
    · rename_i ys o1
      split at e
      · rename_i hl
        cases e
        unfold RV at rx; obtain ⟨p, rfl, m1⟩ := rx
        obtain ⟨u, rfl, r2⟩ := rs.one
        unfold RV at r2; obtain ⟨p2, ws, rfl, h2, r3⟩ := r2
        obtain ⟨vs, h1, r1⟩ := sr.lst m1 o1
        obtain ⟨s1, s2⟩ := sr.putL m1 h1 (r1.append r3)
        exact ⟨_, mt_extT, p, p2, vs, ws, rfl, rfl, h1, h2, by rw [← r1.len, ← r3.len]; exact lim_le hl, y _ _ μ s1 s2 rv_non⟩
      · cases e
    · cases e
  · cases e
def oSet : D → D → D → Store → Option Store := fun x i v S => match x with
  | .lst n => match S[n]?, i with
    | some (.lst ys), .int k => match ixN ys.length k with
      | some j => some (S.set n (.lst (ys.set j v)))
      | none => none
    | _, _ => none
  | .dct n => match S[n]?, keyOf i with
    | some (.dk kvs), some k => if kvs.length < lim then some (S.set n (.dk (putD kvs k v))) else none
    | _, _ => none
  | _ => none
theorem set_dict (hu : X.A.units + 1 < cLine) : PSet X (fun o i v H Q => ∃ a H4, o = .ref a ∧ DPut H a i v H4 ∧ Q H4) := by
  intro pins s σ H o i v ov iv u Q I ro ri rv h
  obtain ⟨a, H4, rfl, g, q⟩ := h
  obtain rfl : ov = Value.ref a := ro
  exact d_setItem hu I g ri rv fun s4 I4 => ⟨H4, I4, q⟩
theorem ps_sets (hu : X.A.units + 1 < cLine) {x i v : D} {S S' : Store} {H : Hp} {μ : List Addr} {ov iv vv : V} {Q : Hp → Prop} (e : oSet x i v S = some S') (sr : SR X.K μ S H) (rx : RV X.K H μ x ov) (ri : RV X.K H μ i iv) (rv : RV X.K H μ v vv) (y : ∀ H' , SR X.K μ S' H' → Step X.K μ μ H H' → Q H') : setAnyR X ov iv vv H Q := by
  unfold oSet at e
  split at e
  · split at e
    · rename_i ys k ho
      split at e
      · rename_i j hj
        cases e
        unfold RV at rx ri; obtain ⟨p, rfl, hm⟩ := rx; subst ri
        obtain ⟨vs, hp, rr⟩ := sr.lst hm ho
        obtain ⟨s1, s2⟩ := sr.putL hm hp (rr.set rv j)
        exact ⟨_, set_list, p, vs, k, j, rfl, rfl, hp, by rw [← rr.len]; exact hj, y _ s1 s2⟩
      · cases e
    · cases e
  · split at e
    · rename_i kvs k ho hk
      split at e
      · rename_i hl
        cases e
        unfold RV at rx; obtain ⟨p, rfl, hm⟩ := rx
        obtain ⟨ws, hp, rr⟩ := sr.get hm ho
        have z := keyOf_v hk ri
        subst z
        have tk : TF X.K H (upd H p (.dK (putK ws k vv))) := tf_upd hp (fun _ z => by cases z) (fun _ _ z => by cases z)
        obtain ⟨s1, s2⟩ := sr.put (o := .dK (putK ws k vv)) (o' := .dk (putD kvs k v)) hm hp (fun _ z => by cases z) (fun _ _ z => by cases z) ⟨_, upd_same, (rr.put rv).up tk ⟨[], by simp⟩⟩
        exact ⟨_, set_dict hu, p, _, rfl, DPut.k hp (by rw [← rr.len]; exact lim_lt hl), y _ s1 s2⟩
      · cases e
    · cases e
  · cases e
end
end L2
namespace L2
open PySem PySem.Spec PyProof.Rows
inductive RS where
  | bad | nx (ρ : Env1) (S : Store) | rt (d : D) (S : Store) | bk (ρ : Env1) (S : Store) | ct (ρ : Env1) (S : Store) | er (c : Str) (S : Store)
abbrev CS := Env1 → Store → RS
def PostS (K : PySem.W.Frag) (μ : List Addr) (H : Hp) (E : Ends) : RS → Prop
  | .bad => False
  | .er _ _ => False
  | .nx ρ' S' => ∀ σ' H' μ', SR K μ' S' H' → Step K μ μ' H H' → RE K H' μ' ρ' σ' → E.nx σ' H'
  | .bk ρ' S' => ∀ σ' H' μ', SR K μ' S' H' → Step K μ μ' H H' → RE K H' μ' ρ' σ' → E.bk σ' H'
  | .ct ρ' S' => ∀ σ' H' μ', SR K μ' S' H' → Step K μ μ' H H' → RE K H' μ' ρ' σ' → E.ct σ' H'
  | .rt d S' => Yld K μ H d S' E.rt
def tOfS (K : PySem.W.Frag) (c : CS) : TS := fun E σ H => ∃ μ ρ S, SR K μ S H ∧ RE K H μ ρ σ ∧ PostS K μ H E (c ρ S)
theorem PostS.shift {K : PySem.W.Frag} {μ μ1 : List Addr} {H H1 : Hp} {E : Ends} {r : RS} (h : PostS K μ H E r) (st : Step K μ μ1 H H1) : PostS K μ1 H1 E r := by
  cases r with
  | bad => exact h
  | er _ _ => exact h
  | nx ρ S => exact fun σ' H' μ' sr s2 re => h σ' H' μ' sr (st.trans s2 sr.nd) re
  | bk ρ S => exact fun σ' H' μ' sr s2 re => h σ' H' μ' sr (st.trans s2 sr.nd) re
  | ct ρ S => exact fun σ' H' μ' sr s2 re => h σ' H' μ' sr (st.trans s2 sr.nd) re
  | rt d S => exact Yld.shift h st
def sPass : CS := fun ρ S => .nx ρ S
def sBrk : CS := fun ρ S => .bk ρ S
def sCnt : CS := fun ρ S => .ct ρ S
def sBad : CS := fun _ _ => .bad
def sRetN : CS := fun _ S => .rt .non S
def sRet (c : C) : CS := fun ρ S => match c ρ S with
  | .ok d S' => .rt d S'
  | .bad => .bad
  | .er k S' => .er k S'
def sExpr (c : C) : CS := fun ρ S => match c ρ S with
  | .ok _ S' => .nx ρ S'
  | .bad => .bad
  | .er k S' => .er k S'
def sSeq (a b : CS) : CS := fun ρ S => match a ρ S with
  | .nx ρ' S' => b ρ' S'
  | r => r
def sIf (t : CT) (a b : CS) : CS := fun ρ S => match t ρ S with
  | .ok k S' => if k then a ρ S' else b ρ S'
  | .bad => .bad
  | .er k S' => .er k S'
abbrev G := D → Env1 → M Env1
def sAsg (c : C) (g : G) : CS := fun ρ S => match c ρ S with
  | .ok d S' => match g d ρ S' with
    | .ok ρ' S2 => .nx ρ' S2
    | .bad => .bad
    | .er k S2 => .er k S2
  | .bad => .bad
  | .er k S' => .er k S'
section
variable {X : Cx} {e a b tg : Expr} {ce ca cb : C} {pos : Pos}
theorem ss_pass : PS X (.Pass pos) (tOfS X.K sPass) := ps_pass.weak fun E σ H ⟨μ, ρ, S, sr, re, p⟩ => p σ H μ sr (Step.refl _ _ _) re
theorem ss_brk : PS X (.Break pos) (tOfS X.K sBrk) := ps_break.weak fun E σ H ⟨μ, ρ, S, sr, re, p⟩ => p σ H μ sr (Step.refl _ _ _) re
theorem ss_cnt : PS X (.Continue pos) (tOfS X.K sCnt) := ps_continue.weak fun E σ H ⟨μ, ρ, S, sr, re, p⟩ => p σ H μ sr (Step.refl _ _ _) re
theorem ss_bad {st : Stmt} : PS X st (tOfS X.K sBad) := ps_never.weak fun E σ H ⟨μ, ρ, S, sr, re, p⟩ => p
theorem ss_retN : PS X (.Return none pos) (tOfS X.K sRetN) := ps_retN.weak fun E σ H ⟨μ, ρ, S, sr, re, p⟩ => p _ H μ sr (Step.refl _ _ _) rv_non
theorem ss_ret (he : PE X e (tOf X.K ce)) : PS X (.Return (some e) pos) (tOfS X.K (sRet ce)) := (ps_ret he).weak (by
  rintro E σ H ⟨μ, ρ, S, sr, re, p⟩
  unfold sRet at p
  split at p
  · rename_i d S' h
    exact ⟨μ, ρ, S, d, S', sr, re, h, p⟩
  · exact False.elim p
  · exact False.elim p)
theorem ss_expr (he : PE X e (tOf X.K ce)) (hs : swapsWith e none pos.line X.env = pure false) : PS X (.Expr e pos) (tOfS X.K (sExpr ce)) := (ps_expr he hs).weak (by
  rintro E σ H ⟨μ, ρ, S, sr, re, p⟩
  unfold sExpr at p
  split at p
  · rename_i d S' h
    exact ⟨μ, ρ, S, d, S', sr, re, h, fun v H1 μ1 sr1 st1 r1 => p σ H1 μ1 sr1 st1 (re.up st1)⟩
  · exact False.elim p
  · exact False.elim p)
theorem sss_nil : PSs X [] (tOfS X.K sPass) := pss_nil.weak fun E σ H ⟨μ, ρ, S, sr, re, p⟩ => p σ H μ sr (Step.refl _ _ _) re
theorem sss_cons {st : Stmt} {rest : List Stmt} {c1 c2 : CS} (h1 : PS X st (tOfS X.K c1)) (h2 : PSs X rest (tOfS X.K c2)) : PSs X (st :: rest) (tOfS X.K (sSeq c1 c2)) := (pss_cons h1 h2).weak (by
  rintro E σ H ⟨μ, ρ, S, sr, re, p⟩
  refine ⟨μ, ρ, S, sr, re, ?_⟩
  unfold sSeq at p
  revert p
  cases c1 ρ S with
  | nx ρ' S' => exact fun p σ' H' μ' sr' st' re' => ⟨μ', ρ', S', sr', re', p.shift st'⟩
  | bad => exact fun p => p
  | er _ _ => exact fun p => p
  | rt _ _ => exact fun p => p
  | bk _ _ => exact fun p => p
  | ct _ _ => exact fun p => p)
theorem ss_if {t : Expr} {ct : CT} {as bs : List Stmt} {c1 c2 : CS} (ht : PT X t (tOfT X.K ct)) (h1 : PSs X as (tOfS X.K c1)) (h2 : PSs X bs (tOfS X.K c2)) : PS X (.If t as bs pos) (tOfS X.K (sIf ct c1 c2)) := (ps_if ht h1 h2).weak (by
  rintro E σ H ⟨μ, ρ, S, sr, re, p⟩
  unfold sIf at p
  split at p
  · rename_i k S' h
    refine ⟨μ, ρ, S, k, S', sr, re, h, fun H1 μ1 sr1 st1 => ?_⟩
    cases k with
    | true => rw [if_pos rfl] at p ⊢; exact ⟨μ1, ρ, S', sr1, re.up st1, p.shift st1⟩
    | false => rw [if_neg Bool.false_ne_true] at p ⊢; exact ⟨μ1, ρ, S', sr1, re.up st1, p.shift st1⟩
  · exact False.elim p
  · exact False.elim p)
def tOfG (K : PySem.W.Frag) (g : G) : TG := fun v σ H Q => ∃ μ ρ S d ρ' S', SR K μ S H ∧ RE K H μ ρ σ ∧ RV K H μ d v ∧ g d ρ S = .ok ρ' S' ∧ ∀ σ' H' μ', SR K μ' S' H' → Step K μ μ' H H' → RE K H' μ' ρ' σ' → Q σ' H'
theorem PG.weak {t t' : TG} (h : PG X tg t) (w : ∀ v σ H Q, t' v σ H Q → t v σ H Q) : PG X tg t' := fun pins s σ H v u Q I r q => h pins s σ H v u Q I r (w v σ H Q q)
def gN (i : Nat) : G := fun d ρ S => .ok (ρ.set i (some d)) S
theorem sg_name {i : Nat} {x : Str} (h : PG X (.Name x pos) (gName i)) : PG X (.Name x pos) (tOfG X.K (gN i)) := h.weak (by
  rintro v σ H Q ⟨μ, ρ, S, d, ρ', S', sr, re, rv, e, y⟩
  unfold gN at e; cases e
  exact y _ H μ sr (Step.refl _ _ _) (re.set rv i))
def gS (co ci : C) : G := fun d ρ => bnd (co ρ) fun o => bnd (ci ρ) fun i S => match oSet o i d S with
  | some S' => .ok ρ S'
  | none => .bad
theorem sg_sub (hu : X.A.units + 1 < cLine) (ho : PE X a (tOf X.K ca)) (hi : PE X b (tOf X.K cb)) (ha : ∀ v, assign (.Subscript a b pos) X.env v = (do
      let ov ← holding [v] (eval a X.env)
      let iv ← holding [v, ov] (eval b X.env)
      standAt pos
      holding [v, ov, iv] (setItem ov iv v)
      release [v, ov, iv] [])) : PG X (.Subscript a b pos) (tOfG X.K (gS ca cb)) := (pg_sub ho hi setAny ha).weak (by
  rintro v σ H Q ⟨μ, ρ, S, d, ρ', S', sr, re, rv, e, y⟩
  obtain ⟨x, S1, e1, e⟩ := bnd_ok e
  obtain ⟨z, S2, e2, e⟩ := bnd_ok e
  split at e
  · rename_i S3 e3
    cases e
    refine ⟨μ, ρ, S, x, S1, sr, re, e1, fun ov H1 μ1 sr1 st1 r1 => ⟨μ1, ρ, S1, z, S2, sr1, re.up st1, e2, fun iv H2 μ2 sr2 st2 r2 => ?_⟩⟩
    have st12 := st1.trans st2 sr2.nd
    refine ps_sets hu e3 sr2 (RV.up st2.tk st2.ext _ _ r1) r2 (RV.up st12.tk st12.ext _ _ rv) fun H3 sr3 st3 => ?_
    exact y σ H3 μ2 sr3 (st12.trans st3 sr3.nd) (re.up (st12.trans st3 sr3.nd))
  · cases e)
def gTs : List G → List D → Env1 → M Env1
  | [], [] => fun ρ => ret ρ
  | g :: gs, d :: ds => fun ρ => bnd (g d ρ) fun ρ1 => gTs gs ds ρ1
  | _, _ => fun _ => bad
def gT (gs : List G) : G := fun d ρ => match d with
  | .tup xs => gTs gs xs ρ
  | _ => bad
def tOfGs (K : PySem.W.Frag) (gs : List G) : TGs := fun vs σ H Q => ∃ μ ρ S ds ρ' S', SR K μ S H ∧ RE K H μ ρ σ ∧ RVs K H μ ds vs ∧ gTs gs ds ρ S = .ok ρ' S' ∧ ∀ σ' H' μ', SR K μ' S' H' → Step K μ μ' H H' → RE K H' μ' ρ' σ' → Q σ' H'
theorem PGs.weak {es : List Expr} {t t' : TGs} (h : PGs X es t) (w : ∀ v σ H Q, t' v σ H Q → t v σ H Q) : PGs X es t' := fun pins s σ H v u Q I r q => h pins s σ H v u Q I r (w v σ H Q q)
theorem sgs_nil : PGs X [] (tOfGs X.K []) := pgs_nil.weak (by
  rintro v σ H Q ⟨μ, ρ, S, ds, ρ', S', sr, re, rv, e, y⟩
  cases ds with
  | nil =>
    obtain ⟨rfl, rfl⟩ := ret_ok e
    exact ⟨rv.nil_inv, y σ H μ sr (Step.refl _ _ _) re⟩
  | cons d ds => cases e)
theorem sgs_cons {es : List Expr} {g : G} {gs : List G} (h1 : PG X e (tOfG X.K g)) (h2 : PGs X es (tOfGs X.K gs)) (hs : (assignEach (e :: es) X.env).map (·.2) = assign e X.env :: (assignEach es X.env).map (·.2)) : PGs X (e :: es) (tOfGs X.K (g :: gs)) := (pgs_cons h1 h2 hs).weak (by
  rintro v σ H Q ⟨μ, ρ, S, ds, ρ', S', sr, re, rv, e, y⟩
  cases ds with
  | nil => cases e
  | cons d ds =>
    obtain ⟨ρ1, S1, e1, e⟩ := bnd_ok e
    obtain ⟨u, us, rfl, r1, r2⟩ := rv.cons_inv
    refine ⟨u, us, rfl, μ, ρ, S, d, ρ1, S1, sr, re, r1, e1, fun σ1 H1 μ1 sr1 st1 re1 => ?_⟩
    exact ⟨μ1, ρ1, S1, ds, ρ', S', sr1, re1, RVs.up st1.tk st1.ext _ _ r2, e, fun σ2 H2 μ2 sr2 st2 re2 => y σ2 H2 μ2 sr2 (st1.trans st2 sr2.nd) re2⟩)
theorem gTs_len {gs : List G} : ∀ {ds : List D} {ρ ρ' : Env1} {S S' : Store}, gTs gs ds ρ S = .ok ρ' S' → ds.length = gs.length := by
  induction gs with
  | nil => intro ds ρ ρ' S S' e; cases ds with | nil => rfl | cons _ _ => cases e
  | cons g gs ih =>
    intro ds ρ ρ' S S' e
    cases ds with
    | nil => cases e
    | cons d ds =>
      obtain ⟨ρ1, S1, e1, e⟩ := bnd_ok e
      rw [List.length_cons, List.length_cons, ih e]
theorem sg_tup {es : List Expr} {k : Nat} {gs : List G} (hc : X.calm = true) (h : PGs X es (tOfGs X.K gs)) (hn : (assignEach es X.env).length = gs.length) (hst : (assignEach es X.env).findIdx? (·.1) = none) : PG X (.Tuple es k pos) (tOfG X.K (gT gs)) := (pg_tup hc h hn hst).weak (by
  rintro v σ H Q ⟨μ, ρ, S, d, ρ', S', sr, re, rv, e, y⟩
  unfold gT at e
  split at e
  · rename_i xs
    unfold RV at rv
    obtain ⟨p, vs, rfl, q, rr⟩ := rv
    exact ⟨p, vs, rfl, q, by rw [← rr.len]; exact gTs_len e, μ, ρ, S, xs, ρ', S', sr, re, rr, e, y⟩
  · cases e)
theorem ss_asg {g : G} (he : PE X e (tOf X.K ce)) (hg : PG X tg (tOfG X.K g)) (hs : swapsWithSole [tg] e pos.line X.env = pure false) (hw : swappedStores [tg] e X.env = pure none) (h1 : (assignEach [tg] X.env).map (·.2) = [assign tg X.env]) : PS X (.Assign [tg] e pos) (tOfS X.K (sAsg ce g)) := (ps_asg he hg hs hw h1).weak (by
  rintro E σ H ⟨μ, ρ, S, sr, re, p⟩
  unfold sAsg at p
  split at p
  · rename_i d S' h
    split at p
    · rename_i ρ' S2 h2
      refine ⟨μ, ρ, S, d, S', sr, re, h, fun v H1 μ1 sr1 st1 r1 => ⟨μ1, ρ, S', d, ρ', S2, sr1, re.up st1, r1, h2, fun σ2 H2 μ2 sr2 st2 re2 => ?_⟩⟩
      exact p σ2 H2 μ2 sr2 (st1.trans st2 sr2.nd) re2
    · exact False.elim p
    · exact False.elim p
  · exact False.elim p
  · exact False.elim p)
theorem ss_set {i : Nat} {x : Str} {pos' : Pos} (h : PS X (.Assign [.Name x pos'] e pos) (tAsg (tOf X.K ce) (gName i))) : PS X (.Assign [.Name x pos'] e pos) (tOfS X.K (sAsg ce (gN i))) := h.weak (by
  rintro E σ H ⟨μ, ρ, S, sr, re, p⟩
  unfold sAsg at p
  split at p
  · rename_i d S' h
    have e2 : gN i d ρ S' = .ok (ρ.set i (some d)) S' := rfl
    rw [e2] at p
    exact ⟨μ, ρ, S, d, S', sr, re, h, fun v H1 μ1 sr1 st1 r1 => p _ H1 μ1 sr1 st1 ((re.up st1).set r1 i)⟩
  · exact False.elim p
  · exact False.elim p)
def whileS : Nat → CT → CS → CS
  | 0, _, _ => fun _ _ => .bad
  | k + 1, t, b => fun ρ S => match t ρ S with
    | .ok true S1 => match b ρ S1 with
      | .nx ρ2 S2 => whileS k t b ρ2 S2
      | .ct ρ2 S2 => whileS k t b ρ2 S2
      | .bk ρ2 S2 => .nx ρ2 S2
      | r => r
    | .ok false S1 => .nx ρ S1
    | .bad => .bad
    | .er c S1 => .er c S1
theorem ss_while {t : Expr} {ct : CT} {body : List Stmt} {cb : CS} (k : Nat) (hp : PassesOwn (model X.prog X.w) X.A X.env X.xe) (ht : PT X t (tOfT X.K ct)) (hb : PSs X body (tOfS X.K cb)) : PS X (.While t body [] pos) (tOfS X.K (whileS k ct cb)) := (ps_while hp ht hb).weak (by
  rintro E σ0 H0 ⟨μ0, ρ0, S0, sr0, re0, p0⟩
  refine ⟨fun m σ H => ∃ μ ρ S, SR X.K μ S H ∧ Step X.K μ0 μ H0 H ∧ RE X.K H μ ρ σ ∧ PostS X.K μ H E (whileS m ct cb ρ S), ⟨k, μ0, ρ0, S0, sr0, Step.refl _ _ _, re0, p0⟩, ?_⟩
  rintro m σ H ⟨μ, ρ, S, sr, st, re, p⟩
  cases m with
  | zero => exact False.elim p
  | succ m =>
    unfold whileS at p
    split at p
    · rename_i S1 h
      refine ⟨μ, ρ, S, true, S1, sr, re, h, fun H1 μ1 sr1 st1 => ?_⟩
      dsimp only
      rw [if_pos rfl]
      refine ⟨fun σ' H' => ∃ μ ρ S, SR X.K μ S H' ∧ Step X.K μ0 μ H0 H' ∧ RE X.K H' μ ρ σ' ∧ PostS X.K μ H' E (whileS m ct cb ρ S), fun σ' H' h => ⟨m, Nat.lt_succ_self m, h⟩, μ1, ρ, S1, sr1, re.up st1, ?_⟩
      have st01 := st.trans st1 sr1.nd
      revert p
      cases cb ρ S1 with
      | nx ρ2 S2 => exact fun p σ2 H2 μ2 sr2 st2 re2 => ⟨μ2, ρ2, S2, sr2, st01.trans st2 sr2.nd, re2, p.shift (st1.trans st2 sr2.nd)⟩
      | ct ρ2 S2 => exact fun p σ2 H2 μ2 sr2 st2 re2 => ⟨μ2, ρ2, S2, sr2, st01.trans st2 sr2.nd, re2, p.shift (st1.trans st2 sr2.nd)⟩
      | bk ρ2 S2 => exact fun p σ2 H2 μ2 sr2 st2 re2 => p σ2 H2 μ2 sr2 (st1.trans st2 sr2.nd) re2
      | rt d S2 => exact fun p => Yld.shift p st1
      | bad => exact fun p => p
      | er _ _ => exact fun p => p
    · rename_i S1 h
      refine ⟨μ, ρ, S, false, S1, sr, re, h, fun H1 μ1 sr1 st1 => ?_⟩
      dsimp only
      rw [if_neg Bool.false_ne_true]
      exact p σ H1 μ1 sr1 st1 (re.up st1)
    · exact False.elim p
    · exact False.elim p)
abbrev Watch := List (Nat × List D)
def okW (w : Watch) (S : Store) : Prop := ∀ p ∈ w, lstAt S p.1 = some p.2
abbrev CI := Env1 → M (List D × Watch)
structure ItOk (K : PySem.W.Frag) (J : It) (items : List D) (w : Watch) (μ0 : List Addr) (H0 : Hp) : Prop where
  go : ∀ (i : Nat) H μ S, SR K μ S H → Step K μ0 μ H0 H → okW w S → i < items.length → J.go i H
  yld : ∀ (i : Nat) H μ S x H', SR K μ S H → Step K μ0 μ H0 H → okW w S → i < items.length → J.yld i H x H' → ∃ d, items[i]? = some d ∧ SR K μ S H' ∧ Step K μ μ H H' ∧ RV K H' μ d x
  stop : ∀ H μ S, SR K μ S H → Step K μ0 μ H0 H → okW w S → J.stop items.length H
def tOfI (K : PySem.W.Frag) (it : CI) : TI := fun σ H R => ∃ μ ρ S items w S', SR K μ S H ∧ RE K H μ ρ σ ∧ it ρ S = .ok (items, w) S' ∧ ∀ J H' μ', SR K μ' S' H' → Step K μ μ' H H' → ItOk K J items w μ' H' → R J H'
theorem PI.weak {iter : Expr} {t t' : TI} (h : PI X tg iter t) (w : ∀ σ H R, t' σ H R → t σ H R) : PI X tg iter t' := fun pins s σ H R I q => h pins s σ H R I (w σ H R q)
theorem Step.at {K : PySem.W.Frag} {μ μ' : List Addr} {H H' : Hp} (st : Step K μ μ' H H') {n : Nat} {a : Addr} (h : μ[n]? = some a) : μ'[n]? = some a := by
  obtain ⟨ν, rfl⟩ := st.ext
  rw [List.getElem?_append_left (List.getElem?_eq_some_iff.mp h).1]; exact h
open Classical in
noncomputable def loopS (w : Watch) (g : G) (b : CS) : List D → CS
  | [] => fun ρ S => if okW w S then .nx ρ S else .bad
  | d :: ds => fun ρ S => if okW w S then (match g d ρ S with
    | .ok ρ1 S1 => match b ρ1 S1 with
      | .nx ρ2 S2 => loopS w g b ds ρ2 S2
      | .ct ρ2 S2 => loopS w g b ds ρ2 S2
      | .bk ρ2 S2 => .nx ρ2 S2
      | r => r
    | .bad => .bad
    | .er c S1 => .er c S1) else .bad
noncomputable def sFor (it : CI) (g : G) (b : CS) : CS := fun ρ S => match it ρ S with
  | .ok (items, w) S1 => loopS w g b items ρ S1
  | .bad => .bad
  | .er c S1 => .er c S1
theorem ss_for {iter : Expr} {body : List Stmt} {it : CI} {g : G} {cb : CS} (hp : PassesOwn (model X.prog X.w) X.A X.env X.xe) (hc : X.calm = true) (hi : PI X tg iter (tOfI X.K it)) (hg : PG X tg (tOfG X.K g)) (hb : PSs X body (tOfS X.K cb))
    (hs : ∀ x, foldedSetIterable iter X.env x = pure x) : PS X (.For tg iter body [] pos) (tOfS X.K (sFor it g cb)) := (ps_for hp hc hi hg hb hs).weak (by
  rintro E σ H ⟨μ, ρ, S, sr, re, p⟩
  unfold sFor at p
  split at p
  · rename_i items w S0 h0
    refine ⟨μ, ρ, S, items, w, S0, sr, re, h0, fun J H0 μ0 sr0 st0 io => ?_⟩
    refine ⟨fun i m σ H => i + m = items.length ∧ ∃ μ ρ S, SR X.K μ S H ∧ Step X.K μ0 μ H0 H ∧ RE X.K H μ ρ σ ∧ PostS X.K μ H E (loopS w g cb (items.drop i) ρ S), ⟨items.length, by simp, μ0, ρ, S0, sr0, Step.refl _ _ _, re.up st0, by rw [List.drop_zero]; exact p.shift st0⟩, ?_⟩
    rintro i m σ1 H1 ⟨him, μ1, ρ1, S1, sr1, st1, re1, p1⟩
    by_cases hi : i < items.length
    · rw [List.drop_eq_getElem_cons hi] at p1
      unfold loopS at p1
      split at p1
      · rename_i hw
        refine .inr ⟨io.go i H1 μ1 S1 sr1 st1 hw hi, fun σ' H' => i + 1 + (m - 1) = items.length ∧ ∃ μ ρ S, SR X.K μ S H' ∧ Step X.K μ0 μ H0 H' ∧ RE X.K H' μ ρ σ' ∧ PostS X.K μ H' E (loopS w g cb (items.drop (i + 1)) ρ S), fun σ' H' z => ⟨m - 1, by omega, z⟩, fun x H2 hy => ?_⟩
        obtain ⟨d, hd, sr2, st2, rv⟩ := io.yld i H1 μ1 S1 x H2 sr1 st1 hw hi hy
        have ed : items[i] = d := by rw [List.getElem?_eq_getElem hi] at hd; exact Option.some.inj hd
        rw [ed] at p1
        split at p1
        · rename_i ρ3 S3 h3
          refine ⟨μ1, ρ1, S1, d, ρ3, S3, sr2, re1.up st2, rv, h3, fun σ3 H3 μ3 sr3 st3 re3 => ⟨μ3, ρ3, S3, sr3, re3, ?_⟩⟩
          have st23 := st2.trans st3 sr3.nd
          have st03 := st1.trans st23 sr3.nd
          revert p1
          cases cb ρ3 S3 with
          | nx ρ4 S4 => exact fun p σ4 H4 μ4 sr4 st4 re4 => ⟨by omega, μ4, ρ4, S4, sr4, st03.trans st4 sr4.nd, re4, p.shift (st23.trans st4 sr4.nd)⟩
          | ct ρ4 S4 => exact fun p σ4 H4 μ4 sr4 st4 re4 => ⟨by omega, μ4, ρ4, S4, sr4, st03.trans st4 sr4.nd, re4, p.shift (st23.trans st4 sr4.nd)⟩
          | bk ρ4 S4 => exact fun p σ4 H4 μ4 sr4 st4 re4 => p σ4 H4 μ4 sr4 (st23.trans st4 sr4.nd) re4
          | rt d S4 => exact fun p => Yld.shift p st23
          | bad => exact fun p => p
          | er _ _ => exact fun p => p
        · exact False.elim p1
        · exact False.elim p1
      · exact False.elim p1
    · have e : i = items.length := by omega
      subst e
      rw [List.drop_length] at p1
      unfold loopS at p1
      split at p1
      · rename_i hw
        exact .inl ⟨io.stop H1 μ1 S1 sr1 st1 hw, p1 σ1 H1 μ1 sr1 (Step.refl _ _ _) re1⟩
      · exact False.elim p1
  · exact False.elim p
  · exact False.elim p)
end
end L2
namespace L2
open PySem PySem.Spec PyProof.Rows
section
variable {X : Cx} {tg e : Expr} {ce : C} {pos : Pos}
def iSeq (c : C) : CI := fun ρ => bnd (c ρ) fun x S => match x with
  | .tup xs => .ok (xs, []) S
  | .lst n => match lstAt S n with
    | some xs => .ok (xs, [(n, xs)]) S
    | none => .bad
  | _ => .bad
theorem it_tup {K : PySem.W.Frag} {H0 : Hp} {μ0 : List Addr} {a : Addr} {xs : List D} {vs : List V} (q : SqT K H0 a vs) (r : RVs K H0 μ0 xs vs) : ItOk K (Itt K a) xs [] μ0 H0 where
  go := fun i H μ S sr st _ hi => by
    obtain ⟨v, e, _⟩ := r.get (List.getElem?_eq_getElem hi)
    exact ⟨vs, v, st.tk.t _ _ q, e⟩
  yld := fun i H μ S x H' sr st _ hi y => by
    obtain ⟨rfl, y⟩ := y
    obtain ⟨v, e, rv⟩ := r.get (List.getElem?_eq_getElem hi)
    have := y vs (st.tk.t _ _ q)
    rw [e] at this; cases this
    exact ⟨xs[i], List.getElem?_eq_getElem hi, sr, Step.refl _ _ _, RV.up st.tk st.ext _ _ rv⟩
  stop := fun H μ S sr st _ => ⟨vs, st.tk.t _ _ q, by rw [r.len]; exact Nat.le_refl _⟩
theorem it_lst {K : PySem.W.Frag} {H0 : Hp} {μ0 : List Addr} {a : Addr} {n : Nat} {xs : List D} (hm : μ0[n]? = some a) : ItOk K (Itl K a) xs [(n, xs)] μ0 H0 where
  go := fun i H μ S sr st w hi => by
    obtain ⟨vs, q, r⟩ := sr.sq (st.at hm) (w (n, xs) (by simp))
    obtain ⟨v, e, _⟩ := r.get (List.getElem?_eq_getElem hi)
    exact ⟨vs, v, q, e⟩
  yld := fun i H μ S x H' sr st w hi y => by
    obtain ⟨rfl, y⟩ := y
    obtain ⟨vs, q, r⟩ := sr.sq (st.at hm) (w (n, xs) (by simp))
    obtain ⟨v, e, rv⟩ := r.get (List.getElem?_eq_getElem hi)
    have := y vs q
    rw [e] at this; cases this
    exact ⟨xs[i], List.getElem?_eq_getElem hi, sr, Step.refl _ _ _, rv⟩
  stop := fun H μ S sr st w => by
    obtain ⟨vs, q, r⟩ := sr.sq (st.at hm) (w (n, xs) (by simp))
    exact ⟨vs, q, by rw [r.len]; exact Nat.le_refl _⟩
theorem pi_seq {tl : TE} (hl : PE X e tl) : PI X tg e (fun σ H R => tl σ H fun x H1 => ∃ a, x = .ref a ∧ ((∃ xs, SqL X.K H1 a xs) ∧ R (Itl X.K a) H1 ∨ (∃ xs, SqT X.K H1 a xs) ∧ R (Itt X.K a) H1)) := by
  intro pins s σ H R I h
  refine thn (hl pins s σ H _ I h) fun v s1 ⟨x, H1, I1, r1, q1⟩ => ?_
  obtain ⟨a, e, q⟩ := q1
  subst e
  cases r1
  rcases q with ⟨⟨xs, hq⟩, q⟩ | ⟨⟨xs, hq⟩, q⟩
  · obtain ⟨its, rv, p, hz⟩ := I1.list hq
    refine wpAny_pyIter_list p.isList ?_
    refine ⟨s1.heap.objs.size, [s1.heap.objs.size], _, _, H1, rfl, I1.kept (t' := s1.toks) fun b o e => Heap.get?_push_of_some _ e, turn_list a _, ⟨_, Heap.get?_push_size _ rfl, rfl, rfl⟩, fun b hb => ?_, q⟩
    have e : b = s1.heap.objs.size := by simpa using hb
    subst e
    exact I1.fpOk (Nat.le_refl _) (I1.hok.fresh (Nat.le_refl _))
  · obtain ⟨its, rv, p, hz⟩ := I1.tuple hq
    refine wpAny_pyIter_tuple (show s1.heap.IsTuple a its.toArray from p) ?_
    refine ⟨s1.heap.objs.size, [s1.heap.objs.size], _, _, H1, rfl, I1.kept (t' := s1.toks) fun b o e => Heap.get?_push_of_some _ e, turn_tuple a _, ⟨_, Heap.get?_push_size _ rfl, rfl, rfl⟩, fun b hb => ?_, q⟩
    have e : b = s1.heap.objs.size := by simpa using hb
    subst e
    exact I1.fpOk (Nat.le_refl _) (I1.hok.fresh (Nat.le_refl _))
theorem si_seq (he : PE X e (tOf X.K ce)) : PI X tg e (tOfI X.K (iSeq ce)) := (pi_seq he).weak (by
  rintro σ H R ⟨μ, ρ, S, items, w, S', sr, re, e, y⟩
  obtain ⟨x, S1, e1, e⟩ := bnd_ok e
  refine ⟨μ, ρ, S, x, S1, sr, re, e1, fun v H1 μ1 sr1 st1 r1 => ?_⟩
  try dsimp only at e
  split at e
  · rename_i xs
    cases e
    have r1' := r1
    unfold RV at r1'; obtain ⟨a, vs, rfl, q, rr⟩ := r1'
    exact ⟨a, rfl, .inr ⟨⟨vs, q⟩, y _ H1 μ1 sr1 st1 (it_tup q rr)⟩⟩
  · rename_i n
    split at e
    · rename_i xs hx
      cases e
      unfold RV at r1; obtain ⟨a, rfl, hm⟩ := r1
      obtain ⟨vs, q, rr⟩ := sr1.sq hm hx
      exact ⟨a, rfl, .inl ⟨⟨vs, q⟩, y _ H1 μ1 sr1 st1 (it_lst hm)⟩⟩
    · cases e
  · cases e)
def upD (lo : Int) (n : Nat) : List D := (List.range n).map fun k => D.int (lo + (k : Nat))
theorem it_rng {K : PySem.W.Frag} {H0 : Hp} {μ0 : List Addr} {lo : Int} {n : Nat} : ItOk K (Itr lo n) (upD lo n) [] μ0 H0 where
  go := fun i H μ S sr st _ hi => by
    unfold upD at hi; simp at hi; exact hi
  yld := fun i H μ S x H' sr st _ hi y => by
    obtain ⟨rfl, rfl⟩ := y
    have hi' : i < n := by unfold upD at hi; simp at hi; exact hi
    exact ⟨.int (lo + i), by unfold upD; rw [List.getElem?_map, List.getElem?_range hi']; rfl, sr, Step.refl _ _ _, rv_int⟩
  stop := fun H μ S sr st _ => by
    show n ≤ (upD lo n).length
    unfold upD; simp
def iRange1 (a : CA) : CI := fun ρ => bnd (a ρ) fun xs S => match xs with
  | [.int j] => if -4611686018427387904 ≤ j ∧ j < 4611686018427387904 then .ok (upD 0 j.toNat, []) S else .bad
  | _ => .bad
def iRange2 (a : CA) : CI := fun ρ => bnd (a ρ) fun xs S => match xs with
  | [.int i, .int j] => if -4611686018427387904 ≤ i ∧ i < 4611686018427387904 ∧ -4611686018427387904 ≤ j ∧ j < 4611686018427387904 then .ok (upD i (j - i).toNat, []) S else .bad
  | _ => .bad
variable {a b : Expr} {ca : CA}
theorem si_range1 {p : Pos} (h : PI X tg (.Call (.Name "range" p) [a] [] pos) (iRng1 (tOfA X.K ca))) : PI X tg (.Call (.Name "range" p) [a] [] pos) (tOfI X.K (iRange1 ca)) := h.weak (by
  rintro σ H R ⟨μ, ρ, S, items, w, S', sr, re, e, y⟩
  obtain ⟨xs, S1, e1, e⟩ := bnd_ok e
  refine ⟨μ, ρ, S, xs, S1, sr, re, e1, fun vs H1 μ1 sr1 st1 r1 => ?_⟩
  try dsimp only at e
  split at e
  · rename_i j
    split at e
    · rename_i hl
      cases e
      obtain ⟨v, rfl, r2⟩ := r1.one
      unfold RV at r2; subst r2
      exact ⟨j, rfl, hl.1, hl.2, y _ H1 μ1 sr1 st1 it_rng⟩
    · cases e
  · cases e)
theorem si_range2 {p : Pos} (h : PI X tg (.Call (.Name "range" p) [a, b] [] pos) (iRng2 (tOfA X.K ca))) : PI X tg (.Call (.Name "range" p) [a, b] [] pos) (tOfI X.K (iRange2 ca)) := h.weak (by
  rintro σ H R ⟨μ, ρ, S, items, w, S', sr, re, e, y⟩
  obtain ⟨xs, S1, e1, e⟩ := bnd_ok e
  refine ⟨μ, ρ, S, xs, S1, sr, re, e1, fun vs H1 μ1 sr1 st1 r1 => ?_⟩
  try dsimp only at e
  split at e
  · rename_i i j
    split at e
    · rename_i hl
      cases e
      obtain ⟨v, u, rfl, r2, r3⟩ := r1.two
      unfold RV at r2 r3; subst r2 r3
      exact ⟨i, j, rfl, hl, y _ H1 μ1 sr1 st1 it_rng⟩
    · cases e
  · cases e)
def stE (k : Nat) (js : List Nat) (ρ : Env1) : Env1 := List.replicate k none ++ js.map fun j => (ρ[j]?).getD none
theorem RE.comp {K : PySem.W.Frag} {H : Hp} {μ : List Addr} {ρ : Env1} {σ : St} (re : RE K H μ ρ σ) (k : Nat) (js : List Nat) : RE K H μ (stE k js ρ) (stC k js σ) := by
  refine ⟨by unfold stE stC; simp, fun i d e => ?_⟩
  unfold stE at e
  unfold stC
  by_cases hi : i < k
  · rw [List.getElem?_append_left (by simpa using hi), List.getElem?_replicate] at e
    simp [hi] at e
  · rw [List.getElem?_append_right (by simpa using hi), List.length_replicate, List.getElem?_map] at e
    rw [List.getElem?_append_right (by simpa using hi), List.length_replicate, List.getElem?_map]
    cases q : js[i - k]? with
    | none => rw [q] at e; simp at e
    | some j =>
      rw [q] at e
      simp only [Option.map_some, Option.some.injEq] at e
      cases q2 : ρ[j]? with
      | none => rw [q2] at e; simp at e
      | some z =>
        rw [q2] at e
        simp at e
        subst e
        obtain ⟨v, e1, r1⟩ := re.2 j d q2
        exact ⟨v, by simp [e1], r1⟩
inductive Tgt where
  | one | many (k : Nat)
def setAll : Env1 → Nat → List D → Env1
  | ρ, _, [] => ρ
  | ρ, s, x :: xs => setAll (ρ.set s (some x)) (s + 1) xs
def bindT (t : Tgt) (d : D) (ρ : Env1) : Option Env1 := match t with
  | .one => some (ρ.set 0 (some d))
  | .many k => match d with
    | .tup xs => if xs.length = k then some (setAll ρ 0 xs) else none
    | _ => none
def gNames : Nat → Nat → TGs
  | _, 0 => gNil
  | s, n + 1 => gCons (gName s) (gNames (s + 1) n)
def tgtK : Tgt → Nat
  | .one => 1
  | .many k => k
def tOfT' (K : PySem.W.Frag) : Tgt → TG
  | .one => gName 0
  | .many k => gTup K k (gNames 0 k)
theorem weak_set {k : Nat} {js : List Nat} {σ σ1 : St} (h : WeakS (stC k js σ) σ1) {i : Nat} (hi : i < k) (v : V) : WeakS (stC k js σ) (σ1.set i (some v)) := by
  refine ⟨by rw [List.length_set]; exact h.1, fun j u e => ?_⟩
  by_cases hj : i = j
  · subst hj
    obtain ⟨_, h1, _⟩ := stC_get e
    omega
  · rw [List.getElem?_set_ne hj]
    exact h.2 j u e
theorem weak_refl (σ : St) : WeakS σ σ := ⟨rfl, fun _ _ h => h⟩
theorem names_ok {K : PySem.W.Frag} {H : Hp} {μ : List Addr} {k : Nat} {js : List Nat} {σ : St} {Q : St → Hp → Prop} : ∀ {n s : Nat} {xs : List D} {vs : List V} {ρ1 : Env1} {σ1 : St}, RVs K H μ xs vs → xs.length = n → s + n ≤ k → RE K H μ ρ1 σ1 → WeakS (stC k js σ) σ1 → (∀ σ4, RE K H μ (setAll ρ1 s xs) σ4 → WeakS (stC k js σ) σ4 → Q σ4 H) → gNames s n vs σ1 H Q
  | 0, s, xs, vs, ρ1, σ1, r, hl, hk, re, w, h => by
    have : xs = [] := List.length_eq_zero_iff.mp hl
    subst this
    exact ⟨r.nil_inv, h σ1 re w⟩
  | n + 1, s, [], vs, ρ1, σ1, r, hl, hk, re, w, h => by simp at hl
  | n + 1, s, x :: xs, vs, ρ1, σ1, r, hl, hk, re, w, h => by
    obtain ⟨v, us, rfl, r1, r2⟩ := r.cons_inv
    exact ⟨v, us, rfl, names_ok r2 (by simpa using hl) (by omega) (re.set r1 s) (weak_set w (by omega) v) h⟩
theorem bind_ok {K : PySem.W.Frag} {H : Hp} {μ : List Addr} {k : Nat} {js : List Nat} {σ : St} {ρ ρ4 : Env1} {t : Tgt} {d : D} {x : V} {Q : St → Hp → Prop} (ht : tgtK t ≤ k) (re : RE K H μ (stE k js ρ) (stC k js σ)) (rv : RV K H μ d x) (e : bindT t d (stE k js ρ) = some ρ4) (h : ∀ σ4, RE K H μ ρ4 σ4 → WeakS (stC k js σ) σ4 → Q σ4 H) (h1 : 1 ≤ k) : tOfT' K t x (stC k js σ) H Q := by
  cases t with
  | one =>
    cases e
    exact h _ (re.set rv 0) (weak_set (weak_refl _) h1 x)
  | many n =>
    unfold bindT at e
    dsimp only at e
    split at e
    · rename_i xs
      split at e
      · rename_i hl
        cases e
        unfold RV at rv
        obtain ⟨p, vs, rfl, q, rr⟩ := rv
        exact ⟨p, vs, rfl, q, by rw [← rr.len]; exact hl, names_ok rr hl (by have : n ≤ k := ht; omega) re (weak_refl _) h⟩
      · cases e
    · cases e
open Classical in
noncomputable def loopC (w : Watch) (t : Tgt) (tc : CT) (c : C) (ρ0 : Env1) : List D → M (List D)
  | [] => fun S => if okW w S then .ok [] S else .bad
  | d :: ds => fun S => if okW w S then (match bindT t d ρ0 with
    | some ρ1 => bnd (tc ρ1) (fun k => if k then bnd (c ρ1) fun y => bnd (loopC w t tc c ρ0 ds) fun ys => ret (y :: ys) else loopC w t tc c ρ0 ds) S
    | none => .bad) else .bad
noncomputable def cComp (it : CI) (k : Nat) (js : List Nat) (t : Tgt) (tc : CT) (c : C) : C := fun ρ => bnd (it ρ) fun p S => if p.1.length < lim then
    bnd (loopC p.2 t tc c (stE k js ρ) p.1) (fun ys S' => .ok (.lst S'.length) (S' ++ [.lst ys])) S
  else .bad
theorem SR.acc {K : PySem.W.Frag} {H : Hp} {μ : List Addr} {S : Store} {A : Addr} {us ws : List V} (sr : SR K μ S H) (hA : A ∉ μ) (h : H A = some (.lst us)) : SR K μ S (upd H A (.lst ws)) :=
  ⟨sr.len, sr.nd, fun n a o e1 e2 => (sr.obj n a o e1 e2).up (tf_lst h) ⟨[], by simp⟩ (upd_ne fun z => hA (z ▸ List.mem_of_getElem? e1))⟩
theorem Step.acc {K : PySem.W.Frag} {H0 H : Hp} {μ0 μ : List Addr} {A : Addr} {us ws : List V} (st : Step K μ0 μ H0 H) (h0 : H0 A = none) (h : H A = some (.lst us)) : Step K μ0 μ H0 (upd H A (.lst ws)) :=
  ⟨st.pre, fun b o hb e => by rw [upd_ne (ne_of_none e h0)]; exact st.fr b o hb e, st.tk.trans (tf_lst h)⟩
theorem SR.adopt {K : PySem.W.Frag} {H : Hp} {μ : List Addr} {S : Store} {A : Addr} {us : List V} {acc : List D} (sr : SR K μ S H) (hA : A ∉ μ) (h : H A = some (.lst us)) (r : RVs K H μ acc us) : SR K (μ ++ [A]) (S ++ [.lst acc]) H := by
  refine ⟨by simp [sr.len], ?_, fun n a u e1 e2 => ?_⟩
  · rw [List.nodup_append]
    refine ⟨sr.nd, by simp, fun a ha b hb => ?_⟩
    simp at hb; subst hb
    exact fun z => hA (z ▸ ha)
  · by_cases hn : n < μ.length
    · rw [List.getElem?_append_left hn] at e1
      rw [List.getElem?_append_left (by rw [← sr.len]; exact hn)] at e2
      exact (sr.obj n a u e1 e2).up (TF.refl _ _) ⟨[A], rfl⟩ rfl
    · rw [List.getElem?_append_right (by omega)] at e1
      rw [List.getElem?_append_right (by rw [← sr.len]; omega)] at e2
      have h1 : n - μ.length = 0 := by
        have := (List.getElem?_eq_some_iff.mp e1).1
        simp at this; omega
      rw [h1] at e1
      rw [← sr.len, h1] at e2
      simp at e1 e2
      subst e1 e2
      exact ⟨us, h, RVs.up (TF.refl _ _) ⟨[A], rfl⟩ _ _ r⟩
theorem Step.adopt {K : PySem.W.Frag} {H0 H : Hp} {μ0 μ : List Addr} {A : Addr} (st : Step K μ0 μ H0 H) (h0 : H0 A = none) : Step K μ0 (μ ++ [A]) H0 H := by
  obtain ⟨ν, e, n⟩ := st.pre
  refine ⟨⟨ν ++ [A], by rw [e, List.append_assoc], fun b hb => ?_⟩, st.fr, st.tk⟩
  rcases List.mem_append.mp hb with h | h
  · exact n b h
  · simp at h; subst h; exact h0
theorem Step.notIn {K : PySem.W.Frag} {H H' : Hp} {μ μ' : List Addr} {A : Addr} {o : HO} (st : Step K μ μ' H H') (hA : A ∉ μ) (h : H A = some o) : A ∉ μ' := fun z => by
  obtain ⟨ν, rfl, n⟩ := st.pre
  rcases List.mem_append.mp z with q | q
  · exact hA q
  · rw [n A q] at h; cases h
theorem of_comp {σ : St} {H : Hp} {Q : VK} {it : CI} {k : Nat} {js : List Nat} {t : Tgt} {tc : CT} {c : C} (ht : tgtK t ≤ k) (h1 : 1 ≤ k) (h : tOf X.K (cComp it k js t tc c) σ H Q) : tComp (tOfI X.K it) k js (tOfT' X.K t) (tOfT X.K tc) (tOf X.K c) σ H Q := by
  obtain ⟨μ, ρ, S, d, S', sr, re, e, y⟩ := h
  obtain ⟨⟨items, w⟩, S0, e0, f0⟩ := bnd_ok e
  dsimp only at f0
  split at f0
  · rename_i hlim
    obtain ⟨ys, S1, e1, f1⟩ := bnd_ok f0
    cases f1
    refine ⟨μ, ρ, S, items, w, S0, sr, re, e0, fun J H0 μ0 sr0 st0 io A hA => ?_⟩
    have reC := (re.up st0).comp k js
    obtain ⟨srA, stA⟩ := sr0.other (o := .lst []) hA
    have nA : A ∉ μ0 := sr0.out hA
    refine ⟨fun i m us H2 => i + m = items.length ∧ us.length ≤ i ∧ ∃ μ2 S2 acc rest, SR X.K μ2 S2 H2 ∧ Step X.K μ0 μ2 H0 H2 ∧ A ∉ μ2 ∧ H2 A = some (.lst us) ∧ RVs X.K H2 μ2 acc us ∧ loopC w t tc c (stE k js ρ) (items.drop i) S2 = .ok rest S1 ∧ acc ++ rest = ys,
      ⟨items.length, by simp, Nat.zero_le _, μ0, S0, [], ys, srA, stA, nA, upd_same, RVs.nil, by rw [List.drop_zero]; exact e1, rfl⟩, ?_⟩
    rintro i m us H2 ⟨him, hus, μ2, S2, acc, rest, sr2, st2, nA2, hA2, racc, el, eys⟩
    refine ⟨hA2, ?_⟩
    by_cases hi : i < items.length
    · rw [List.drop_eq_getElem_cons hi] at el
      unfold loopC at el
      split at el
      · rename_i hw
        refine .inr ⟨io.go i H2 μ2 S2 sr2 st2 hw hi, lim_lt (by omega), fun x H3 hy => ?_⟩
        obtain ⟨d, hd, sr3, st3, rv⟩ := io.yld i H2 μ2 S2 x H3 sr2 st2 hw hi hy
        have ed : items[i] = d := by rw [List.getElem?_eq_getElem hi] at hd; exact Option.some.inj hd
        rw [ed] at el
        have hA3 : H3 A = some (.lst us) := st3.fr A _ nA2 hA2
        have st03 := st2.trans st3 sr3.nd
        split at el
        · rename_i ρ4 h4
          refine bind_ok ht (reC.up st03) rv h4 (fun σ4 re4 wk => ⟨wk, ?_⟩) h1
          obtain ⟨kb, S3, e3, f3⟩ := bnd_ok el
          refine ⟨μ2, ρ4, S2, kb, S3, sr3, re4, e3, fun H5 μ5 sr5 st5 => ?_⟩
          have hA5 : H5 A = some (.lst us) := st5.fr A _ nA2 hA3
          have nA5 := st5.notIn nA2 hA3
          have st05 := st03.trans st5 sr5.nd
          have st25 := st3.trans st5 sr5.nd
          dsimp only
          cases kb with
          | true =>
            rw [if_pos rfl] at f3 ⊢
            obtain ⟨z, S4, e4, f4⟩ := bnd_ok f3
            obtain ⟨zs, S5, e5, f5⟩ := bnd_ok f4
            obtain ⟨rfl, rfl⟩ := ret_ok f5
            refine ⟨μ5, ρ4, S3, z, S4, sr5, re4.up st5, e4, fun v H6 μ6 sr6 st6 rv6 => ?_⟩
            have hA6 : H6 A = some (.lst us) := st6.fr A _ nA5 hA5
            have nA6 := st6.notIn nA5 hA5
            have st26 := st25.trans st6 sr6.nd
            have tku : TF X.K H6 (upd H6 A (.lst (us ++ [v]))) := tf_lst hA6
            refine ⟨hA6, m - 1, by omega, by omega, by rw [List.length_append]; show us.length + 1 ≤ i + 1; omega, μ6, S4, acc ++ [z], zs, sr6.acc nA6 hA6, (st05.trans st6 sr6.nd).acc hA hA6, nA6, upd_same, ?_, e5, by rw [List.append_assoc]; exact eys⟩
            exact RVs.up tku ⟨[], by simp⟩ _ _ ((RVs.up st26.tk st26.ext _ _ racc).append (.cons rv6 .nil))
          | false =>
            rw [if_neg Bool.false_ne_true] at f3 ⊢
            exact ⟨m - 1, by omega, by omega, by omega, μ5, S3, acc, rest, sr5, st05, nA5, hA5, RVs.up st25.tk st25.ext _ _ racc, f3, eys⟩
        · cases el
      · cases el
    · have ei : i = items.length := by omega
      subst ei
      rw [List.drop_length] at el
      unfold loopC at el
      split at el
      · rename_i hw
        cases el
        rw [List.append_nil] at eys
        subst eys
        refine .inl ⟨io.stop H2 μ2 _ sr2 st2 hw, ?_⟩
        have hA0 : H A = none := by
          cases q : H A with
          | none => rfl
          | some o =>
            by_cases hm : A ∈ μ
            · exact absurd (st0.mem hm) nA
            · rw [st0.fr A o hm q] at hA; cases hA
        have sr3 := sr2.adopt nA2 hA2 racc
        refine y (.ref A) H2 (μ2 ++ [A]) sr3 ((st0.trans st2 sr2.nd).adopt hA0) ?_
        unfold RV
        exact ⟨A, rfl, by rw [← sr2.len, List.getElem?_append_right (Nat.le_refl _), Nat.sub_self]; rfl⟩
      · cases el
  · cases f0
end
end L2
namespace L2
open PySem PySem.Spec PyProof.Rows
structure Sc where
  N : List Str
  names : List (Str × NameKind)
  fn : Bool
structure XOk (X : Cx) (sc : Sc) (ar : Str → Option Nat) (cl : Str → List D → M D) (k : Nat) : Prop where
  calm : X.calm = true
  N : X.N = sc.N
  nd : sc.N.Nodup
  gl : ∀ x, sc.names.lookup x = some .globalImplicit → Gl X x
  loc : ∀ x, sc.names.lookup x = some .local → X.env.scope.names.lookup x = some .local
  cel : ∀ x, sc.names.lookup x = some .cell → X.env.scope.names.lookup x = some .cell
  fre : ∀ x, sc.names.lookup x = some .free → X.env.scope.names.lookup x = some .cell ∨ X.env.scope.names.lookup x = some .free
  fnn : sc.fn = true → ∀ x, X.fn x = true
  room : Room k X.A
  xe : X.xe = fun _ _ => False
  blt : ∀ x : Str, x ∈ (["len", "range", "list", "tuple", "min", "max", "zip", "isinstance", "all", "any", "int", "bool", "enumerate", "str", "sorted", "dict", "sum", "repr", "set", "abs"] : List Str) → ar x = none → X.mg x = none
  fns : ∀ x n, ar x = some n → (∃ ps, Callee X.prog X.w X.K X.mg X.base x ps k (spOf X.K (cl x) n)) ∧ ∀ ds S d S', cl x ds S = .ok d S' → ds.length = n
section
variable {X : Cx} {sc : Sc} {ar : Str → Option Nat} {cl : Str → List D → M D} {k : Nat}
theorem XOk.vis (h : XOk X sc ar cl k) {x : Str} (hv : sc.names.lookup x = some .local ∨ sc.names.lookup x = some .cell ∨ sc.names.lookup x = some .free) : Vis X.env.scope x := by
  rcases hv with q | q | q
  · exact .inl (h.loc x q)
  · exact .inr (.inl (h.cel x q))
  · exact .inr (h.fre x q)
def isVis (o : Option NameKind) : Bool := o == some .local || o == some .cell || o == some .free
theorem isVis_or {o : Option NameKind} (h : isVis o = true) : o = some .local ∨ o = some .cell ∨ o = some .free := by
  unfold isVis at h
  simp only [Bool.or_eq_true, beq_iff_eq] at h
  rcases h with (h | h) | h
  · exact .inl h
  · exact .inr (.inl h)
  · exact .inr (.inr h)
def slotOf : List Str → Str → Nat → Option Nat
  | [], _, _ => none
  | y :: r, x, i => if y = x then some i else slotOf r x (i + 1)
theorem slotOf_get : ∀ {N : List Str} {x : Str} {i j : Nat}, slotOf N x i = some j → i ≤ j ∧ N[j - i]? = some x
  | [], _, _, _, h => by cases h
  | y :: r, x, i, j, h => by
    unfold slotOf at h
    split at h
    · rename_i e; cases h; subst e; exact ⟨Nat.le_refl _, by simp⟩
    · obtain ⟨h1, h2⟩ := slotOf_get h
      refine ⟨by omega, ?_⟩
      have e : j - i = (j - (i + 1)) + 1 := by omega
      rw [e, List.getElem?_cons_succ]; exact h2
def cName (sc : Sc) (ar : Str → Option Nat) (x : Str) : Option C := match slotOf sc.N x 0 with
  | some i => if isVis (sc.names.lookup x) && !(x == ("__debug__" : Str)) && !(x == ("__classdict__" : Str)) then some (cVar i) else none
  | none => if sc.names.lookup x = some .globalImplicit ∧ ar x = none then
      (if x = ("int" : Str) then some (cCon (.ty "int")) else if x = ("bool" : Str) then some (cCon (.ty "bool")) else if x = ("tuple" : Str) then some (cCon (.ty "tuple"))
        else if x = ("list" : Str) then some (cCon (.ty "list")) else if x = ("str" : Str) then some (cCon (.ty "str")) else none)
    else none
theorem s_name (h : XOk X sc ar cl k) {x : Str} {pos : Pos} {c : C} (e : cName sc ar x = some c) : PE X (.Name x pos) (tOf X.K c) := by
  unfold cName at e
  split at e
  · rename_i i hi
    split at e
    · rename_i hv
      cases e
      simp only [Bool.and_eq_true, Bool.not_eq_true'] at hv
      obtain ⟨⟨h1, h2⟩, h3⟩ := hv
      have := (slotOf_get hi).2
      exact se_var (pe_var (by rw [h.N]; exact this) (h.vis (isVis_or h1)) h2 h3)
    · cases e
  · split at e
    · rename_i hg
      have g := h.gl x hg.1
      have ty : ∀ (n : String) (b : bootBuiltins x = some (.type n)) (hn : x ≠ "__name__") (hd : (x == ("__debug__" : Str)) = false) (hm : X.mg x = none), PE X (.Name x pos) (tOf X.K (cCon (.ty n))) := fun n b hn hd hm =>
        se_con (pe_bltn (v := .ty n) g hm b rfl hn hd) fun K H μ => by unfold RV; rfl
      split at e
      · rename_i q; subst q; cases e
        exact ty "int" bt_int (by decide +kernel) (by decide +kernel) (h.blt _ (by decide +kernel) hg.2)
      · split at e
        · rename_i q; subst q; cases e
          exact ty "bool" bt_bool (by decide +kernel) (by decide +kernel) (h.blt _ (by decide +kernel) hg.2)
        · split at e
          · rename_i q; subst q; cases e
            exact ty "tuple" bt_tuple (by decide +kernel) (by decide +kernel) (h.blt _ (by decide +kernel) hg.2)
          · split at e
            · rename_i q; subst q; cases e
              exact ty "list" bt_list (by decide +kernel) (by decide +kernel) (h.blt _ (by decide +kernel) hg.2)
            · split at e
              · rename_i q; subst q; cases e
                exact ty "str" bt_str (by decide +kernel) (by decide +kernel) (h.blt _ (by decide +kernel) hg.2)
              · cases e
    · cases e
def cConst : Const → Option C
  | .none => some (cCon .non)
  | .bool b => some (cCon (.bl b))
  | .int i => some (cCon (.int i))
  | .str x => some (cCon (.str x))
  | _ => none
theorem s_const {v : Const} {j : Nat} {pos : Pos} {c : C} (e : cConst v = some c) : PE X (.Constant v j pos) (tOf X.K c) := by
  cases v with
  | none => cases e; exact se_con pe_non fun _ _ _ => rv_non
  | bool b => cases e; exact se_con pe_bl fun _ _ _ => rv_bl
  | int i => cases e; exact se_con pe_int fun _ _ _ => rv_int
  | str x => cases e; exact se_con pe_str fun _ _ _ => rv_str
  | _ => cases e
def opBin : Operator → Option (D → D → M D)
  | .Add => some oAdd
  | .Sub => some (oInt fun i j => i - j)
  | .Mult => some oMul
  | .Mod => some oMod
  | .FloorDiv => some oDiv
  | .Pow => some oPow
  | .LShift => some oShl
  | .RShift => some oShr
  | .BitAnd => some (oInt Builtin.bitAnd)
  | .BitOr => some (oInt Builtin.bitOr)
  | .BitXor => some (oInt Builtin.bitXor)
  | _ => none
theorem s_op {op : Operator} {o : D → D → M D} (e : opBin op = some o) : OpS X.K (rAny X (binaryOp op)) o := by
  cases op with
  | Add => cases e; exact os_add
  | Sub => cases e; exact os_sub
  | Mult => cases e; exact os_mul
  | Mod => cases e; exact os_mod
  | FloorDiv => cases e; exact os_div
  | Pow => cases e; exact os_pow
  | LShift => cases e; exact os_shl
  | RShift => cases e; exact os_shr
  | BitAnd => cases e; exact os_and
  | BitOr => cases e; exact os_or
  | BitXor => cases e; exact os_xor
  | _ => cases e
def opCmp : CmpOp → Option (D → D → M D)
  | .Eq => some oEq
  | .NotEq => some oNe
  | .Lt => some oLt
  | .LtE => some (oCmp fun i j => decide (i ≤ j))
  | .Gt => some (oCmp fun i j => decide (j < i))
  | .GtE => some (oCmp fun i j => decide (j ≤ i))
  | .Is => some oIs
  | .IsNot => some oIsNot
  | .In => some (oIn false)
  | .NotIn => some (oIn true)
theorem s_cmp (h : Room k X.A) {op : CmpOp} {o : D → D → M D} (e : opCmp op = some o) : OpS X.K (rAny X (compareOp op)) o := by
  have h1 := h.units
  have h2 := h.units0
  have h3 : X.A.units + 1 < cLine := hu_of h
  cases op with
  | Eq => cases e; exact os_eq h1
  | NotEq => cases e; exact os_ne h1
  | Lt => cases e; exact os_lt h2
  | LtE => cases e; exact os_le
  | Gt => cases e; exact os_gt
  | GtE => cases e; exact os_ge
  | Is => cases e; exact os_is
  | IsNot => cases e; exact os_isNot
  | In => cases e; exact os_in h1
  | NotIn => cases e; exact os_notIn h1
def notStar : Expr → Bool
  | .Starred _ _ => false
  | _ => true
theorem star_cons {a : Expr} {es : List Expr} {env : Env} (h : notStar a = true) : starEach (a :: es) env = (false, eval a env) :: starEach es env := by
  cases a <;> first | rfl | cases h
def cArgs? (f : Expr → Option C) : List Expr → Option (List C)
  | [] => some []
  | e :: es => if notStar e then (f e).bind fun c => (cArgs? f es).map (c :: ·) else none
def Keeps (X : Cx) (f : Expr → Option C) : Prop := ∀ e c, f e = some c → PE X e (tOf X.K c)
variable {f : Expr → Option C}
theorem s_args (hf : Keeps X f) : ∀ {es : List Expr} {cs : List C}, cArgs? f es = some cs → PA X es (tOfA X.K (cArgs cs)) ∧ (∀ e ∈ es, notStar e = true)
  | [], cs, e => by cases e; exact ⟨sa_nil, by simp⟩
  | a :: es, cs, e => by
    unfold cArgs? at e
    split at e
    · rename_i hs
      obtain ⟨c, e1, e⟩ := Option.bind_eq_some_iff.mp e
      obtain ⟨cs', e2, e⟩ := Option.map_eq_some_iff.mp e
      subst e
      obtain ⟨h1, h2⟩ := s_args hf e2
      exact ⟨sa_cons (hf a c e1) h1 (star_cons hs), fun e he => by
        rcases List.mem_cons.mp he with rfl | he
        · exact hs
        · exact h2 e he⟩
    · cases e
theorem noStar_any {es : List Expr} {env : Env} {pos : Pos} (h : ∀ e ∈ es, notStar e = true) : (backTo pos (starEach es env)).any (·.1) = false := by
  induction es with
  | nil => rfl
  | cons a es ih =>
    rw [star_cons (h a (by simp))]
    show (false || (backTo pos (starEach es env)).any (·.1)) = false
    rw [ih fun e he => h e (by simp [he])]; rfl
def isSlice : Expr → Bool
  | .Slice _ _ _ _ => true
  | _ => false
theorem plainIx {b : Expr} (h : isSlice b = false) : PlainIx b := by
  cases b <;> first | (intro o i; rfl) | cases h
def cPart? (f : Expr → Option C) : Option Expr → Option CO
  | none => some cNoPart
  | some e => (f e).map cPart
theorem s_part (hf : Keeps X f) {e : Option Expr} {c : CO} (h : cPart? f e = some c) : PO X e (tOfO X.K c) := by
  cases e with
  | none => cases h; exact so_none
  | some a =>
    obtain ⟨ca, e1, e2⟩ := Option.map_eq_some_iff.mp h
    subst e2
    exact so_some (hf a ca e1)
def cSub (f : Expr → Option C) (a b : Expr) : Option C := match b with
  | .Slice lo hi none _ => (f a).bind fun ca => (cPart? f lo).bind fun cl => (cPart? f hi).map fun ch => cSl oSl ca cl ch
  | .Slice none none (some st) _ => (f a).bind fun ca => (f st).map fun cs => cBin oRev ca cs
  | _ => if isSlice b then none else (f a).bind fun ca => (f b).map fun cb => cBin oIx ca cb
theorem s_sub (h : Room k X.A) (hf : Keeps X f) {a b : Expr} {pos : Pos} {c : C} (e : cSub f a b = some c) : PE X (.Subscript a b pos) (tOf X.K c) := by
  unfold cSub at e
  split at e
  · obtain ⟨ca, e1, e⟩ := Option.bind_eq_some_iff.mp e
    obtain ⟨cl, e2, e⟩ := Option.bind_eq_some_iff.mp e
    obtain ⟨ch, e3, e⟩ := Option.map_eq_some_iff.mp e
    subst e
    exact se_slice ss_sl (hf a ca e1) (s_part hf e2) (s_part hf e3)
  · obtain ⟨ca, e1, e⟩ := Option.bind_eq_some_iff.mp e
    obtain ⟨cs, e2, e⟩ := Option.map_eq_some_iff.mp e
    subst e
    exact se_rev (hf _ _ e1) (hf _ _ e2)
  · split at e
    · cases e
    · rename_i hs
      obtain ⟨ca, e1, e⟩ := Option.bind_eq_some_iff.mp e
      obtain ⟨cb, e2, e⟩ := Option.map_eq_some_iff.mp e
      subst e
      exact se_ix (os_ix (hu_of h)) (hf a ca e1) (hf b cb e2) (plainIx (by simpa using hs))
def cCompare (f : Expr → Option C) (a : Expr) (ops : List CmpOp) (bs : List Expr) : Option C := match ops, bs with
  | [op], [b] => if behindInMarks op b then none else (opCmp op).bind fun o => (f a).bind fun ca => (f b).map fun cb => cBin o ca cb
  | [op, op'], [b, c] => if lastMarks [op, op'] [b, c] then none else (opCmp op).bind fun o => (opCmp op').bind fun o' => (f a).bind fun ca => (f b).bind fun cb => (f c).map fun cc => cChain o o' ca cb cc
  | _, _ => none
theorem s_compare (h : Room k X.A) (hf : Keeps X f) {a : Expr} {ops : List CmpOp} {bs : List Expr} {pos : Pos} {c : C} (e : cCompare f a ops bs = some c) : PE X (.Compare a ops bs pos) (tOf X.K c) := by
  unfold cCompare at e
  split at e
  · rename_i op b
    split at e
    · cases e
    · rename_i hm
      obtain ⟨o, e0, e⟩ := Option.bind_eq_some_iff.mp e
      obtain ⟨ca, e1, e⟩ := Option.bind_eq_some_iff.mp e
      obtain ⟨cb, e2, e⟩ := Option.map_eq_some_iff.mp e
      subst e
      exact se_cmp (s_cmp h e0) (hf a ca e1) (hf b cb e2) (by simpa using hm)
  · rename_i op op' b c
    split at e
    · cases e
    · rename_i hm
      obtain ⟨o, e0, e⟩ := Option.bind_eq_some_iff.mp e
      obtain ⟨o', e0', e⟩ := Option.bind_eq_some_iff.mp e
      obtain ⟨ca, e1, e⟩ := Option.bind_eq_some_iff.mp e
      obtain ⟨cb, e2, e⟩ := Option.bind_eq_some_iff.mp e
      obtain ⟨cc, e3, e⟩ := Option.map_eq_some_iff.mp e
      subst e
      exact se_chain (s_cmp h e0) (s_cmp h e0') (hf a ca e1) (hf b cb e2) (hf c cc e3) (by simpa using hm)
  · cases e
def tCompare (f : Expr → Option C) (a : Expr) (ops : List CmpOp) (bs : List Expr) : Option CT := match ops, bs with
  | ops, bs => (cCompare f a ops bs).map cBool
theorem s_tcompare (h : Room k X.A) (hf : Keeps X f) {a : Expr} {ops : List CmpOp} {bs : List Expr} {pos : Pos} {c : CT} (e : tCompare f a ops bs = some c) : PT X (.Compare a ops bs pos) (tOfT X.K c) := by
  unfold tCompare at e
  split at e
  · obtain ⟨cc, e1, e⟩ := Option.map_eq_some_iff.mp e
    subst e
    unfold cCompare at e1
    split at e1
    · split at e1
      · cases e1
      · rename_i hm
        obtain ⟨o, e0, e⟩ := Option.bind_eq_some_iff.mp e1
        obtain ⟨ca, g1, e⟩ := Option.bind_eq_some_iff.mp e
        obtain ⟨cb, e2, e⟩ := Option.map_eq_some_iff.mp e
        subst e
        exact st_cmp (s_cmp h e0) (hf _ ca g1) (hf _ cb e2) (by simpa using hm)
    · split at e1
      · cases e1
      · rename_i hm
        obtain ⟨o, e0, e⟩ := Option.bind_eq_some_iff.mp e1
        obtain ⟨o', e0', e⟩ := Option.bind_eq_some_iff.mp e
        obtain ⟨ca, g1, e⟩ := Option.bind_eq_some_iff.mp e
        obtain ⟨cb, e2, e⟩ := Option.bind_eq_some_iff.mp e
        obtain ⟨cc, e3, e⟩ := Option.map_eq_some_iff.mp e
        subst e
        exact st_chain (s_cmp h e0) (s_cmp h e0') (hf _ ca g1) (hf _ cb e2) (hf _ cc e3) (by simpa using hm)
    · cases e1
def bltOf (x : Str) : Option (List D → M D) :=
  if x = ("len" : Str) then some fLen else
  if x = ("isinstance" : Str) then some fInst else
  if x = ("tuple" : Str) then some fTuple else
  if x = ("list" : Str) then some fList else
  if x = ("min" : Str) then some fMin else
  if x = ("max" : Str) then some fMax else
  if x = ("all" : Str) then some (fBools fun bs => bs.all id) else
  if x = ("any" : Str) then some (fBools fun bs => bs.any id) else
  if x = ("int" : Str) then some fInt else
  if x = ("repr" : Str) then some fRepr else
  if x = ("sum" : Str) then some fSum else
  none
def rangeArgs : Expr → Option (List Expr)
  | .Call (.Name x _) as [] _ => if x = ("range" : Str) then some as else none
  | _ => none
def fListR : List D → M D := fun xs S => match xs with
  | [.int j] => if -4611686018427387904 ≤ j ∧ j < 4611686018427387904 ∧ j ≤ 1000 then .ok (.lst S.length) (S ++ [.lst (upD 0 j.toNat)]) else .bad
  | [.int i, .int j] => if -4611686018427387904 ≤ i ∧ i < 4611686018427387904 ∧ -4611686018427387904 ≤ j ∧ j < 4611686018427387904 ∧ j - i ≤ 1000 then .ok (.lst S.length) (S ++ [.lst (upD i (j - i).toNat)]) else .bad
  | _ => .bad
def cCallN (sc : Sc) (ar : Str → Option Nat) (cl : Str → List D → M D) (f : Expr → Option C) (x : Str) (es : List Expr) : Option C :=
  if sc.names.lookup x = some .globalImplicit then
    match ar x with
    | some n => if es.length = n ∧ es ≠ [] ∧ (x == ("__debug__" : Str)) = false then (cArgs? f es).map fun cs => cApp (cl x) (cArgs cs) else none
    | none => match es with
      | [e] => match rangeArgs e with
        | some as => if x = ("list" : Str) ∧ ar "range" = none ∧ sc.names.lookup ("range" : Str) = some .globalImplicit ∧ (as.length = 1 ∨ as.length = 2) then (cArgs? f as).map fun cs => cApp fListR (cArgs cs) else none
        | none => (bltOf x).bind fun o => (cArgs? f es).map fun cs => cApp o (cArgs cs)
      | _ :: _ => (bltOf x).bind fun o => (cArgs? f es).map fun cs => cApp o (cArgs cs)
      | [] => none
  else none
theorem vals_upD {K : PySem.W.Frag} {H : Hp} {μ : List Addr} (lo : Int) (n : Nat) : RVs K H μ (upD lo n) (upV lo n) := by
  unfold upD upV
  generalize List.range n = l
  induction l with
  | nil => exact .nil
  | cons a r ih => exact .cons rv_int ih
set_option maxHeartbeats 2000000 in
theorem s_blt (h : XOk X sc ar cl k) {x : Str} (hx : sc.names.lookup x = some .globalImplicit) (hn : ar x = none) {o : List D → M D} (eo : bltOf x = some o) {e : Expr} {es : List Expr} {cs : List C} (ha : PA X (e :: es) (tOfA X.K (cArgs cs))) (hs : ∀ a ∈ e :: es, notStar a = true) {p pos : Pos} : PE X (.Call (.Name x p) (e :: es) [] pos) (tOf X.K (cApp o (cArgs cs))) := by
  have g := h.gl x hx
  have s1 := star_cons (es := es) (env := X.env) (hs e (by simp))
  have s2 : (backTo pos (starEach es X.env)).any (·.1) = false := noStar_any fun a ha => hs a (by simp [ha])
  unfold bltOf at eo
  have B : ∀ (id : String) (hb : bootBuiltins x = some (.builtin id)) (hm : X.mg x = none) (hne : x ≠ "__name__") (hd : (x == ("__debug__" : Str)) = false) (o : List D → M D), CallS X.K (cAny X (.builtin id)) o → PE X (.Call (.Name x p) (e :: es) [] pos) (tOf X.K (cApp o (cArgs cs))) := fun id hb hm hne hd o ho =>
    (pe_callB callAny g hm hb ha hne hd s1 s2).weak (of_app ho)
  have T : ∀ (id : String) (hb : bootBuiltins x = some (.type id)) (hm : X.mg x = none) (hne : x ≠ "__name__") (hd : (x == ("__debug__" : Str)) = false) (o : List D → M D), CallS X.K (cAny X (.type id)) o → PE X (.Call (.Name x p) (e :: es) [] pos) (tOf X.K (cApp o (cArgs cs))) := fun id hb hm hne hd o ho =>
    (pe_callTy callAny g hm hb ha hne hd s1 s2).weak (of_app ho)
  split at eo
  · rename_i q; subst q; cases eo; exact B "len" bt_len (h.blt _ (by decide +kernel) hn) (by decide +kernel) (by decide +kernel) _ cs_len
  split at eo
  · rename_i q; subst q; cases eo; exact B "isinstance" bt_isinstance (h.blt _ (by decide +kernel) hn) (by decide +kernel) (by decide +kernel) _ cs_inst
  split at eo
  · rename_i q; subst q; cases eo; exact T "tuple" bt_tuple (h.blt _ (by decide +kernel) hn) (by decide +kernel) (by decide +kernel) _ cs_tuple
  split at eo
  · rename_i q; subst q; cases eo; exact T "list" bt_list (h.blt _ (by decide +kernel) hn) (by decide +kernel) (by decide +kernel) _ cs_list
  split at eo
  · rename_i q; subst q; cases eo; exact B "min" bt_min (h.blt _ (by decide +kernel) hn) (by decide +kernel) (by decide +kernel) _ (cs_min h.calm)
  split at eo
  · rename_i q; subst q; cases eo; exact B "max" bt_max (h.blt _ (by decide +kernel) hn) (by decide +kernel) (by decide +kernel) _ (cs_max h.calm)
  split at eo
  · rename_i q; subst q; cases eo; exact B "all" bt_all (h.blt _ (by decide +kernel) hn) (by decide +kernel) (by decide +kernel) _ (cs_all h.calm)
  split at eo
  · rename_i q; subst q; cases eo; exact B "any" bt_any (h.blt _ (by decide +kernel) hn) (by decide +kernel) (by decide +kernel) _ (cs_any h.calm)
  split at eo
  · rename_i q; subst q; cases eo; exact T "int" bt_int (h.blt _ (by decide +kernel) hn) (by decide +kernel) (by decide +kernel) _ cs_int
  split at eo
  · rename_i q; subst q; cases eo; exact B "repr" (by decide +kernel) (h.blt _ (by decide +kernel) hn) (by decide +kernel) (by decide +kernel) _ (cs_repr h.room.gd h.room.units)
  split at eo
  · rename_i q; subst q; cases eo; exact B "sum" (by decide +kernel) (h.blt _ (by decide +kernel) hn) (by decide +kernel) (by decide +kernel) _ (cs_sum h.calm)
  cases eo
theorem s_listR (h : XOk X sc ar cl k) (hx : sc.names.lookup ("list" : Str) = some .globalImplicit) (hn : ar "list" = none) (hr : sc.names.lookup ("range" : Str) = some .globalImplicit) (hnr : ar "range" = none) {as : List Expr} {cs : List C} (ha : PA X as (tOfA X.K (cArgs cs))) (hs : ∀ a ∈ as, notStar a = true) (hl : as.length = 1 ∨ as.length = 2) {p pos p2 pos2 : Pos} :
    PE X (.Call (.Name "list" p) [.Call (.Name "range" p2) as [] pos2] [] pos) (tOf X.K (cApp fListR (cArgs cs))) := by
  have g1 := h.gl _ hx
  have g2 := h.gl _ hr
  have R : PE X (.Call (.Name "range" p2) as [] pos2) (tCB (cAny X (.type "range")) (tOfA X.K (cArgs cs))) := by
    cases as with
    | nil => simp at hl
    | cons e es => exact pe_callTy callAny g2 (h.blt _ (by decide +kernel) hnr) bt_range ha (by decide +kernel) (by decide +kernel) (star_cons (hs e (by simp))) (noStar_any fun a ha => hs a (by simp [ha]))
  have L := pe_callTy (p := p) (pos := pos) (callAny (X := X) (f := .type "list")) g1 (h.blt _ (by decide +kernel) hn) bt_list (pa_cons R pa_nil rfl) (by decide +kernel) (by decide +kernel) rfl rfl
  refine L.weak ?_
  rintro σ H Q ⟨μ, ρ, S, d, S', sr, re, e, y⟩
  obtain ⟨xs, S1, e1, e⟩ := bnd_ok e
  refine ⟨μ, ρ, S, xs, S1, sr, re, e1, fun vs H1 μ1 sr1 st1 r1 => ?_⟩
  have y1 := y.shift st1
  have fin : ∀ (i j : Int), -4611686018427387904 ≤ i → i < 4611686018427387904 → -4611686018427387904 ≤ j → j < 4611686018427387904 → j - i ≤ 1000 → Yld X.K μ1 H1 (.lst S1.length) (S1 ++ [.lst (upD i (j - i).toNat)]) Q → ∀ q, H1 q = none → cAny X (.type "list") [.ref q] (upd H1 q (.rng i j)) Q := by
    intro i j b1 b2 b3 b4 b5 y1 q hq
    obtain ⟨sr2, st2⟩ := sr1.other (o := .rng i j) hq
    exact ⟨_, call_list_rng h.calm, q, i, j, rfl, upd_same, b1, b2, b3, b4, by omega, fun l hl => (y1.shift st2).newL sr2 hl (vals_upD _ _)⟩
  unfold fListR at e
  split at e
  · rename_i j
    split at e
    · rename_i hb
      cases e
      obtain ⟨v, rfl, r⟩ := r1.one
      unfold RV at r; subst r
      refine ⟨_, call_range1, j, rfl, fun q hq => ?_⟩
      have := fin 0 j (by decide) (by decide) hb.1 hb.2.1 (by omega) (by rw [Int.sub_zero]; exact y1) q hq
      exact this
    · cases e
  · rename_i i j
    split at e
    · rename_i hb
      cases e
      obtain ⟨v, u, rfl, r, r'⟩ := r1.two
      unfold RV at r r'; subst r r'
      exact ⟨_, call_range2, i, j, rfl, fun q hq => fin i j hb.1 hb.2.1 hb.2.2.1 hb.2.2.2.1 hb.2.2.2.2 y1 q hq⟩
    · cases e
  · cases e
theorem s_callN (h : XOk X sc ar cl k) (hf : Keeps X f) {x : Str} {es : List Expr} {c : C} {p pos : Pos} (e : cCallN sc ar cl f x es = some c) : PE X (.Call (.Name x p) es [] pos) (tOf X.K c) := by
  unfold cCallN at e
  split at e
  · rename_i hx
    split at e
    · rename_i n hn
      split at e
      · rename_i hc
        obtain ⟨hl, hne, hd⟩ := hc
        obtain ⟨cs, e1, e⟩ := Option.map_eq_some_iff.mp e
        subst e
        obtain ⟨h1, h2⟩ := s_args hf e1
        obtain ⟨⟨ps, Ca⟩, hlen⟩ := h.fns x n hn
        cases es with
        | nil => exact absurd rfl hne
        | cons a es =>
          exact (pe_callC (p := p) (pos := pos) Ca h.room (h.gl x hx) h1 (Nat.le_refl _) hd (star_cons (h2 a (by simp))) (noStar_any fun b hb => h2 b (by simp [hb]))).weak (of_call hlen)
      · cases e
    · rename_i hn
      split at e
      · rename_i a
        split at e
        · rename_i as ha
          split at e
          · rename_i hc
            obtain ⟨rfl, hnr, hr, hl⟩ := hc
            obtain ⟨cs, e1, e⟩ := Option.map_eq_some_iff.mp e
            subst e
            obtain ⟨h1, h2⟩ := s_args hf e1
            unfold rangeArgs at ha
            split at ha
            · rename_i x' p' as' pos'
              split at ha
              · rename_i q; subst q; cases ha
                exact s_listR h hx hn hr hnr h1 h2 hl
              · cases ha
            · cases ha
          · cases e
        · obtain ⟨o, e0, e⟩ := Option.bind_eq_some_iff.mp e
          obtain ⟨cs, e1, e⟩ := Option.map_eq_some_iff.mp e
          subst e
          obtain ⟨h1, h2⟩ := s_args hf e1
          exact s_blt h hx hn e0 h1 h2
      · obtain ⟨o, e0, e⟩ := Option.bind_eq_some_iff.mp e
        obtain ⟨cs, e1, e⟩ := Option.map_eq_some_iff.mp e
        subst e
        obtain ⟨h1, h2⟩ := s_args hf e1
        exact s_blt h hx hn e0 h1 h2
      · cases e
  · cases e
end
end L2
namespace L2
open PySem PySem.Spec PyProof.Rows
section
variable {X : Cx} {sc : Sc} {ar : Str → Option Nat} {cl : Str → List D → M D} {k : Nat} {f : Expr → Option C}
def plainRecv : Expr → Bool
  | .Name _ _ => true
  | .Subscript _ _ _ => true
  | .Call _ (_ :: _) _ _ => true
  | _ => false
theorem base_ok {o : Expr} {name : Str} {env : Env} (h : plainRecv o = true) : attributeBase o name env (eval o env) = eval o env := by
  cases o with
  | Call f args kw pos =>
    cases args with
    | nil => cases h
    | cons a r => cases f <;> rfl
  | _ => first | rfl | cases h
def meth0 (m : Str) (co : C) : Option C :=
  if m = ("pop" : Str) then some (cMeth0 "list" (mList gPop) co) else
  none
def meth1 (m : Str) (co ca : C) : Option C :=
  if m = ("append" : Str) then some (cMeth "list" (mList gAppend) co (cArgs [ca])) else
  if m = ("extend" : Str) then some (cMeth "list" mExtend co (cArgs [ca])) else
  none
def meth2 (m : Str) (co ca cb : C) : Option C :=
  if m = ("insert" : Str) then some (cMeth "list" (mList gInsert) co (cArgs [ca, cb])) else
  none
def cMethod (f : Expr → Option C) (o : Expr) (m : Str) (es : List Expr) (apos cpos : Pos) : Option C :=
  if plainRecv o && (apos.endLine == cpos.line) then (f o).bind fun co => match es with
    | [] => meth0 m co
    | [a] => if notStar a then (f a).bind fun ca => meth1 m co ca else none
    | [a, b] => if notStar a && notStar b then (f a).bind fun ca => (f b).bind fun cb => meth2 m co ca cb else none
    | _ => none
  else none
theorem s_method (hr0 : Room k X.A) (hf : Keeps X f) {o : Expr} {m : Str} {es : List Expr} {apos cpos : Pos} {c : C} (e : cMethod f o m es apos cpos = some c) : PE X (.Call (.Attribute o m apos) es [] cpos) (tOf X.K c) := by
  unfold cMethod at e
  split at e
  · rename_i hc
    rw [Bool.and_eq_true] at hc
    obtain ⟨hr, hl⟩ := hc
    obtain ⟨co, e0, g⟩ := Option.bind_eq_some_iff.mp e
    clear e
    have hb : ∀ name, attributeBase o name X.env (eval o X.env) = eval o X.env := fun name => base_ok hr
    split at g
    · unfold meth0 at g
      split at g
      · rename_i q; subst q; cases g
        exact se_meth0 PySem.F.plainAttrs_list PySem.F.slot_list_pop PySem.F.type_list_pop ms_pop (hf o co e0) (hb _) hl
      cases g
    · rename_i a
      split at g
      · rename_i hs
        obtain ⟨ca, e1, g'⟩ := Option.bind_eq_some_iff.mp g
        clear g
        have s1 := star_cons (es := []) (env := X.env) hs
        have hA : PA X [a] (tOfA X.K (cArgs [ca])) := sa_cons (hf a ca e1) sa_nil s1
        have hfew : ((backTo cpos (starEach [a] X.env)).all (fun x => !x.1) && (backToKw cpos (keywordEach [] X.env)).all (fun x => x.1.isSome)
          && decide ([a].length + ([] : List Keyword).length + (if ([] : List Keyword).isEmpty then 0 else 1) < 30)) = true := by rw [s1]; rfl
        unfold meth1 at g'
        split at g'
        · rename_i q; subst q; cases g'
          exact se_meth PySem.F.plainAttrs_list PySem.F.slot_list_append PySem.F.type_list_append ms_append (hf o co e0) hA (hb _) hfew hl s1 rfl
        split at g'
        · rename_i q; subst q; cases g'
          exact se_meth PySem.F.plainAttrs_list PySem.F.slot_list_extend PySem.F.type_list_extend ms_extend (hf o co e0) hA (hb _) hfew hl s1 rfl
        cases g'
      · cases g
    · rename_i a b
      split at g
      · rename_i hs
        rw [Bool.and_eq_true] at hs
        obtain ⟨ca, e1, g1⟩ := Option.bind_eq_some_iff.mp g
        obtain ⟨cb, e2, g'⟩ := Option.bind_eq_some_iff.mp g1
        clear g g1
        have s2 := star_cons (es := []) (env := X.env) hs.2
        have s1 := star_cons (es := [b]) (env := X.env) hs.1
        have hA : PA X [a, b] (tOfA X.K (cArgs [ca, cb])) := sa_cons (hf a ca e1) (sa_cons (hf b cb e2) sa_nil s2) s1
        have hfew : ((backTo cpos (starEach [a, b] X.env)).all (fun x => !x.1) && (backToKw cpos (keywordEach [] X.env)).all (fun x => x.1.isSome)
          && decide ([a, b].length + ([] : List Keyword).length + (if ([] : List Keyword).isEmpty then 0 else 1) < 30)) = true := by rw [s1, s2]; rfl
        unfold meth2 at g'
        split at g'
        · rename_i q; subst q; cases g'
          exact se_meth PySem.F.plainAttrs_list PySem.F.slot_list_insert PySem.F.type_list_insert ms_insert (hf o co e0) hA (hb _) hfew hl s1 (by rw [s2]; rfl)
        cases g'
      · cases g
    · cases g
  · cases e
def cDNew : C := fun _ S => .ok (.dct S.length) (S ++ [.dk []])
theorem se_dnew {pos : Pos} : PE X (.Dict [] [] pos) (tOf X.K cDNew) := pe_dnewK.weak (by
  rintro σ H Q ⟨μ, ρ, S, d, S', sr, re, e, y⟩
  unfold cDNew at e
  cases e
  intro p hp
  obtain ⟨s1, s2⟩ := sr.push (o := .dK []) (o' := .dk []) hp ⟨[], upd_same, RKs.nil⟩
  exact y _ _ _ s1 s2 (by unfold RV; exact ⟨p, rfl, by rw [← sr.len, List.getElem?_append_right (Nat.le_refl _), Nat.sub_self]; rfl⟩))
def cDOne (a b : C) : C := fun ρ => bnd (a ρ) fun x => bnd (b ρ) fun y S => match keyOf x with
  | some k => .ok (.dct S.length) (S ++ [.dk [(k, y)]])
  | none => .bad
theorem se_done {a b : Expr} {ca cb : C} {pos : Pos} (ha : PE X a (tOf X.K ca)) (hb : PE X b (tOf X.K cb)) : PE X (.Dict [some a] [b] pos) (tOf X.K (cDOne ca cb)) := (pe_disp (pps_cons ha hb pps_nil) rfl rfl (by simp) (by simp)).weak (by
  rintro σ H Q ⟨μ, ρ, S, d, S', sr, re, e, y⟩
  obtain ⟨x, S1, e1, f1⟩ := bnd_ok e
  obtain ⟨z, S2, e2, f2⟩ := bnd_ok f1
  split at f2
  · rename_i key hk
    cases f2
    intro p hp
    obtain ⟨s1, s2⟩ := sr.other (o := .dK []) hp
    refine ⟨μ, ρ, S, x, S1, s1, re.up s2, e1, fun v H1 μ1 sr1 st1 r1 => ⟨μ1, ρ, S1, z, S2, sr1, (re.up s2).up st1, e2, fun u H2 μ2 sr2 st2 r2 => ?_⟩⟩
    have n0 : p ∉ μ := sr.out hp
    have q0 : upd H p (.dK []) p = some (.dK []) := upd_same
    have q1 := st1.fr p _ n0 q0
    have n1 := st1.notIn n0 q0
    have q2 := st2.fr p _ n1 q1
    have n2 := st2.notIn n1 q1
    have ev := keyOf_v hk r1
    subst ev
    refine ⟨q2, [(key, u)], rfl, by simp, ?_⟩
    have e3 : mergeK [] [(key, u)] = [(key, u)] := by simp [mergeK, putK]
    rw [e3]
    have tk : TF X.K H2 (upd H2 p (.dK [(key, u)])) := tf_upd q2 (fun _ z => by cases z) (fun _ _ z => by cases z)
    have st12 := st1.trans st2 sr2.nd
    have st02 : Step X.K μ μ2 H H2 := s2.trans st12 sr2.nd
    have sr3 : SR X.K (μ2 ++ [p]) (S2 ++ [.dk [(key, z)]]) (upd H2 p (.dK [(key, u)])) := by
      refine ⟨by simp [sr2.len], ?_, fun n a w g1 g2 => ?_⟩
      · rw [List.nodup_append]
        refine ⟨sr2.nd, by simp, fun a ha b hb => ?_⟩
        simp at hb; subst hb
        exact fun z => n2 (z ▸ ha)
      · by_cases hn : n < μ2.length
        · rw [List.getElem?_append_left hn] at g1
          rw [List.getElem?_append_left (by rw [← sr2.len]; exact hn)] at g2
          exact (sr2.obj n a w g1 g2).up tk ⟨[p], rfl⟩ (upd_ne fun z => n2 (z ▸ List.mem_of_getElem? g1))
        · rw [List.getElem?_append_right (by omega)] at g1
          rw [List.getElem?_append_right (by rw [← sr2.len]; omega)] at g2
          have h1 : n - μ2.length = 0 := by
            have := (List.getElem?_eq_some_iff.mp g1).1
            simp at this; omega
          rw [h1] at g1
          rw [← sr2.len, h1] at g2
          simp at g1 g2
          subst g1 g2
          exact ⟨[(key, u)], upd_same, RKs.cons (RV.up tk ⟨[p], rfl⟩ _ _ r2) .nil⟩
    have st3 : Step X.K μ (μ2 ++ [p]) H (upd H2 p (.dK [(key, u)])) := by
      obtain ⟨ν, e4, n⟩ := st02.pre
      refine ⟨⟨ν ++ [p], by rw [e4, List.append_assoc], fun b hb => ?_⟩, fun b o hb q => by rw [upd_ne (ne_of_none q hp)]; exact st02.fr b o hb q, st02.tk.trans tk⟩
      rcases List.mem_append.mp hb with h | h
      · exact n b h
      · simp at h; subst h; exact hp
    exact y _ _ _ sr3 st3 (by unfold RV; exact ⟨p, rfl, by rw [← sr2.len, List.getElem?_append_right (Nat.le_refl _), Nat.sub_self]; rfl⟩)
  · cases f2)
def cDict (f : Expr → Option C) (ks : List (Option Expr)) (vs : List Expr) : Option C := match ks, vs with
  | [], [] => some cDNew
  | [some a], [b] => (f a).bind fun ca => (f b).map fun cb => cDOne ca cb
  | _, _ => none
theorem s_dict (hf : Keeps X f) {ks : List (Option Expr)} {vs : List Expr} {pos : Pos} {c : C} (e : cDict f ks vs = some c) : PE X (.Dict ks vs pos) (tOf X.K c) := by
  unfold cDict at e
  split at e
  · cases e; exact se_dnew
  · obtain ⟨ca, e1, e⟩ := Option.bind_eq_some_iff.mp e
    obtain ⟨cb, e2, e⟩ := Option.map_eq_some_iff.mp e
    subst e
    exact se_done (hf _ _ e1) (hf _ _ e2)
  · cases e
def cBoolV (op : BoolOp) (f : Expr → Option C) : List Expr → Option C
  | [] => none
  | [a] => f a
  | a :: b :: r => (f a).bind fun ca => (cBoolV op f (b :: r)).map fun cb => match op with
    | .And => cAndV ca cb
    | .Or => cOrV ca cb
theorem s_boolV (hf : Keeps X f) {op : BoolOp} {pos : Pos} : ∀ {vs : List Expr} {c : C}, cBoolV op f vs = some c → PE X (.BoolOp op vs pos) (tOf X.K c)
  | [], c, e => by cases e
  | [a], c, e => pe_one (hf a c e)
  | a :: b :: r, c, e => by
    unfold cBoolV at e
    obtain ⟨ca, e1, e⟩ := Option.bind_eq_some_iff.mp e
    obtain ⟨cb, e2, e⟩ := Option.map_eq_some_iff.mp e
    subst e
    cases op with
    | And => exact se_and (hf a ca e1) (s_boolV hf e2)
    | Or => exact se_or (hf a ca e1) (s_boolV hf e2)
def KeepsT (X : Cx) (t : Expr → Option CT) : Prop := ∀ e c, t e = some c → PT X e (tOfT X.K c)
variable {t : Expr → Option CT}
def cBoolT (op : BoolOp) (t : Expr → Option CT) : List Expr → Option CT
  | [] => none
  | [a] => t a
  | a :: b :: r => (t a).bind fun ca => (cBoolT op t (b :: r)).map fun cb => match op with
    | .And => cAndT ca cb
    | .Or => cOrT ca cb
theorem s_boolT (ht : KeepsT X t) {op : BoolOp} {pos : Pos} : ∀ {vs : List Expr} {c : CT}, cBoolT op t vs = some c → PW X (.BoolOp op vs pos) (tOfT X.K c)
  | [], c, e => by cases e
  | [a], c, e => by
    cases op with
    | And => exact pw_and1 (ht a c e)
    | Or => exact pw_or1 (ht a c e)
  | a :: b :: r, c, e => by
    unfold cBoolT at e
    obtain ⟨ca, e1, e⟩ := Option.bind_eq_some_iff.mp e
    obtain ⟨cb, e2, e⟩ := Option.map_eq_some_iff.mp e
    subst e
    cases op with
    | And => exact sw_and (ht a ca e1) (s_boolT ht e2)
    | Or => exact sw_or (ht a ca e1) (s_boolT ht e2)
def isTuple : Expr → Bool
  | .Tuple _ _ _ => true
  | _ => false
def isSet : Expr → Bool
  | .Set _ _ _ => true
  | _ => false
theorem folded_ok {iter : Expr} {env : Env} (h : isSet iter = false) : ∀ x, foldedSetIterable iter env x = pure x := by
  cases iter <;> first | (intro x; rfl) | cases h
def cIter (sc : Sc) (ar : Str → Option Nat) (f : Expr → Option C) (tg iter : Expr) : Option CI := if isSet iter then none else match iter with
  | .Call (.Name x _) es [] _ => if sc.names.lookup x = some .globalImplicit ∧ ar x = none then
      (if x = ("range" : Str) then (cArgs? f es).bind fun cs => match es with
          | [_] => some (iRange1 (cArgs cs))
          | [_, _] => some (iRange2 (cArgs cs))
          | _ => none else
        (f iter).map iSeq)
    else (f iter).map iSeq
  | _ => (f iter).map iSeq
theorem s_iter (h : XOk X sc ar cl k) (hf : Keeps X f) {tg iter : Expr} {c : CI} (e : cIter sc ar f tg iter = some c) : PI X tg iter (tOfI X.K c) ∧ isSet iter = false := by
  unfold cIter at e
  split at e
  · cases e
  rename_i hset
  refine ⟨?_, by simpa using hset⟩
  have dflt : ∀ {c}, (f iter).map iSeq = some c → PI X tg iter (tOfI X.K c) := fun e => by
    obtain ⟨ca, e1, e⟩ := Option.map_eq_some_iff.mp e
    subst e
    exact si_seq (hf _ _ e1)
  split at e
  · rename_i x p es pos
    split at e
    · rename_i hx
      have g := h.gl x hx.1
      split at e
      · rename_i q; subst q
        have hm := h.blt _ (by decide +kernel) hx.2
        obtain ⟨cs, e1, e2⟩ := Option.bind_eq_some_iff.mp e
        clear e
        obtain ⟨h1, h2⟩ := s_args hf e1
        split at e2
        · rename_i a
          cases e2
          exact si_range1 (pi_range1 g hm h1 (by rw [star_cons (h2 a (by simp))]; rfl))
        · rename_i a b
          cases e2
          exact si_range2 (pi_range2 g hm h1 (by rw [star_cons (h2 a (by simp)), star_cons (h2 b (by simp))]; rfl) (by rw [star_cons (h2 b (by simp))]; rfl))
        · cases e2
      exact dflt e
    · exact dflt e
  · exact dflt e
def namesOf : List Expr → Option (List Str)
  | [] => some []
  | .Name x _ :: r => (namesOf r).map (x :: ·)
  | _ :: _ => none
def tgtOf : Expr → Option (Tgt × List Str)
  | .Name x _ => some (.one, [x])
  | .Tuple es _ _ => (namesOf es).map fun xs => (.many xs.length, xs)
  | _ => none
def freesOf (ns : List (Str × NameKind)) : List Str := (ns.filter fun y => y.2 == .free).map (·.1)
def slots (N : List Str) : List Str → Option (List Nat)
  | [] => some []
  | x :: r => (slotOf N x 0).bind fun j => (slots N r).map (j :: ·)
def compSc (xs : List Str) (scope : Scope) : Sc := ⟨xs ++ freesOf scope.names, scope.names, false⟩
def compOk (sc : Sc) (xs : List Str) (scope : Scope) : Bool :=
  decide (scope.kind = .function) && scope.names.all (fun y => y.2 != .cell) && scope.names.all (fun y => y.2 != .local || scope.names.lookup y.1 == some .local)
  && decide ((xs ++ freesOf scope.names).Nodup) && xs.all (fun x => scope.names.lookup x == some .local) && decide (1 ≤ xs.length)
  && (freesOf scope.names).all (fun x => (sc.names.lookup x == some .cell || sc.names.lookup x == some .free) && scope.names.lookup x == some .free)
noncomputable def cCompr (sc : Sc) (it : Option CI) (fe : Sc → Expr → Option C) (ft : Sc → Expr → Option CT) (tg elt : Expr) (ifs : List Expr) (scope : Scope) : Option C :=
  (tgtOf tg).bind fun p => if compOk sc p.2 scope then (slots sc.N (freesOf scope.names)).bind fun js => it.bind fun ci => (fe (compSc p.2 scope) elt).bind fun ce => match ifs with
    | [] => some (cComp ci p.2.length js p.1 (fun _ => ret true) ce)
    | [q] => (ft (compSc p.2 scope) q).map fun ct => cComp ci p.2.length js p.1 ct ce
    | _ => none
  else none
theorem slots_get {N : List Str} : ∀ {xs : List Str} {js : List Nat}, slots N xs = some js → js.length = xs.length ∧ ∀ (i j : Nat), js[i]? = some j → ∃ x, xs[i]? = some x ∧ N[j]? = some x
  | [], js, e => by cases e; exact ⟨rfl, fun i j h => by simp at h⟩
  | x :: r, js, e => by
    unfold slots at e
    obtain ⟨j0, e1, e⟩ := Option.bind_eq_some_iff.mp e
    obtain ⟨js', e2, e⟩ := Option.map_eq_some_iff.mp e
    subst e
    obtain ⟨h1, h2⟩ := slots_get e2
    refine ⟨by simp [h1], fun i j h => ?_⟩
    cases i with
    | zero => simp at h; subst h; exact ⟨x, rfl, (slotOf_get e1).2⟩
    | succ i =>
      rw [List.getElem?_cons_succ] at h
      obtain ⟨y, g1, g2⟩ := h2 i j h
      exact ⟨y, by rw [List.getElem?_cons_succ]; exact g1, g2⟩
theorem relabel_glob {env : Env} : ∀ {names : List (Str × NameKind)} {x : Str} {k : NameKind}, k ≠ .free → k ≠ .cell → names.lookup x = some k →
    (names.map fun (n, k) => if (k == NameKind.free && env.scope.kind == .function && env.kindOf n == some .cell) then (n, NameKind.cell) else (n, k)).lookup x = some k
  | [], _, _, _, _, h => by simp at h
  | (n, k') :: r, x, k, nf, nc, h => by
    have ih := @relabel_glob env r x k nf nc
    show List.lookup x ((if (k' == NameKind.free && env.scope.kind == .function && env.kindOf n == some .cell) = true then (n, NameKind.cell) else (n, k')) :: _) = _
    cases hx : x == n with
    | true =>
      simp only [List.lookup_cons, hx] at h
      cases h
      have e : (k' == NameKind.free) = false := by simpa using nf
      simp [List.lookup_cons, hx, e]
    | false =>
      simp only [List.lookup_cons, hx] at h
      by_cases hc : (k' == NameKind.free && env.scope.kind == .function && env.kindOf n == some .cell) = true
      · rw [if_pos hc]; simp only [List.lookup_cons, hx]; exact ih h
      · rw [if_neg hc]; simp only [List.lookup_cons, hx]; exact ih h
theorem look_mem {ns : List (Str × NameKind)} {x : Str} {k : NameKind} (h : ns.lookup x = some k) : (x, k) ∈ ns := mem_of_look h
theorem XOk.comp (h : XOk X sc ar cl k) {xs : List Str} {scope : Scope} (hc : compOk sc xs scope = true) (cl' : List (Str × Addr)) (s : Shared) (H : Hp) (C : Addr) (ex : List Addr) : XOk (cxComp X scope (xs ++ freesOf scope.names) cl' s H C ex) (compSc xs scope) ar cl k := by
  unfold compOk at hc
  simp only [Bool.and_eq_true, decide_eq_true_eq] at hc
  obtain ⟨⟨⟨⟨⟨⟨c1, c2⟩, c3⟩, c4⟩, c5⟩, c6⟩, c7⟩ := hc
  exact {
    calm := h.calm
    N := rfl
    nd := c4
    gl := fun x hx => relabel_glob (by decide) (by decide) hx
    loc := fun x hx => relabel_glob (by decide) (by decide) hx
    cel := fun x hx => by
      have := List.all_eq_true.mp c2 _ (look_mem hx)
      simp at this
    fre := fun x hx => relabel_free hx
    fnn := fun z => by cases z
    room := h.room
    xe := rfl
    blt := h.blt
    fns := h.fns }
theorem namesOf_get : ∀ {es : List Expr} {xs : List Str}, namesOf es = some xs → es.length = xs.length ∧ ∀ (i : Nat) (e : Expr), es[i]? = some e → ∃ x pos, e = .Name x pos ∧ xs[i]? = some x
  | [], xs, h => by cases h; exact ⟨rfl, fun i e h => by simp at h⟩
  | a :: r, xs, h => by
    cases a with
    | Name x pos =>
      unfold namesOf at h
      obtain ⟨ys, e1, e⟩ := Option.map_eq_some_iff.mp h
      subst e
      obtain ⟨h1, h2⟩ := namesOf_get e1
      refine ⟨by simp [h1], fun i e he => ?_⟩
      cases i with
      | zero => simp at he; subst he; exact ⟨x, pos, rfl, rfl⟩
      | succ i =>
        rw [List.getElem?_cons_succ] at he
        obtain ⟨y, p, g1, g2⟩ := h2 i e he
        exact ⟨y, p, g1, by rw [List.getElem?_cons_succ]; exact g2⟩
    | _ => cases h
theorem assignEach_name {x : Str} {pos : Pos} {es : List Expr} {env : Env} : assignEach (.Name x pos :: es) env = (false, assign (.Name x pos) env) :: assignEach es env := rfl
theorem pgs_names : ∀ {es : List Expr} {s : Nat}, (∀ (i : Nat) (e : Expr), es[i]? = some e → ∃ x pos, e = .Name x pos ∧ X.N[s + i]? = some x ∧ Loc X.env.scope x ∧ (X.fn x = true ∨ X.env.scope.names.lookup x = some .local)) → X.N.Nodup → PGs X es (gNames s es.length)
  | [], s, h, nd => pgs_nil
  | a :: r, s, h, nd => by
    obtain ⟨x, pos, rfl, g1, g2, g3⟩ := h 0 a rfl
    refine pgs_cons (pg_name nd (by simpa using g1) g2 g3) (pgs_names (s := s + 1) (fun i e he => ?_) nd) rfl
    obtain ⟨y, p, q1, q2, q3⟩ := h (i + 1) e (by rw [List.getElem?_cons_succ]; exact he)
    exact ⟨y, p, q1, by rw [show s + 1 + i = s + (i + 1) by omega]; exact q2, q3⟩
theorem assignEach_names {env : Env} : ∀ {es : List Expr} {xs : List Str}, namesOf es = some xs → (assignEach es env).length = xs.length ∧ (assignEach es env).findIdx? (·.1) = none
  | [], xs, h => by cases h; exact ⟨rfl, rfl⟩
  | a :: r, xs, h => by
    cases a with
    | Name x pos =>
      unfold namesOf at h
      obtain ⟨ys, e1, e⟩ := Option.map_eq_some_iff.mp h
      subst e
      obtain ⟨h1, h2⟩ := assignEach_names (env := env) e1
      rw [assignEach_name]
      exact ⟨by simp [h1], by rw [List.findIdx?_cons]; simp [h2]⟩
    | _ => cases h
theorem tgt_len {tg : Expr} {t : Tgt} {xs : List Str} (e : tgtOf tg = some (t, xs)) : tgtK t = xs.length := by
  cases tg with
  | Name x pos => cases e; rfl
  | Tuple es n pos =>
    unfold tgtOf at e
    obtain ⟨ys, e1, e⟩ := Option.map_eq_some_iff.mp e
    cases e
    rfl
  | _ => cases e
theorem s_tgt {X' : Cx} {sc' : Sc} (h : XOk X' sc' ar cl k) {tg : Expr} {t : Tgt} {xs : List Str} (e : tgtOf tg = some (t, xs)) (hN : ∀ (i : Nat) (x : Str), xs[i]? = some x → sc'.N[i]? = some x ∧ sc'.names.lookup x = some .local) : PG X' tg (tOfT' X'.K t) ∧ tgtK t = xs.length := by
  have nd : X'.N.Nodup := by rw [h.N]; exact h.nd
  cases tg with
  | Name x pos =>
    cases e
    obtain ⟨g1, g2⟩ := hN 0 x rfl
    have l := h.loc x g2
    exact ⟨pg_name nd (by rw [h.N]; exact g1) (.inl l) (.inr l), rfl⟩
  | Tuple es n pos =>
    unfold tgtOf at e
    obtain ⟨ys, e1, e⟩ := Option.map_eq_some_iff.mp e
    cases e
    obtain ⟨a1, a2⟩ := assignEach_names (env := X'.env) e1
    obtain ⟨n1, n2⟩ := namesOf_get e1
    refine ⟨?_, rfl⟩
    have := pgs_names (X := X') (es := es) (s := 0) (fun i e he => by
      obtain ⟨x, pos, rfl, g⟩ := n2 i e he
      obtain ⟨g1, g2⟩ := hN i x g
      have l := h.loc x g2
      exact ⟨x, pos, rfl, by rw [h.N, Nat.zero_add]; exact g1, .inl l, .inr l⟩) nd
    rw [n1] at this
    exact pg_tup h.calm this a1 a2
  | _ => cases e
theorem s_compr (h : XOk X sc ar cl k) {it : Option CI} {fe : Sc → Expr → Option C} {ft : Sc → Expr → Option CT} {tg iter elt : Expr} {ifs : List Expr} {scope : Scope} {pos : Pos} {c : C} (e : cCompr sc it fe ft tg elt ifs scope = some c)
    (hi : ∀ ci, it = some ci → PI X tg iter (tOfI X.K ci) ∧ isSet iter = false) (hfe : ∀ X' sc', XOk X' sc' ar cl k → Keeps X' (fe sc')) (hft : ∀ X' sc', XOk X' sc' ar cl k → KeepsT X' (ft sc')) : PE X (.ListComp elt [⟨tg, iter, ifs, 0⟩] scope pos) (tOf X.K c) := by
  unfold cCompr at e
  obtain ⟨⟨t, xs⟩, e0, e⟩ := Option.bind_eq_some_iff.mp e
  dsimp only at e
  split at e
  · rename_i hc
    obtain ⟨js, e1, u1⟩ := Option.bind_eq_some_iff.mp e
    obtain ⟨ci, e2, u2⟩ := Option.bind_eq_some_iff.mp u1
    obtain ⟨ce, e3, u3⟩ := Option.bind_eq_some_iff.mp u2
    clear e u1 u2
    obtain ⟨i1, i2⟩ := hi ci e2
    obtain ⟨l1, l2⟩ := slots_get e1
    have hX := fun cl' s H C ex => h.comp hc cl' s H C ex
    have hc' := hc
    unfold compOk at hc'
    simp only [Bool.and_eq_true, decide_eq_true_eq] at hc'
    obtain ⟨⟨⟨⟨⟨⟨c1, c2⟩, c3⟩, c4⟩, c5⟩, c6⟩, c7⟩ := hc'
    have hf7 : ∀ x, (x, NameKind.free) ∈ scope.names → (sc.names.lookup x = some .cell ∨ sc.names.lookup x = some .free) ∧ scope.names.lookup x = some .free := fun x hx => by
      have hm : x ∈ freesOf scope.names := by
        unfold freesOf
        rw [List.mem_map]
        exact ⟨(x, .free), by rw [List.mem_filter]; exact ⟨hx, by simp⟩, rfl⟩
      have := List.all_eq_true.mp c7 x hm
      simpa using this
    have T : ∀ cl' s H C ex, PG (cxComp X scope (xs ++ freesOf scope.names) cl' s H C ex) tg (tOfT' X.K t) ∧ tgtK t = xs.length := fun cl' s H C ex => s_tgt (hX cl' s H C ex) e0 fun i x hx => by
      have hl := (List.getElem?_eq_some_iff.mp hx).1
      refine ⟨?_, ?_⟩
      · show (xs ++ freesOf scope.names)[i]? = some x
        rw [List.getElem?_append_left hl]; exact hx
      · have := List.all_eq_true.mp c5 x (List.mem_of_getElem? hx)
        have : scope.names.lookup x = some .local := by simpa using this
        exact this
    have key : ∀ {tc : TT} {ct : CT} (hT : ∀ cl' s H C ex, PTs (cxComp X scope (xs ++ freesOf scope.names) cl' s H C ex) ifs tc) (hw : ∀ σ H Q, tOfT X.K ct σ H Q → tc σ H Q), PE X (.ListComp elt [⟨tg, iter, ifs, 0⟩] scope pos) (tOf X.K (cComp ci xs.length js t ct ce)) := fun {tc ct} hT hw => by
      have hT' : ∀ cl' s H C ex, PTs (cxComp X scope (xs ++ freesOf scope.names) cl' s H C ex) ifs (tOfT X.K ct) := fun cl' s H C ex pins s' σ H' Q I q => hT cl' s H C ex pins s' σ H' Q I (hw σ H' Q q)
      refine (pe_comp (N := xs ++ freesOf scope.names) (k := xs.length) (js := js) h.calm i1 c1 (fun y hy => ?_) (fun x hx => ?_) (fun x hx hxl => ?_) ?_ (fun i j hj => ?_) (fun cl' s H C ex => (T cl' s H C ex).1) hT' (fun cl' s H C ex => hfe _ _ (hX cl' s H C ex) elt ce e3) (folded_ok i2)).weak fun σ H Q q => of_comp ?_ c6 q
      · have := List.all_eq_true.mp c2 y hy
        simpa using this
      · rcases (hf7 x hx).1 with q | q
        · exact .inl (h.cel x q)
        · exact h.fre x q
      · have := List.all_eq_true.mp c3 x hx
        simp only [Bool.or_eq_true, bne_iff_ne, ne_eq, beq_iff_eq] at this
        rcases this with z | z
        · exact absurd hxl z
        · exact z
      · rw [List.length_append, l1]
      · obtain ⟨x, g1, g2⟩ := l2 i j hj
        have hm : (x, NameKind.free) ∈ scope.names := by
          have := List.mem_of_getElem? g1
          unfold freesOf at this
          rw [List.mem_map] at this
          obtain ⟨⟨y, ky⟩, m1, m2⟩ := this
          rw [List.mem_filter] at m1
          dsimp only at m2
          subst m2
          have : ky = .free := by simpa using m1.2
          subst this
          exact m1.1
        obtain ⟨v1, v2⟩ := hf7 x hm
        refine ⟨x, ?_, by rw [h.N]; exact g2, v2, h.vis (.inr v1)⟩
        rw [List.getElem?_append_right (by omega), Nat.add_sub_cancel_left]; exact g1
      · rw [tgt_len e0]; exact Nat.le_refl _
    split at u3
    · cases u3
      refine key (fun cl' s H C ex => pts_nil) fun σ H Q ⟨μ, ρ, S, d, S', sr, re, e, y⟩ => ?_
      obtain ⟨rfl, rfl⟩ := ret_ok e
      exact y H μ sr (Step.refl _ _ _)
    · rename_i q
      obtain ⟨ct, e4, u4⟩ := Option.map_eq_some_iff.mp u3
      subst u4
      exact key (fun cl' s H C ex => pts_one (hft _ _ (hX cl' s H C ex) q ct e4)) fun σ H Q z => z
    · cases u3
  · cases e
theorem s_comprU (h : XOk X sc ar cl k) {it : Option CI} {fe : Sc → Expr → Option C} {ft : Sc → Expr → Option CT} {tg iter elt : Expr} {ifs : List Expr} {scope : Scope} {pos pos' spos : Pos} {y0 : Str} {go : TG} (hgo : PG X (.Name y0 pos') go) (hsw : swapsWith (.ListComp elt [⟨tg, iter, ifs, 0⟩] scope pos) (some (.Name y0 pos')) spos.line X.env = pure true) {c : C} (e : cCompr sc it fe ft tg elt ifs scope = some c)
    (hi : ∀ ci, it = some ci → PI X tg iter (tOfI X.K ci) ∧ isSet iter = false) (hfe : ∀ X' sc', XOk X' sc' ar cl k → Keeps X' (fe sc')) (hft : ∀ X' sc', XOk X' sc' ar cl k → KeepsT X' (ft sc')) : PS X (.Assign [.Name y0 pos'] (.ListComp elt [⟨tg, iter, ifs, 0⟩] scope pos) spos) (tAsg (tOf X.K c) go) := by
  unfold cCompr at e
  obtain ⟨⟨t, xs⟩, e0, e⟩ := Option.bind_eq_some_iff.mp e
  dsimp only at e
  split at e
  · rename_i hc
    obtain ⟨js, e1, u1⟩ := Option.bind_eq_some_iff.mp e
    obtain ⟨ci, e2, u2⟩ := Option.bind_eq_some_iff.mp u1
    obtain ⟨ce, e3, u3⟩ := Option.bind_eq_some_iff.mp u2
    clear e u1 u2
    obtain ⟨i1, i2⟩ := hi ci e2
    obtain ⟨l1, l2⟩ := slots_get e1
    have hX := fun cl' s H C ex => h.comp hc cl' s H C ex
    have hc' := hc
    unfold compOk at hc'
    simp only [Bool.and_eq_true, decide_eq_true_eq] at hc'
    obtain ⟨⟨⟨⟨⟨⟨c1, c2⟩, c3⟩, c4⟩, c5⟩, c6⟩, c7⟩ := hc'
    have hf7 : ∀ x, (x, NameKind.free) ∈ scope.names → (sc.names.lookup x = some .cell ∨ sc.names.lookup x = some .free) ∧ scope.names.lookup x = some .free := fun x hx => by
      have hm : x ∈ freesOf scope.names := by
        unfold freesOf
        rw [List.mem_map]
        exact ⟨(x, .free), by rw [List.mem_filter]; exact ⟨hx, by simp⟩, rfl⟩
      have := List.all_eq_true.mp c7 x hm
      simpa using this
    have T : ∀ cl' s H C ex, PG (cxComp X scope (xs ++ freesOf scope.names) cl' s H C ex) tg (tOfT' X.K t) ∧ tgtK t = xs.length := fun cl' s H C ex => s_tgt (hX cl' s H C ex) e0 fun i x hx => by
      have hl := (List.getElem?_eq_some_iff.mp hx).1
      refine ⟨?_, ?_⟩
      · show (xs ++ freesOf scope.names)[i]? = some x
        rw [List.getElem?_append_left hl]; exact hx
      · have := List.all_eq_true.mp c5 x (List.mem_of_getElem? hx)
        have : scope.names.lookup x = some .local := by simpa using this
        exact this
    have key : ∀ {tc : TT} {ct : CT} (hT : ∀ cl' s H C ex, PTs (cxComp X scope (xs ++ freesOf scope.names) cl' s H C ex) ifs tc) (hw : ∀ σ H Q, tOfT X.K ct σ H Q → tc σ H Q), PS X (.Assign [.Name y0 pos'] (.ListComp elt [⟨tg, iter, ifs, 0⟩] scope pos) spos) (tAsg (tOf X.K (cComp ci xs.length js t ct ce)) go) := fun {tc ct} hT hw => by
      have hT' : ∀ cl' s H C ex, PTs (cxComp X scope (xs ++ freesOf scope.names) cl' s H C ex) ifs (tOfT X.K ct) := fun cl' s H C ex pins s' σ H' Q I q => hT cl' s H C ex pins s' σ H' Q I (hw σ H' Q q)
      refine (ps_compSet hgo hsw (N := xs ++ freesOf scope.names) (k := xs.length) (js := js) h.calm i1 c1 (fun y hy => ?_) (fun x hx => ?_) (fun x hx hxl => ?_) ?_ (fun i j hj => ?_) (fun cl' s H C ex => (T cl' s H C ex).1) hT' (fun cl' s H C ex => hfe _ _ (hX cl' s H C ex) elt ce e3) (folded_ok i2)).weak fun D σ H q => of_comp ?_ c6 q
      · have := List.all_eq_true.mp c2 y hy
        simpa using this
      · rcases (hf7 x hx).1 with q | q
        · exact .inl (h.cel x q)
        · exact h.fre x q
      · have := List.all_eq_true.mp c3 x hx
        simp only [Bool.or_eq_true, bne_iff_ne, ne_eq, beq_iff_eq] at this
        rcases this with z | z
        · exact absurd hxl z
        · exact z
      · rw [List.length_append, l1]
      · obtain ⟨x, g1, g2⟩ := l2 i j hj
        have hm : (x, NameKind.free) ∈ scope.names := by
          have := List.mem_of_getElem? g1
          unfold freesOf at this
          rw [List.mem_map] at this
          obtain ⟨⟨y, ky⟩, m1, m2⟩ := this
          rw [List.mem_filter] at m1
          dsimp only at m2
          subst m2
          have : ky = .free := by simpa using m1.2
          subst this
          exact m1.1
        obtain ⟨v1, v2⟩ := hf7 x hm
        refine ⟨x, ?_, by rw [h.N]; exact g2, v2, h.vis (.inr v1)⟩
        rw [List.getElem?_append_right (by omega), Nat.add_sub_cancel_left]; exact g1
      · rw [tgt_len e0]; exact Nat.le_refl _
    split at u3
    · cases u3
      refine key (fun cl' s H C ex => pts_nil) fun σ H Q ⟨μ, ρ, S, d, S', sr, re, e, y⟩ => ?_
      obtain ⟨rfl, rfl⟩ := ret_ok e
      exact y H μ sr (Step.refl _ _ _)
    · rename_i q
      obtain ⟨ct, e4, u4⟩ := Option.map_eq_some_iff.mp u3
      subst u4
      exact key (fun cl' s H C ex => pts_one (hft _ _ (hX cl' s H C ex) q ct e4)) fun σ H Q z => z
    · cases u3
  · cases e
end
end L2
namespace L2
open PySem PySem.Spec PyProof.Rows
section
variable (ar : Str → Option Nat) (cl : Str → List D → M D)
mutual
noncomputable def cE : Nat → Sc → Expr → Option C
  | 0, _, _ => none
  | n + 1, sc, e => match e with
    | .Constant v _ _ => cConst v
    | .Name x _ => cName sc ar x
    | .BinOp a op b _ => (opBin op).bind fun o => (cE n sc a).bind fun ca => (cE n sc b).map fun cb => cBin o ca cb
    | .UnaryOp op a _ => match op with
      | .USub => (cE n sc a).map fun ca => cUn oNeg ca
      | .Not => (cE n sc a).map fun ca => cNotV ca
      | _ => none
    | .BoolOp op vs _ => cBoolV op (cE n sc) vs
    | .IfExp t a b _ => (cT n sc t).bind fun ct => (cE n sc a).bind fun ca => (cE n sc b).map fun cb => cIf ct ca cb
    | .Compare a ops bs _ => cCompare (cE n sc) a ops bs
    | .Tuple es _ _ => (cArgs? (cE n sc) es).bind fun cs => if cs.length ≤ 1000 then some (cTup (cArgs cs)) else none
    | .List es _ => (cArgs? (cE n sc) es).bind fun cs => if cs.length ≤ 1000 then some (cLst (cArgs cs)) else none
    | .Subscript a b _ => cSub (cE n sc) a b
    | .Dict ks vs _ => cDict (cE n sc) ks vs
    | .Call fn es kw cpos => match kw with
      | [] => match fn with
        | .Name x _ => cCallN sc ar cl (cE n sc) x es
        | .Attribute o m apos => cMethod (cE n sc) o m es apos cpos
        | _ => none
      | _ :: _ => none
    | .ListComp elt gens scope _ => match gens with
      | [⟨tg, iter, ifs, ia⟩] => if ia = 0 then cCompr sc (cIter sc ar (cE n sc) tg iter) (cE n) (cT n) tg elt ifs scope else none
      | _ => none
    | _ => none
noncomputable def cT : Nat → Sc → Expr → Option CT
  | 0, _, _ => none
  | n + 1, sc, e => match e with
    | .UnaryOp op a _ => match op with
      | .Not => (cT n sc a).map fun ca => cNotT ca
      | _ => (cE n sc e).map cTru
    | .BoolOp op vs _ => cBoolT op (cT n sc) vs
    | .IfExp _ _ _ _ => none
    | .Compare a ops bs _ => tCompare (cE n sc) a ops bs
    | _ => (cE n sc e).map cTru
end
end
section
variable {X : Cx} {sc : Sc} {ar : Str → Option Nat} {cl : Str → List D → M D} {k : Nat}
theorem s_all : ∀ n : Nat, (∀ X sc, XOk X sc ar cl k → Keeps X (cE ar cl n sc)) ∧ (∀ X sc, XOk X sc ar cl k → KeepsT X (cT ar cl n sc))
  | 0 => ⟨fun X sc h e c q => (by unfold cE at q; cases q), fun X sc h e c q => (by unfold cT at q; cases q)⟩
  | n + 1 => by
    obtain ⟨ihE, ihT⟩ := s_all n
    refine ⟨fun X sc h e c q => ?_, fun X sc h e c q => ?_⟩
    · have hf := ihE X sc h
      have ht := ihT X sc h
      unfold cE at q
      cases e with
      | Constant v j pos => exact s_const q
      | Name x pos => exact s_name h q
      | BinOp a op b pos =>
        obtain ⟨o, e0, q1⟩ := Option.bind_eq_some_iff.mp q
        obtain ⟨ca, e1, q2⟩ := Option.bind_eq_some_iff.mp q1
        obtain ⟨cb, e2, q3⟩ := Option.map_eq_some_iff.mp q2
        subst q3
        exact se_bin (s_op e0) (hf _ _ e1) (hf _ _ e2)
      | UnaryOp op a pos =>
        cases op with
        | USub =>
          obtain ⟨ca, e1, q2⟩ := Option.map_eq_some_iff.mp q
          subst q2
          exact se_un us_neg (hf _ _ e1)
        | Not =>
          obtain ⟨ca, e1, q2⟩ := Option.map_eq_some_iff.mp q
          subst q2
          exact se_not (hf _ _ e1)
        | _ => cases q
      | BoolOp op vs pos => exact s_boolV hf q
      | IfExp t a b pos =>
        obtain ⟨ct, e0, q1⟩ := Option.bind_eq_some_iff.mp q
        obtain ⟨ca, e1, q2⟩ := Option.bind_eq_some_iff.mp q1
        obtain ⟨cb, e2, q3⟩ := Option.map_eq_some_iff.mp q2
        subst q3
        exact se_ifExp (ht _ _ e0) (hf _ _ e1) (hf _ _ e2)
      | Compare a ops bs pos => exact s_compare h.room hf q
      | Tuple es j pos =>
        obtain ⟨cs, e1, q1⟩ := Option.bind_eq_some_iff.mp q
        split at q1
        · rename_i hl; cases q1; exact se_tup (s_args hf e1).1 hl
        · cases q1
      | List es pos =>
        obtain ⟨cs, e1, q1⟩ := Option.bind_eq_some_iff.mp q
        split at q1
        · rename_i hl; cases q1; exact se_lst (s_args hf e1).1 hl
        · cases q1
      | Subscript a b pos => exact s_sub h.room hf q
      | Dict ks vs pos => exact s_dict hf q
      | Call fn es kw cpos =>
        cases kw with
        | cons _ _ => cases q
        | nil =>
          cases fn with
          | Name x p => exact s_callN h hf q
          | Attribute o m apos => exact s_method h.room hf q
          | _ => cases q
      | ListComp elt gens scope pos =>
        cases gens with
        | nil => cases q
        | cons g gs =>
          obtain ⟨tg, iter, ifs, ia⟩ := g
          cases gs with
          | cons _ _ => cases q
          | nil =>
            dsimp only at q
            split at q
            · rename_i hz
              subst hz
              exact s_compr h q (fun ci e => s_iter h hf e) (fun X' sc' h' => ihE X' sc' h') (fun X' sc' h' => ihT X' sc' h')
            · cases q
      | _ => cases q
    · have hf := ihE X sc h
      have ht := ihT X sc h
      unfold cT at q
      have dflt : ∀ {c : CT}, (cE ar cl n sc e).map cTru = some c → (∀ whole, isTrue e X.env whole = (do let v ← whole; standAt e.pos; holding [v] (truthy v))) → PT X e (tOfT X.K c) := fun {c} q he => by
        obtain ⟨ca, e1, q2⟩ := Option.map_eq_some_iff.mp q
        subst q2
        exact st_tru (hf _ _ e1) he
      cases e with
      | UnaryOp op a pos =>
        cases op with
        | Not =>
          obtain ⟨ca, e1, q2⟩ := Option.map_eq_some_iff.mp q
          subst q2
          exact st_not (ht _ _ e1)
        | USub => exact dflt q fun _ => rfl
        | UAdd => exact dflt q fun _ => rfl
        | Invert => exact dflt q fun _ => rfl
      | BoolOp op vs pos => exact (s_boolT ht q).pt
      | IfExp t a b pos => cases q
      | Compare a ops bs pos => exact s_tcompare h.room hf q
      | _ => exact dflt q fun _ => rfl
section
variable (ar : Str → Option Nat) (cl : Str → List D → M D)
def cTg (sc : Sc) (x : Str) : Option G := (slotOf sc.N x 0).bind fun i => if sc.names.lookup x = some .local ∨ (sc.fn = true ∧ sc.names.lookup x = some .cell) then some (gN i) else none
mutual
noncomputable def cG : Nat → Sc → Expr → Option G
  | 0, _, _ => none
  | n + 1, sc, e => match e with
    | .Name x _ => cTg sc x
    | .Subscript a b _ => match b with
      | _ => if isSlice b then none else (cE ar cl n sc a).bind fun ca => (cE ar cl n sc b).map fun cb => gS ca cb
    | .Tuple es _ _ => (cGs n sc es).map fun gs => gT gs
    | _ => none
noncomputable def cGs : Nat → Sc → List Expr → Option (List G)
  | 0, _, _ => none
  | n + 1, sc, es => match es with
    | [] => some []
    | e :: r => if notStar e then (cG n sc e).bind fun g => (cGs n sc r).map fun gs => g :: gs else none
end
end
theorem XOk.nd' (h : XOk X sc ar cl k) : X.N.Nodup := by rw [h.N]; exact h.nd
theorem s_tg (h : XOk X sc ar cl k) {x : Str} {g : G} (e : cTg sc x = some g) : ∃ i, g = gN i ∧ X.N[i]? = some x ∧ Loc X.env.scope x ∧ (X.fn x = true ∨ X.env.scope.names.lookup x = some .local) := by
  unfold cTg at e
  obtain ⟨i, e1, e2⟩ := Option.bind_eq_some_iff.mp e
  split at e2
  · rename_i hc
    cases e2
    refine ⟨i, rfl, by rw [h.N]; exact (slotOf_get e1).2, ?_⟩
    rcases hc with q | ⟨q1, q2⟩
    · exact ⟨.inl (h.loc x q), .inr (h.loc x q)⟩
    · exact ⟨.inr (h.cel x q2), .inl (h.fnn q1 x)⟩
  · cases e2
theorem assign_sub {a b : Expr} {pos : Pos} {env : Env} (h : isSlice b = false) : ∀ v, assign (.Subscript a b pos) env v = (do
      let ov ← holding [v] (eval a env)
      let iv ← holding [v, ov] (eval b env)
      standAt pos
      holding [v, ov, iv] (setItem ov iv v)
      release [v, ov, iv] []) := by
  cases b <;> first | (intro v; rfl) | cases h
theorem assignEach_cons {e : Expr} {es : List Expr} {env : Env} (h : notStar e = true) : assignEach (e :: es) env = (false, assign e env) :: assignEach es env := by
  cases e <;> first | rfl | cases h
theorem s_G : ∀ n : Nat, (∀ X sc, XOk X sc ar cl k → ∀ e g, cG ar cl n sc e = some g → PG X e (tOfG X.K g)) ∧ (∀ X sc, XOk X sc ar cl k → ∀ es gs, cGs ar cl n sc es = some gs → PGs X es (tOfGs X.K gs) ∧ (assignEach es X.env).length = gs.length ∧ (assignEach es X.env).findIdx? (·.1) = none)
  | 0 => ⟨fun X sc h e c q => (by unfold cG at q; cases q), fun X sc h e c q => (by unfold cGs at q; cases q)⟩
  | n + 1 => by
    obtain ⟨ih, ihs⟩ := s_G n
    refine ⟨fun X sc h e g q => ?_, fun X sc h es gs q => ?_⟩
    · unfold cG at q
      cases e with
      | Name x pos =>
        obtain ⟨i, rfl, h1, h2, h3⟩ := s_tg h q
        exact sg_name (pg_name h.nd' h1 h2 h3)
      | Subscript a b pos =>
        dsimp only at q
        split at q
        · cases q
        · rename_i hs
          obtain ⟨ca, e1, q1⟩ := Option.bind_eq_some_iff.mp q
          obtain ⟨cb, e2, q2⟩ := Option.map_eq_some_iff.mp q1
          subst q2
          exact sg_sub (hu_of h.room) ((s_all n).1 X sc h _ _ e1) ((s_all n).1 X sc h _ _ e2) (assign_sub (by simpa using hs))
      | Tuple es j pos =>
        obtain ⟨gs, e1, q1⟩ := Option.map_eq_some_iff.mp q
        subst q1
        obtain ⟨h1, h2, h3⟩ := ihs X sc h es gs e1
        exact sg_tup h.calm h1 h2 h3
      | _ => cases q
    · unfold cGs at q
      cases es with
      | nil => cases q; exact ⟨sgs_nil, rfl, rfl⟩
      | cons e r =>
        dsimp only at q
        split at q
        · rename_i hs
          obtain ⟨g, e1, q1⟩ := Option.bind_eq_some_iff.mp q
          obtain ⟨gs', e2, q2⟩ := Option.map_eq_some_iff.mp q1
          subst q2
          obtain ⟨h1, h2, h3⟩ := ihs X sc h r gs' e2
          have ha := assignEach_cons (es := r) (env := X.env) hs
          refine ⟨sgs_cons (ih X sc h e g e1) h1 (by rw [ha]; rfl), by rw [ha]; simp [h2], by rw [ha, List.findIdx?_cons]; simp [h3]⟩
        · cases q
def isComp : Expr → Bool
  | .ListComp _ _ _ _ => true
  | .SetComp _ _ _ _ => true
  | .DictComp _ _ _ _ _ => true
  | _ => false
theorem swaps_no {e : Expr} {t : Option Expr} {n : Nat} {env : Env} (h : isComp e = false) : swapsWith e t n env = pure false := by
  cases e <;> first | rfl | cases h
def compBad : Expr → Expr → Bool
  | .Name _ _, .ListComp _ _ _ _ => false
  | _, e => isComp e
theorem s_compSet (h : XOk X sc ar cl k) : ∀ {n : Nat} {elt : Expr} {gens : List Comprehension} {scope : Scope} {pos pos' spos : Pos} {x : Str} {c : C} {i : Nat} (q : cE ar cl n sc (.ListComp elt gens scope pos) = some c) (hgo : PG X (.Name x pos') (gName i))
    (hsw : swapsWith (.ListComp elt gens scope pos) (some (.Name x pos')) spos.line X.env = pure true), PS X (.Assign [.Name x pos'] (.ListComp elt gens scope pos) spos) (tAsg (tOf X.K c) (gName i))
  | 0, _, _, _, _, _, _, _, _, _, q, _, _ => by unfold cE at q; cases q
  | n + 1, elt, gens, scope, pos, pos', spos, x, c, i, q, hgo, hsw => by
    obtain ⟨ihE, ihT⟩ := s_all (ar := ar) (cl := cl) (k := k) n
    unfold cE at q
    cases gens with
    | nil => cases q
    | cons g gs =>
      obtain ⟨tg, iter, ifs, ia⟩ := g
      cases gs with
      | cons _ _ => cases q
      | nil =>
        dsimp only at q
        split at q
        · rename_i hz
          subst hz
          exact s_comprU h hgo hsw q (fun ci e => s_iter h (ihE X sc h) e) (fun X' sc' h' => ihE X' sc' h') (fun X' sc' h' => ihT X' sc' h')
        · cases q
theorem swaps_comp {elt : Expr} {gens : List Comprehension} {scope : Scope} {pos pos' : Pos} {x : Str} {line : Nat} {env : Env} : ∃ b : Bool, swapsWith (.ListComp elt gens scope pos) (some (.Name x pos')) line env = pure b := ⟨_, rfl⟩
theorem compBad_or {tg e : Expr} (h : compBad tg e = false) : isComp e = false ∨ ∃ x pos' elt gens scope pos, tg = .Name x pos' ∧ e = .ListComp elt gens scope pos := by
  cases tg with
  | Name x pos' =>
    cases e with
    | ListComp elt gens scope pos => exact .inr ⟨x, pos', elt, gens, scope, pos, rfl, rfl⟩
    | _ => exact .inl h
  | _ => exact .inl h
def isLst : Expr → Bool
  | .List _ _ => true
  | _ => false
theorem swapped_no {tg e : Expr} {env : Env} (h : (isTuple tg && isTuple e) = false) (hl : isLst tg = false) : swappedStores [tg] e env = pure none := by
  cases tg with
  | Tuple es n pos => cases e <;> first | rfl | cases h
  | List es pos => cases hl
  | _ => rfl
def wfuel : Nat := 100000
section
variable (ar : Str → Option Nat) (cl : Str → List D → M D)
mutual
noncomputable def cSt : Nat → Sc → Stmt → Option CS
  | 0, _, _ => none
  | n + 1, sc, s => match s with
    | .Return v _ => match v with
      | none => some sRetN
      | some e => (cE ar cl n sc e).map fun c => sRet c
    | .Expr e _ => if isComp e then none else (cE ar cl n sc e).map fun c => sExpr c
    | .Assign tgs e _ => match tgs with
      | [tg] =>
        if compBad tg e || (isTuple tg && isTuple e) || isLst tg || !notStar tg then none else (cE ar cl n sc e).bind fun c => (cG ar cl n sc tg).map fun g => sAsg c g
      | _ => none
    | .If t a b _ => (cT ar cl n sc t).bind fun ct => (cSts n sc a).bind fun ca => (cSts n sc b).map fun cb => sIf ct ca cb
    | .For tg it body els _ => match els with
      | [] => (cIter sc ar (cE ar cl n sc) tg it).bind fun ci => (cG ar cl n sc tg).bind fun g => (cSts n sc body).map fun cb => sFor ci g cb
      | _ :: _ => none
    | .While t body els _ => match els with
      | [] => (cT ar cl n sc t).bind fun ct => (cSts n sc body).map fun cb => whileS wfuel ct cb
      | _ :: _ => none
    | .Pass _ => some sPass
    | .Break _ => some sBrk
    | .Continue _ => some sCnt
    | .Raise _ _ _ => some sBad
    | _ => none
noncomputable def cSts : Nat → Sc → List Stmt → Option CS
  | 0, _, _ => none
  | n + 1, sc, ss => match ss with
    | [] => some sPass
    | s :: r => (cSt n sc s).bind fun c => (cSts n sc r).map fun d => sSeq c d
end
end
theorem pass_no (h : XOk X sc ar cl k) : PassesOwn (model X.prog X.w) X.A X.env X.xe := by rw [h.xe]; exact PassesOwn.never
theorem s_St : ∀ n : Nat, (∀ X sc, XOk X sc ar cl k → ∀ s c, cSt ar cl n sc s = some c → PS X s (tOfS X.K c)) ∧ (∀ X sc, XOk X sc ar cl k → ∀ s c, cSts ar cl n sc s = some c → PSs X s (tOfS X.K c))
  | 0 => ⟨fun X sc h e c q => (by unfold cSt at q; cases q), fun X sc h e c q => (by unfold cSts at q; cases q)⟩
  | n + 1 => by
    obtain ⟨ih, ihs⟩ := s_St n
    refine ⟨fun X sc h s c q => ?_, fun X sc h ss c q => ?_⟩
    · have hf := (s_all (ar := ar) (cl := cl) (k := k) n).1 X sc h
      have ht := (s_all (ar := ar) (cl := cl) (k := k) n).2 X sc h
      have hg := (s_G (ar := ar) (cl := cl) (k := k) n).1 X sc h
      unfold cSt at q
      cases s with
      | Return v pos =>
        cases v with
        | none => cases q; exact ss_retN
        | some e =>
          obtain ⟨ce, e1, q1⟩ := Option.map_eq_some_iff.mp q
          subst q1
          exact ss_ret (hf _ _ e1)
      | Expr e pos =>
        dsimp only at q
        split at q
        · cases q
        · rename_i hc
          obtain ⟨ce, e1, q1⟩ := Option.map_eq_some_iff.mp q
          subst q1
          exact ss_expr (hf _ _ e1) (swaps_no (by simpa using hc))
      | Assign tgs e pos =>
        cases tgs with
        | nil => cases q
        | cons tg r =>
          cases r with
          | cons _ _ => cases q
          | nil =>
            dsimp only at q
            split at q
            · cases q
            · rename_i hc
              simp only [Bool.or_eq_true, not_or, Bool.not_eq_true, Bool.not_eq_true', Bool.not_eq_false] at hc
              obtain ⟨⟨⟨c1, c2⟩, c3⟩, c4⟩ := hc
              obtain ⟨ce, e1, q1⟩ := Option.bind_eq_some_iff.mp q
              obtain ⟨g, e2, q2⟩ := Option.map_eq_some_iff.mp q1
              subst q2
              rcases compBad_or c1 with c1 | ⟨x, px, elt, gens, scope, pc, rfl, rfl⟩
              · refine ss_asg (hf _ _ e1) (hg _ _ e2) (swaps_no c1) (swapped_no c2 c3) ?_
                rw [assignEach_cons (by simpa using c4)]; rfl
              · obtain ⟨b, hb⟩ := swaps_comp (elt := elt) (gens := gens) (scope := scope) (pos := pc) (pos' := px) (x := x) (line := pos.line) (env := X.env)
                cases b with
                | false => exact ss_asg (hf _ _ e1) (hg _ _ e2) hb (swapped_no c2 c3) (by rw [assignEach_cons (by simpa using c4)]; rfl)
                | true =>
                  cases n with
                  | zero => unfold cG at e2; cases e2
                  | succ n =>
                    unfold cG at e2
                    obtain ⟨i, rfl, h1, h2, h3⟩ := s_tg h e2
                    exact ss_set (s_compSet h e1 (pg_name h.nd' h1 h2 h3) hb)
      | If t a b pos =>
        obtain ⟨ct, e0, q1⟩ := Option.bind_eq_some_iff.mp q
        obtain ⟨ca, e1, q2⟩ := Option.bind_eq_some_iff.mp q1
        obtain ⟨cb, e2, q3⟩ := Option.map_eq_some_iff.mp q2
        subst q3
        exact ss_if (ht _ _ e0) (ihs X sc h _ _ e1) (ihs X sc h _ _ e2)
      | For tg it body els pos =>
        cases els with
        | cons _ _ => cases q
        | nil =>
          obtain ⟨ci, e0, q1⟩ := Option.bind_eq_some_iff.mp q
          obtain ⟨g, e1, q2⟩ := Option.bind_eq_some_iff.mp q1
          obtain ⟨cb, e2, q3⟩ := Option.map_eq_some_iff.mp q2
          subst q3
          obtain ⟨i1, i2⟩ := s_iter h hf e0
          exact ss_for (pass_no h) h.calm i1 (hg _ _ e1) (ihs X sc h _ _ e2) (folded_ok i2)
      | While t body els pos =>
        cases els with
        | cons _ _ => cases q
        | nil =>
          obtain ⟨ct, e0, q1⟩ := Option.bind_eq_some_iff.mp q
          obtain ⟨cb, e2, q3⟩ := Option.map_eq_some_iff.mp q1
          subst q3
          exact ss_while wfuel (pass_no h) (ht _ _ e0) (ihs X sc h _ _ e2)
      | Pass pos => cases q; exact ss_pass
      | Break pos => cases q; exact ss_brk
      | Continue pos => cases q; exact ss_cnt
      | Raise a b pos => cases q; exact ss_bad
      | _ => cases q
    · unfold cSts at q
      cases ss with
      | nil => cases q; exact sss_nil
      | cons s r =>
        obtain ⟨c1, e1, q1⟩ := Option.bind_eq_some_iff.mp q
        obtain ⟨c2, e2, q2⟩ := Option.map_eq_some_iff.mp q1
        subst q2
        exact sss_cons (ih X sc h _ _ e1) (ihs X sc h _ _ e2)
def startE (n : Nat) (ds : List D) : Env1 := ds.map some ++ List.replicate (n - ds.length) none
def runF (np nN : Nat) (b : CS) : List D → M D := fun ds S => if ds.length = np then (match b (startE nN ds) S with
  | .nx _ S' => .ok .non S'
  | .rt d S' => .ok d S'
  | .er c S' => .er c S'
  | _ => .bad) else .bad
theorem RVs.begins {K : PySem.W.Frag} {H : Hp} {μ : List Addr} {N : List Str} {ds : List D} {vs : List V} (r : RVs K H μ ds vs) : RE K H μ (startE N.length ds) (start N vs) := by
  unfold startE start
  refine ⟨by simp [r.len], fun i d e => ?_⟩
  by_cases hi : i < ds.length
  · rw [List.getElem?_append_left (by simpa using hi), List.getElem?_map] at e
    rw [List.getElem?_append_left (by rw [List.length_map, ← r.len]; exact hi), List.getElem?_map]
    cases q : ds[i]? with
    | none => rw [q] at e; cases e
    | some d' =>
      rw [q] at e; cases e
      obtain ⟨v, e1, e2⟩ := r.get q
      exact ⟨v, by rw [e1]; rfl, e2⟩
  · rw [List.getElem?_append_right (by simpa using hi), List.getElem?_replicate] at e
    split at e <;> cases e
def fnOk (N ps : List Str) (scope : Scope) : Bool :=
  decide (scope.kind = .function) && !scope.isCoroutine && !scope.isGenerator && decide N.Nodup && decide (N.take ps.length = ps) && ps.all (fun x => scope.names.lookup x == some .local || scope.names.lookup x == some .cell) && scope.names.all (fun y => y.2 != .free)
theorem fnOk_scope {N ps : List Str} {scope : Scope} (h : fnOk N ps scope = true) : FnScope N ps scope := by
  unfold fnOk at h
  simp only [Bool.and_eq_true, decide_eq_true_eq, Bool.not_eq_true'] at h
  obtain ⟨⟨⟨⟨⟨⟨c1, c2⟩, c3⟩, c4⟩, c5⟩, c6⟩, c7⟩ := h
  refine ⟨c1, c2, c3, c4, c5, fun x hx => ?_, fun y hy => ?_⟩
  · have := List.all_eq_true.mp c6 x hx
    simpa using this
  · have := List.all_eq_true.mp c7 y hy
    simpa using this
def bltL : List Str := ["len", "range", "list", "tuple", "min", "max", "zip", "isinstance", "all", "any", "int", "bool", "enumerate", "str", "sorted", "dict", "sum", "repr", "set", "abs"]
theorem s_fn {P : Program} {w : World} {K : PySem.W.Frag} {mg : Str → Option Value} {base : Heap} {x : Str} {st : Stmt} {fa : Addr} {fd : FuncData} {N ps : List Str} {fuel : Nat} {b : CS} (F : Fun K x x st fa fd)
    (hs : fnOk N ps (defScope st) = true) (hc : cSts ar cl fuel ⟨N, (defScope st).names, true⟩ (defBody st) = some b)
    (hB : ∀ y : Str, y ∈ bltL → ar y = none → mg y = none)
    (ih : ∀ y n, ar y = some n → (∃ ps, Callee P w K mg base y ps k (spOf K (cl y) n)) ∧ ∀ ds S d S', cl y ds S = .ok d S' → ds.length = n) : FnOk P w K mg base CX0 (k + 1) fa fd ps (spOf K (runF ps.length N.length b) ps.length) := by
  have S := fnOk_scope hs
  refine F.ok (k := k) S (fun vs H Q E h => h.1) (fun cdv A outer s H vs Q E hr h => ?_)
  obtain ⟨hl, μ, ds, S0, d, S', sr, rv, e, y⟩ := h
  have hX : XOk (cxOf CX0 P w K mg base N x (defScope st) fa cdv A outer s H E).nox ⟨N, (defScope st).names, true⟩ ar cl k := {
    calm := rfl
    N := rfl
    nd := S.nd
    gl := fun x hx => hx
    loc := fun x hx => hx
    cel := fun x hx => hx
    fre := fun x hx => .inr hx
    fnn := fun _ x => rfl
    room := hr
    xe := rfl
    blt := hB
    fns := ih }
  refine ⟨_, (s_St fuel).2 _ _ hX _ _ hc, μ, startE N.length ds, S0, sr, rv.begins, ?_⟩
  unfold runF at e
  split at e
  · split at e
    · rename_i ρ S2 he
      cases e
      rw [he]
      exact fun σ' H' μ' sr' st' re' => y _ H' μ' sr' st' rv_non
    · rename_i d' S2 he
      cases e
      rw [he]
      exact y
    · cases e
    · cases e
  · cases e
theorem s_def {P : Program} {w : World} {K : PySem.W.Frag} {mg : Str → Option Value} {base : Heap} {x : Str} {st : Stmt} {fa : Addr} {fd : FuncData} {N ps : List Str} {fuel : Nat} {b : CS} (F : Fun K x x st fa fd) (m : mg x = some (.ref fa)) (hb : Binds K fd ps [])
    (hs : fnOk N ps (defScope st) = true) (hc : cSts ar cl fuel ⟨N, (defScope st).names, true⟩ (defBody st) = some b)
    (hB : ∀ y : Str, y ∈ bltL → ar y = none → mg y = none)
    (ih : ∀ y n, ar y = some n → (∃ ps, Callee P w K mg base y ps k (spOf K (cl y) n)) ∧ ∀ ds S d S', cl y ds S = .ok d S' → ds.length = n) : Callee P w K mg base x ps (k + 1) (spOf K (runF ps.length N.length b) ps.length) :=
  ⟨fa, fd, s_fn F hs hc hB ih, hb, F.kp, m⟩
end
end L2
namespace L2
open PySem PySem.Spec PyProof.Rows
abbrev CLL := Str → List D → M D
abbrev Tbl := List (Str × (Nat × Nat × (CLL → CS)))
def arT (tbl : Tbl) (x : Str) : Option Nat := (tbl.lookup x).map (·.1)
def callT (tbl : Tbl) : Nat → CLL
  | 0, _ => fun _ _ => .bad
  | n + 1, x => match tbl.lookup x with
    | some p => runF p.1 p.2.1 (p.2.2 (callT tbl n))
    | none => fun _ _ => .bad
structure DefIn (K : PySem.W.Frag) (mg : Str → Option Value) (ar : Str → Option Nat) (x : Str) (p : Nat × Nat × (CLL → CS)) : Prop where
  ex : ∃ (st : Stmt) (fa : Addr) (fd : FuncData) (N ps : List Str) (fuel : Nat), Fun K x x st fa fd ∧ mg x = some (.ref fa) ∧ Binds K fd ps [] ∧ fnOk N ps (defScope st) = true ∧ ps.length = p.1 ∧ N.length = p.2.1 ∧
    ∀ cl : CLL, cSts ar cl fuel ⟨N, (defScope st).names, true⟩ (defBody st) = some (p.2.2 cl)
theorem runF_len {np nN : Nat} {b : CS} {ds : List D} {S S' : Store} {d : D} (h : runF np nN b ds S = .ok d S') : ds.length = np := by
  unfold runF at h
  split at h
  · assumption
  · cases h
theorem lookup_mem {α : Type} {tbl : List (Str × α)} {x : Str} {p : α} (h : tbl.lookup x = some p) : (x, p) ∈ tbl := by
  induction tbl with
  | nil => cases h
  | cons y r ih =>
    obtain ⟨y1, y2⟩ := y
    rw [List.lookup_cons] at h
    split at h
    · rename_i e
      cases h
      have : x = y1 := by simpa using e
      subst this
      simp
    · exact List.mem_cons_of_mem _ (ih h)
theorem tbl_ok {P : Program} {w : World} {K : PySem.W.Frag} {mg : Str → Option Value} {base : Heap} {tbl : Tbl} (hd : ∀ x p, tbl.lookup x = some p → DefIn K mg (arT tbl) x p) (hB : ∀ y : Str, y ∈ bltL → arT tbl y = none → mg y = none) :
    ∀ (k : Nat) (x : Str) (n : Nat), arT tbl x = some n → (∃ ps, Callee P w K mg base x ps k (spOf K (callT tbl k x) n)) ∧ ∀ ds S d S', callT tbl k x ds S = .ok d S' → ds.length = n
  | 0, x, n, h => by
    obtain ⟨p, hp, rfl⟩ := Option.map_eq_some_iff.mp h
    obtain ⟨st, fa, fd, N, ps, fuel, F, m, hb, _⟩ := (hd x p hp).ex
    have no : ∀ ds S d S', callT tbl 0 x ds S = .ok d S' → False := fun ds S d S' e => by unfold callT at e; cases e
    refine ⟨⟨ps, fa, fd, ⟨fun vs H Q E h => ?_, fun A outer s H args us vs Q E _ _ _ _ h => ?_⟩, hb, F.kp, m⟩, fun ds S d S' e => (no _ _ _ _ e).elim⟩
    · obtain ⟨_, μ, ds, S, d, S', _, _, e, _⟩ := h; exact (no _ _ _ _ e).elim
    · obtain ⟨_, μ, ds, S, d, S', _, _, e, _⟩ := h; exact (no _ _ _ _ e).elim
  | k + 1, x, n, h => by
    obtain ⟨p, hp, rfl⟩ := Option.map_eq_some_iff.mp h
    obtain ⟨st, fa, fd, N, ps, fuel, F, m, hb, hs, e1, e2, hc⟩ := (hd x p hp).ex
    have ih := tbl_ok (P := P) (w := w) (base := base) hd hB k
    have q := s_def (P := P) (w := w) (base := base) (k := k) F m hb hs (hc (callT tbl k)) hB ih
    have e3 : callT tbl (k + 1) x = runF p.1 p.2.1 (p.2.2 (callT tbl k)) := by
      show (match tbl.lookup x with | some p => runF p.1 p.2.1 (p.2.2 (callT tbl k)) | none => fun _ _ => .bad) = _
      rw [hp]
    rw [e1, e2] at q
    rw [e3]
    exact ⟨⟨ps, q⟩, fun ds S d S' e => runF_len e⟩
def spL (K : PySem.W.Frag) : Sp := fun vs H Q _ => ∃ (a : Addr) (ns : List Int), vs = [.ref a] ∧ SqF K H a (ns.map V.int) ∧ ns.length ≤ 63 ∧ ∀ H', Q (.bl true) H'
theorem sqF_of {K : PySem.W.Frag} {H : Hp} {a : Addr} {xs : List V} (o : Only H) (h : SqL K H a xs) : SqF K H a xs := by
  rcases h with (h | ⟨w, h⟩) | h
  · rcases o a with q | ⟨w, ys, q⟩
    · rw [h] at q; cases q
    · rw [h] at q; cases q
  · exact .inl ⟨w, h⟩
  · exact .inr h
theorem law_ok {P : Program} {w : World} {K : PySem.W.Frag} {mg : Str → Option Value} {base : Heap} {tbl : Tbl} {fa : Addr} {fd : FuncData} {st : Stmt} {L nN fuel : Nat} {N : List Str} {b : CLL → CS} (hd : ∀ x p, tbl.lookup x = some p → DefIn K mg (arT tbl) x p) (hB : ∀ y : Str, y ∈ bltL → arT tbl y = none → mg y = none)
    (hl : tbl.lookup ("law" : Str) = some (1, nN, b)) (F : Fun K "law" "law" st fa fd) (hs : fnOk N ["_law_script"] (defScope st) = true) (hN : N.length = nN) (hc : ∀ cl : CLL, cSts (arT tbl) cl fuel ⟨N, (defScope st).names, true⟩ (defBody st) = some (b cl))
    (hlaw : ∀ ns : List Int, ns.length ≤ 63 → ∃ S', callT tbl (L + 1) "law" [.rol (ns.map D.int)] [] = .ok (.bl true) S') :
    FnOk P w K mg base CX0 (L + 1) fa fd ["_law_script"] (spL K) := by
  have q := s_fn (P := P) (w := w) (base := base) (k := L) F hs (hc (callT tbl L)) hB (tbl_ok (P := P) (w := w) (base := base) hd hB L)
  refine q.imp fun vs H Q E h => ?_
  obtain ⟨a, ns, rfl, hS, hn, hQ⟩ := h
  obtain ⟨S', e⟩ := hlaw ns hn
  have e3 : callT tbl (L + 1) "law" = runF 1 nN (b (callT tbl L)) := by
    show (match tbl.lookup ("law" : Str) with | some p => runF p.1 p.2.1 (p.2.2 (callT tbl L)) | none => fun _ _ => .bad) = _
    rw [hl]
  rw [e3] at e
  refine ⟨rfl, [], [.rol (ns.map D.int)], [], .bl true, S', ⟨rfl, List.nodup_nil, fun n a o h => by simp at h⟩, .cons (by unfold RV; exact ⟨a, _, rfl, hS, RVs.ints⟩) .nil, by rw [hN]; exact e, fun v H' μ' _ _ r => ?_⟩
  unfold RV at r
  subst r
  exact hQ H'
theorem walk_ev {l : PySem.W.OpenLaw} {q : Program} {loose : List Str} {XP : (Str → Option Value) → Heap → Prop} {YP : World → Heap → Prop} {d : DefRec} {K : Params → PySem.W.Frag} {L : Nat} (hn : l.most = some 63) (hdf : d.params.defaults = []) (hr : Room L callerA)
    (hY : ∀ (w : World) (h : Heap), YP w h → (K w.params).In h)
    (F : ∀ (w : World) (mg : Str → Option Value) (fa : Addr) (h : Heap), (K w.params).In h → h.Ns mainGlobals mg → mg d.name = some (.ref fa) →
      ∃ fd : FuncData, (∀ (s : Shared) (u : Value), BindsTo s fd ⟨[u], []⟩ [("_law_script", u)]) ∧ ∀ base : Heap, (K w.params).In base → base.Ns mainGlobals mg → FnOk l.prog w (K w.params) mg base CX0 L fa fd ["_law_script"] (spL (K w.params))) :
    PySem.W.WalkO q loose XP YP l.row.toRowW d [] (fun f vs => PySem.call f vs) :=
  L2.walk_of (n := 63) (k := L) (x := "_law_script") (CX := fun _ => CX0) (sp := fun w => spL (K w.params)) hn (by decide) hdf hr hY F (fun _ _ a ns hl o hS => ⟨a, ns, rfl, sqF_of o hS, hl, fun _ => rfl⟩) fun _ _ _ _ _ z => z
end L2
namespace L2
open PySem
def AllIn (K : PySem.W.Frag) (mg : Str → Option Value) (ar : Str → Option Nat) : Tbl → Prop
  | [] => True
  | e :: r => DefIn K mg ar e.1 e.2 ∧ AllIn K mg ar r
theorem AllIn.mem {K : PySem.W.Frag} {mg : Str → Option Value} {ar : Str → Option Nat} : ∀ {t : Tbl}, AllIn K mg ar t → ∀ x p, (x, p) ∈ t → DefIn K mg ar x p
  | [], _, x, p, h => by cases h
  | e :: r, ⟨a, b⟩, x, p, h => by
    rcases List.mem_cons.mp h with q | q
    · subst q; exact a
    · exact b.mem x p q
theorem AllIn.look {K : PySem.W.Frag} {mg : Str → Option Value} {ar : Str → Option Nat} {t : Tbl} (h : AllIn K mg ar t) (x : Str) (p : Nat × Nat × (CLL → CS)) (e : t.lookup x = some p) : DefIn K mg ar x p := h.mem x p (lookup_mem e)
theorem def_in {K : PySem.W.Frag} {mg : Str → Option Value} {ar : Str → Option Nat} {x : Str} {st : Stmt} {fa : Addr} {fd : FuncData} {N ps : List Str} {fuel np nN : Nat} {b : CLL → CS} (F : Fun K x x st fa fd) (m : mg x = some (.ref fa)) (hb : Binds K fd ps []) (hs : fnOk N ps (defScope st) = true)
    (hc : (fun cl : CLL => cSts ar cl fuel ⟨N, (defScope st).names, true⟩ (defBody st)) = fun cl => some (b cl)) (h1 : ps.length = np := by rfl) (h2 : N.length = nN := by rfl) : DefIn K mg ar x (np, nN, b) :=
  ⟨st, fa, fd, N, ps, fuel, F, m, hb, hs, h1, h2, fun cl => congrFun hc cl⟩
def AllNone (mg : Str → Option Value) : List Str → Prop
  | [] => True
  | x :: r => mg x = none ∧ AllNone mg r
theorem AllNone.mem {mg : Str → Option Value} : ∀ {l : List Str}, AllNone mg l → ∀ x ∈ l, mg x = none
  | [], _, x, h => by cases h
  | e :: r, ⟨a, b⟩, x, h => by
    rcases List.mem_cons.mp h with q | q
    · subst q; exact a
    · exact b.mem x q
end L2
namespace L2
open PySem
inductive Tg {γ : Type} (f : γ) : Type where
  | mk
def rbnd {α β : Type} (r : R α) (f : α → Store → R β) (_ : Tg f) : R β := match r with
  | .bad => .bad
  | .er c S => .er c S
  | .ok a S => f a S
@[simp] theorem rbnd_ok {α β : Type} (a : α) (S : Store) (f : α → Store → R β) : rbnd (.ok a S) f .mk = f a S := rfl
@[simp] theorem rbnd_bad {α β : Type} (f : α → Store → R β) : rbnd .bad f .mk = .bad := rfl
@[simp] theorem bnd_ev {α β : Type} (m : M α) (f : α → M β) (S : Store) : bnd m f S = rbnd (m S) f .mk := rfl
@[simp] theorem ret_ev {α : Type} (a : α) (S : Store) : ret a S = .ok a S := rfl
@[simp] theorem bad_ev {α : Type} (S : Store) : (bad : M α) S = .bad := rfl
def rs {α : Type} (r : R α) (f : α → Store → RS) (_ : Tg f) : RS := match r with
  | .bad => .bad
  | .er c S => .er c S
  | .ok a S => f a S
@[simp] theorem rs_ok {α : Type} (a : α) (S : Store) (f : α → Store → RS) : rs (.ok a S) f .mk = f a S := rfl
@[simp] theorem rs_bad {α : Type} (f : α → Store → RS) : rs .bad f .mk = .bad := rfl
def sb (r : RS) (f : CS) (_ : Tg f) : RS := match r with
  | .nx ρ S => f ρ S
  | r => r
@[simp] theorem sb_nx (ρ : Env1) (S : Store) (f : CS) : sb (.nx ρ S) f .mk = f ρ S := rfl
@[simp] theorem sb_rt (d : D) (S : Store) (f : CS) : sb (.rt d S) f .mk = .rt d S := rfl
@[simp] theorem sb_bk (ρ : Env1) (S : Store) (f : CS) : sb (.bk ρ S) f .mk = .bk ρ S := rfl
@[simp] theorem sb_ct (ρ : Env1) (S : Store) (f : CS) : sb (.ct ρ S) f .mk = .ct ρ S := rfl
@[simp] theorem sSeq_ev (a b : CS) (ρ : Env1) (S : Store) : sSeq a b ρ S = sb (a ρ S) b .mk := by
  unfold sSeq sb; cases a ρ S <;> rfl
@[simp] theorem sPass_ev (ρ : Env1) (S : Store) : sPass ρ S = .nx ρ S := rfl
@[simp] theorem sBrk_ev (ρ : Env1) (S : Store) : sBrk ρ S = .bk ρ S := rfl
@[simp] theorem sCnt_ev (ρ : Env1) (S : Store) : sCnt ρ S = .ct ρ S := rfl
@[simp] theorem sRetN_ev (ρ : Env1) (S : Store) : sRetN ρ S = .rt .non S := rfl
@[simp] theorem sRet_ev (c : C) (ρ : Env1) (S : Store) : sRet c ρ S = rs (c ρ S) (fun d S' => .rt d S') .mk := by
  unfold sRet rs; cases c ρ S <;> rfl
@[simp] theorem sExpr_ev (c : C) (ρ : Env1) (S : Store) : sExpr c ρ S = rs (c ρ S) (fun _ S' => .nx ρ S') .mk := by
  unfold sExpr rs; cases c ρ S <;> rfl
@[simp] theorem sAsg_ev (c : C) (g : G) (ρ : Env1) (S : Store) : sAsg c g ρ S = rs (c ρ S) (fun d S1 => rs (g d ρ S1) (fun ρ' S2 => .nx ρ' S2) .mk) .mk := by
  unfold sAsg rs
  cases c ρ S with
  | ok d S1 => dsimp only; cases g d ρ S1 <;> rfl
  | _ => rfl
@[simp] theorem sIf_ev (t : CT) (a b : CS) (ρ : Env1) (S : Store) : sIf t a b ρ S = rs (t ρ S) (fun k S' => if k then a ρ S' else b ρ S') .mk := by
  unfold sIf rs; cases t ρ S <;> rfl
@[simp] theorem sFor_ev (it : CI) (g : G) (b : CS) (ρ : Env1) (S : Store) : sFor it g b ρ S = rs (it ρ S) (fun p S1 => loopS p.2 g b p.1 ρ S1) .mk := by
  unfold sFor rs
  cases it ρ S with
  | ok p S1 => obtain ⟨a, b⟩ := p; rfl
  | _ => rfl
@[simp] theorem gN_ev (i : Nat) (d : D) (ρ : Env1) (S : Store) : gN i d ρ S = .ok (ρ.set i (some d)) S := rfl
def mo {α : Type} (o : Option α) (S' : α → Store) (ρ : Env1) : R Env1 := match o with
  | some x => .ok ρ (S' x)
  | none => .bad
@[simp] theorem gS_ev (co ci : C) (d : D) (ρ : Env1) (S : Store) : gS co ci d ρ S = rbnd (co ρ S) (fun o S1 => rbnd (ci ρ S1) (fun i S2 => mo (oSet o i d S2) (fun x => x) ρ) .mk) .mk := by
  unfold gS
  rw [bnd_ev]
  cases co ρ S with
  | bad => rfl
  | er _ _ => rfl
  | ok o S1 =>
    rw [rbnd_ok, rbnd_ok, bnd_ev]
    cases ci ρ S1 with
    | bad => rfl
    | er _ _ => rfl
    | ok i S2 =>
      rw [rbnd_ok, rbnd_ok]
      cases h : oSet o i d S2 <;> rfl
@[simp] theorem mo_some {α : Type} (x : α) (f : α → Store) (ρ : Env1) : mo (some x) f ρ = .ok ρ (f x) := rfl
@[simp] theorem gT_ev (gs : List G) (xs : List D) (ρ : Env1) (S : Store) : gT gs (.tup xs) ρ S = gTs gs xs ρ S := rfl
@[simp] theorem gTs_nil (ρ : Env1) (S : Store) : gTs [] [] ρ S = .ok ρ S := rfl
@[simp] theorem gTs_cons (g : G) (gs : List G) (x : D) (xs : List D) (ρ : Env1) (S : Store) : gTs (g :: gs) (x :: xs) ρ S = rbnd (g x ρ S) (fun ρ1 S1 => gTs gs xs ρ1 S1) .mk := rfl
@[simp] theorem cVar_ev (i : Nat) (ρ : Env1) (S : Store) : cVar i ρ S = match ρ[i]? with | some (some d) => .ok d S | _ => .bad := rfl
@[simp] theorem cCon_ev (d : D) (ρ : Env1) (S : Store) : cCon d ρ S = .ok d S := rfl
@[simp] theorem cBin_ev (o : D → D → M D) (a b : C) (ρ : Env1) (S : Store) : cBin o a b ρ S = rbnd (a ρ S) (fun x S1 => rbnd (b ρ S1) (fun y S2 => o x y S2) .mk) .mk := rfl
@[simp] theorem cUn_ev (o : D → M D) (a : C) (ρ : Env1) (S : Store) : cUn o a ρ S = rbnd (a ρ S) o .mk := rfl
@[simp] theorem cArgs_nil (ρ : Env1) (S : Store) : cArgs [] ρ S = .ok [] S := rfl
@[simp] theorem cArgs_cons (c : C) (cs : List C) (ρ : Env1) (S : Store) : cArgs (c :: cs) ρ S = rbnd (c ρ S) (fun x S1 => rbnd (cArgs cs ρ S1) (fun xs S2 => .ok (x :: xs) S2) .mk) .mk := rfl
@[simp] theorem cApp_ev (o : List D → M D) (a : CA) (ρ : Env1) (S : Store) : cApp o a ρ S = rbnd (a ρ S) o .mk := rfl
@[simp] theorem cTup_ev (a : CA) (ρ : Env1) (S : Store) : cTup a ρ S = rbnd (a ρ S) (fun xs S1 => .ok (.tup xs) S1) .mk := rfl
@[simp] theorem cLst_ev (a : CA) (ρ : Env1) (S : Store) : cLst a ρ S = rbnd (a ρ S) (fun xs S1 => .ok (.lst S1.length) (S1 ++ [.lst xs])) .mk := rfl
@[simp] theorem cIf_ev (t : CT) (a b : C) (ρ : Env1) (S : Store) : cIf t a b ρ S = rbnd (t ρ S) (fun k S1 => if k then a ρ S1 else b ρ S1) .mk := by
  unfold cIf; rw [bnd_ev]
  cases t ρ S with
  | ok k S1 => cases k <;> rfl
  | bad => rfl
  | er _ _ => rfl
@[simp] theorem cBool_ev (a : C) (ρ : Env1) (S : Store) : cBool a ρ S = rbnd (a ρ S) (fun x S1 => dB x S1) .mk := rfl
@[simp] theorem dB_ev (b : Bool) (S : Store) : dB (.bl b) S = .ok b S := rfl
@[simp] theorem cAndV_ev (a b : C) (ρ : Env1) (S : Store) : cAndV a b ρ S = rbnd (cBool a ρ S) (fun k S1 => if k then b ρ S1 else .ok (.bl false) S1) .mk := by
  unfold cAndV; rw [bnd_ev]
  cases cBool a ρ S with
  | ok k S1 => cases k <;> rfl
  | bad => rfl
  | er _ _ => rfl
@[simp] theorem cOrV_ev (a b : C) (ρ : Env1) (S : Store) : cOrV a b ρ S = rbnd (cBool a ρ S) (fun k S1 => if k then .ok (.bl true) S1 else b ρ S1) .mk := by
  unfold cOrV; rw [bnd_ev]
  cases cBool a ρ S with
  | ok k S1 => cases k <;> rfl
  | bad => rfl
  | er _ _ => rfl
@[simp] theorem cNotV_ev (a : C) (ρ : Env1) (S : Store) : cNotV a ρ S = rbnd (cBool a ρ S) (fun k S1 => .ok (.bl (!k)) S1) .mk := rfl
@[simp] theorem cAndT_ev (a b : CT) (ρ : Env1) (S : Store) : cAndT a b ρ S = rbnd (a ρ S) (fun k S1 => if k then b ρ S1 else .ok false S1) .mk := by
  unfold cAndT; rw [bnd_ev]
  cases a ρ S with
  | ok k S1 => cases k <;> rfl
  | bad => rfl
  | er _ _ => rfl
@[simp] theorem cOrT_ev (a b : CT) (ρ : Env1) (S : Store) : cOrT a b ρ S = rbnd (a ρ S) (fun k S1 => if k then .ok true S1 else b ρ S1) .mk := by
  unfold cOrT; rw [bnd_ev]
  cases a ρ S with
  | ok k S1 => cases k <;> rfl
  | bad => rfl
  | er _ _ => rfl
@[simp] theorem cNotT_ev (a : CT) (ρ : Env1) (S : Store) : cNotT a ρ S = rbnd (a ρ S) (fun k S1 => .ok (!k) S1) .mk := rfl
@[simp] theorem cChain_ev (o o' : D → D → M D) (a b c : C) (ρ : Env1) (S : Store) : cChain o o' a b c ρ S = rbnd (a ρ S) (fun x S1 => rbnd (b ρ S1) (fun y S2 => rbnd (o x y S2) (fun z S3 => rbnd (dB z S3) (fun k S4 => if k then rbnd (c ρ S4) (fun w S5 => o' y w S5) .mk else .ok (.bl false) S4) .mk) .mk) .mk) .mk := by
  unfold cChain
  rw [bnd_ev]
  cases a ρ S with
  | bad => rfl
  | er _ _ => rfl
  | ok x S1 =>
    rw [rbnd_ok, rbnd_ok, bnd_ev]
    cases b ρ S1 with
    | bad => rfl
    | er _ _ => rfl
    | ok y S2 =>
      rw [rbnd_ok, rbnd_ok, bnd_ev]
      cases o x y S2 with
      | bad => rfl
      | er _ _ => rfl
      | ok z S3 =>
        rw [rbnd_ok, rbnd_ok, bnd_ev]
        cases dB z S3 with
        | bad => rfl
        | er _ _ => rfl
        | ok k S4 => cases k <;> rfl
@[simp] theorem cTru_ev (a : C) (ρ : Env1) (S : Store) : cTru a ρ S = rbnd (a ρ S) (fun x S1 => dTru x S1) .mk := rfl
@[simp] theorem dTru_bl (b : Bool) (S : Store) : dTru (.bl b) S = .ok b S := rfl
@[simp] theorem dTru_int (i : Int) (S : Store) : dTru (.int i) S = .ok (i != 0) S := rfl
@[simp] theorem dTru_tup (xs : List D) (S : Store) : dTru (.tup xs) S = .ok (!xs.isEmpty) S := rfl
@[simp] theorem cNoPart_ev (ρ : Env1) (S : Store) : cNoPart ρ S = .ok none S := rfl
@[simp] theorem cPart_ev (a : C) (ρ : Env1) (S : Store) : cPart a ρ S = rbnd (a ρ S) (fun x S1 => rbnd (dInt x S1) (fun i S2 => .ok (some i) S2) .mk) .mk := rfl
@[simp] theorem dInt_ev (i : Int) (S : Store) : dInt (.int i) S = .ok i S := rfl
@[simp] theorem cSl_ev (o : D → Option Int → Option Int → M D) (a : C) (lo hi : CO) (ρ : Env1) (S : Store) : cSl o a lo hi ρ S = rbnd (a ρ S) (fun x S1 => rbnd (lo ρ S1) (fun l S2 => rbnd (hi ρ S2) (fun h S3 => o x l h S3) .mk) .mk) .mk := rfl
@[simp] theorem cMeth_ev (T : String) (o : D → List D → M D) (a : C) (as : CA) (ρ : Env1) (S : Store) : cMeth T o a as ρ S = rbnd (a ρ S) (fun x S1 => if tyOk T x S1 then rbnd (as ρ S1) (fun xs S2 => o x xs S2) .mk else .bad) .mk := rfl
@[simp] theorem cMeth0_ev (T : String) (o : D → List D → M D) (a : C) (ρ : Env1) (S : Store) : cMeth0 T o a ρ S = rbnd (a ρ S) (fun x S1 => if tyOk T x S1 then o x [] S1 else .bad) .mk := rfl
@[simp] theorem iSeq_ev (c : C) (ρ : Env1) (S : Store) : iSeq c ρ S = rbnd (c ρ S) (fun x S1 => match x with
  | .tup xs => .ok (xs, []) S1
  | .lst n => match lstAt S1 n with
    | some xs => .ok (xs, [(n, xs)]) S1
    | none => .bad
  | _ => .bad) .mk := rfl
@[simp] theorem iRange1_ev (a : CA) (ρ : Env1) (S : Store) : iRange1 a ρ S = rbnd (a ρ S) (fun xs S1 => match xs with
  | [.int j] => if -4611686018427387904 ≤ j ∧ j < 4611686018427387904 then .ok (upD 0 j.toNat, []) S1 else .bad
  | _ => .bad) .mk := rfl
@[simp] theorem iRange2_ev (a : CA) (ρ : Env1) (S : Store) : iRange2 a ρ S = rbnd (a ρ S) (fun xs S1 => match xs with
  | [.int i, .int j] => if -4611686018427387904 ≤ i ∧ i < 4611686018427387904 ∧ -4611686018427387904 ≤ j ∧ j < 4611686018427387904 then .ok (upD i (j - i).toNat, []) S1 else .bad
  | _ => .bad) .mk := rfl
@[simp] theorem cComp_ev (it : CI) (k : Nat) (js : List Nat) (t : Tgt) (tc : CT) (c : C) (ρ : Env1) (S : Store) : cComp it k js t tc c ρ S = rbnd (it ρ S) (fun p S1 => if p.1.length < lim then rbnd (loopC p.2 t tc c (stE k js ρ) p.1 S1) (fun ys S' => .ok (.lst S'.length) (S' ++ [.lst ys])) .mk else .bad) .mk := rfl
@[simp] theorem cDNew_ev (ρ : Env1) (S : Store) : cDNew ρ S = .ok (.dct S.length) (S ++ [.dk []]) := rfl
@[simp] theorem cDOne_ev (a b : C) (ρ : Env1) (S : Store) : cDOne a b ρ S = rbnd (a ρ S) (fun x S1 => rbnd (b ρ S1) (fun y S2 => match keyOf x with
  | some k => .ok (.dct S2.length) (S2 ++ [.dk [(k, y)]])
  | none => .bad) .mk) .mk := rfl
@[simp] theorem oAdd_int (i j : Int) (S : Store) : oAdd (.int i) (.int j) S = .ok (.int (i + j)) S := rfl
@[simp] theorem oAdd_tup (xs ys : List D) (S : Store) : oAdd (.tup xs) (.tup ys) S = if xs.length + ys.length ≤ lim then .ok (.tup (xs ++ ys)) S else .bad := rfl
@[simp] theorem oInt_ev (g : Int → Int → Int) (i j : Int) (S : Store) : oInt g (.int i) (.int j) S = .ok (.int (g i j)) S := rfl
@[simp] theorem oMul_int (i j : Int) (S : Store) : oMul (.int i) (.int j) S = if mulOk i j then .ok (.int (i * j)) S else .bad := rfl
@[simp] theorem oMod_int (i j : Int) (S : Store) : oMod (.int i) (.int j) S = if 0 < j then .ok (.int (i % j)) S else .bad := rfl
@[simp] theorem oDiv_int (i j : Int) (S : Store) : oDiv (.int i) (.int j) S = if 0 < j ∧ j < 1073741824 then .ok (.int (i / j)) S else .bad := rfl
@[simp] theorem oPow_int (i j : Int) (S : Store) : oPow (.int i) (.int j) S = if 0 ≤ j ∧ j ≤ 1000000 ∧ i.natAbs < 18446744073709551616 then .ok (.int (i ^ j.toNat)) S else .bad := rfl
@[simp] theorem oShl_int (i j : Int) (S : Store) : oShl (.int i) (.int j) S = if 0 ≤ j ∧ j ≤ 1000000 ∧ i.natAbs < 18446744073709551616 then .ok (.int (i * 2 ^ j.toNat)) S else .bad := rfl
@[simp] theorem oShr_int (i j : Int) (S : Store) : oShr (.int i) (.int j) S = if 0 ≤ j then .ok (.int (i / 2 ^ j.toNat)) S else .bad := rfl
@[simp] theorem oNeg_int (i : Int) (S : Store) : oNeg (.int i) S = .ok (.int (-i)) S := rfl
@[simp] theorem oCmp_int (g : Int → Int → Bool) (i j : Int) (S : Store) : oCmp g (.int i) (.int j) S = .ok (.bl (g i j)) S := rfl
@[simp] theorem oLt_int (i j : Int) (S : Store) : oLt (.int i) (.int j) S = .ok (.bl (decide (i < j))) S := rfl
theorem eqv_int (i j : Int) : PyData.eqv (.int i) (.int j) = decide (i = j) := by
  show (i == j) = decide (i = j)
  rfl
@[simp] theorem oEq_int (i j : Int) (S : Store) : oEq (.int i) (.int j) S = .ok (.bl (decide (i = j))) S := by
  show R.ok (D.bl (PyData.eqv (.int i) (.int j))) S = _
  rw [eqv_int]
@[simp] theorem oNe_int (i j : Int) (S : Store) : oNe (.int i) (.int j) S = .ok (.bl (!decide (i = j))) S := by
  show R.ok (D.bl (!PyData.eqv (.int i) (.int j))) S = _
  rw [eqv_int]
@[simp] theorem oEq_bl (i j : Bool) (S : Store) : oEq (.bl i) (.bl j) S = .ok (.bl (i == j)) S := by
  show R.ok (D.bl (PyData.eqv (.bool i) (.bool j))) S = _
  cases i <;> cases j <;> rfl
@[simp] theorem oNe_bl (i j : Bool) (S : Store) : oNe (.bl i) (.bl j) S = .ok (.bl (i != j)) S := by
  show R.ok (D.bl (!PyData.eqv (.bool i) (.bool j))) S = _
  cases i <;> cases j <;> rfl
@[simp] theorem oIs_non (x : D) (S : Store) : oIs x .non S = .ok (.bl x.isNon) S := by cases x <;> rfl
@[simp] theorem oIsNot_non (x : D) (S : Store) : oIsNot x .non S = .ok (.bl (!x.isNon)) S := by cases x <;> rfl
@[simp] theorem oIs_bl (a b : Bool) (S : Store) : oIs (.bl a) (.bl b) S = .ok (.bl (a == b)) S := rfl
@[simp] theorem oIsNot_bl (a b : Bool) (S : Store) : oIsNot (.bl a) (.bl b) S = .ok (.bl (a != b)) S := rfl
@[simp] theorem fMin_ev (i j : Int) (S : Store) : fMin [.int i, .int j] S = .ok (.int (if j < i then j else i)) S := rfl
@[simp] theorem fMax_ev (i j : Int) (S : Store) : fMax [.int i, .int j] S = .ok (.int (if j > i then j else i)) S := rfl
@[simp] theorem fInt_int (i : Int) (S : Store) : fInt [.int i] S = .ok (.int i) S := rfl
@[simp] theorem fInt_bl (b : Bool) (S : Store) : fInt [.bl b] S = .ok (.int (if b then 1 else 0)) S := rfl
@[simp] theorem fTuple_tup (xs : List D) (S : Store) : fTuple [.tup xs] S = .ok (.tup xs) S := rfl
theorem fTuple_lst {n : Nat} {xs : List D} {S : Store} (h : lstAt S n = some xs) : fTuple [.lst n] S = .ok (.tup xs) S := by
  show (match lstAt S n with | some ys => R.ok (D.tup ys) S | none => .bad) = _
  rw [h]
@[simp] theorem fLen_tup (xs : List D) (S : Store) : fLen [.tup xs] S = .ok (.int xs.length) S := rfl
@[simp] theorem fLen_rol (xs : List D) (S : Store) : fLen [.rol xs] S = .ok (.int xs.length) S := rfl
theorem fLen_lst {n : Nat} {xs : List D} {S : Store} (h : lstAt S n = some xs) : fLen [.lst n] S = .ok (.int xs.length) S := by
  show (match seqAt S (.lst n) with | some ys => R.ok (D.int ys.length) S | none => .bad) = _
  show (match lstAt S n with | some ys => R.ok (D.int ys.length) S | none => .bad) = _
  rw [h]
@[simp] theorem fList_tup (xs : List D) (S : Store) : fList [.tup xs] S = .ok (.lst S.length) (S ++ [.lst xs]) := rfl
@[simp] theorem oIx_tup (xs : List D) (j : Int) (S : Store) : oIx (.tup xs) (.int j) S = match atI xs j with | some d => .ok d S | none => .bad := rfl
@[simp] theorem oIx_rol (xs : List D) (j : Int) (S : Store) : oIx (.rol xs) (.int j) S = match atI xs j with | some d => .ok d S | none => .bad := rfl
theorem oIx_lst {n : Nat} {xs : List D} {S : Store} (h : lstAt S n = some xs) (j : Int) : oIx (.lst n) (.int j) S = match atI xs j with | some d => .ok d S | none => .bad := by
  show (match lstAt S n, D.int j with | some xs, .int j => (match atI xs j with | some d => R.ok d S | none => .bad) | _, _ => .bad) = _
  rw [h]
@[simp] theorem oSl_tup (xs : List D) (lo hi : Option Int) (S : Store) : oSl (.tup xs) lo hi S = .ok (.tup (cutD xs lo hi)) S := rfl
@[simp] theorem atI_0 {α : Type} (x : α) (xs : List α) : atI (x :: xs) 0 = some x := atI_nat (j := 0) rfl
@[simp] theorem atI_1 {α : Type} (x y : α) (xs : List α) : atI (x :: y :: xs) 1 = some y := atI_nat (j := 1) rfl
@[simp] theorem atI_2 {α : Type} (x y z : α) (xs : List α) : atI (x :: y :: z :: xs) 2 = some z := atI_nat (j := 2) rfl
@[simp] theorem atI_3 {α : Type} (x y z w : α) (xs : List α) : atI (x :: y :: z :: w :: xs) 3 = some w := atI_nat (j := 3) rfl
structure Kp (P : Nat → Prop) (S S' : Store) : Prop where
  le : S.length ≤ S'.length
  eq : ∀ j, j < S.length → ¬ P j → S'[j]? = S[j]?
abbrev Ex : Store → Store → Prop := Kp fun _ => False
theorem Kp.refl (P : Nat → Prop) (S : Store) : Kp P S S := ⟨Nat.le_refl _, fun _ _ _ => rfl⟩
theorem Kp.trans {P : Nat → Prop} {S S1 S2 : Store} (a : Kp P S S1) (b : Kp P S1 S2) : Kp P S S2 := ⟨Nat.le_trans a.le b.le, fun j h n => (b.eq j (Nat.lt_of_lt_of_le h a.le) n).trans (a.eq j h n)⟩
theorem Ex.kp {P : Nat → Prop} {S S' : Store} (h : Ex S S') : Kp P S S' := ⟨h.le, fun j hj _ => h.eq j hj (fun z => z)⟩
theorem Kp.kp {P : Nat → Prop} {S S' : Store} (h : Kp (fun _ => False) S S') : Kp P S S' := ⟨h.le, fun j hj _ => h.eq j hj (fun z => z)⟩
theorem Kp.mono {P Q : Nat → Prop} {S S' : Store} (h : Kp P S S') (m : ∀ j, j < S.length → P j → Q j) : Kp Q S S' := ⟨h.le, fun j hj n => h.eq j hj fun z => n (m j hj z)⟩
theorem ex_app (S T : Store) : Ex S (S ++ T) := ⟨by simp, fun j h _ => List.getElem?_append_left h⟩
theorem kp_set {i : Nat} (S : Store) (o : O) : Kp (· = i) S (S.set i o) := ⟨by simp, fun j h n => List.getElem?_set_ne fun z => n z.symm⟩
theorem Kp.at {P : Nat → Prop} {S S' : Store} (h : Kp P S S') {j : Nat} {o : O} (e : S[j]? = some o) (n : ¬ P j) : S'[j]? = some o := by
  rw [h.eq j (List.getElem?_eq_some_iff.mp e).1 n]; exact e
theorem lstAt_some {S : Store} {n : Nat} {xs : List D} (h : lstAt S n = some xs) : S[n]? = some (.lst xs) := by
  unfold lstAt at h
  split at h
  · rename_i ys e; cases h; exact e
  · cases h
theorem lstAt_of {S : Store} {n : Nat} {xs : List D} (h : S[n]? = some (.lst xs)) : lstAt S n = some xs := by unfold lstAt; rw [h]
theorem Kp.lst {P : Nat → Prop} {S S' : Store} (h : Kp P S S') {j : Nat} {xs : List D} (e : lstAt S j = some xs) (n : ¬ P j) : lstAt S' j = some xs := lstAt_of (h.at (lstAt_some e) n)
theorem lstAt_lt {S : Store} {n : Nat} {xs : List D} (h : lstAt S n = some xs) : n < S.length := (List.getElem?_eq_some_iff.mp (lstAt_some h)).1
@[simp] theorem lstAt_new (S : Store) (xs : List D) : lstAt (S ++ [.lst xs]) S.length = some xs := lstAt_of (by rw [List.getElem?_append_right (Nat.le_refl _), Nat.sub_self]; rfl)
theorem lstAt_set {S : Store} {n : Nat} {xs ys : List D} (h : lstAt S n = some xs) : lstAt (S.set n (.lst ys)) n = some ys := lstAt_of (List.getElem?_set_self (lstAt_lt h))
theorem tyOk_lst {S : Store} {n : Nat} {xs : List D} (h : lstAt S n = some xs) : tyOk "list" (.lst n) S = true := by
  show (decide ("list" = "list") && (lstAt S n).isSome) = true
  rw [h]; rfl
theorem mList_ev {S : Store} {n : Nat} {ys : List D} (h : lstAt S n = some ys) (g : List D → List D → Option (List D × D)) (xs : List D) : mList g (.lst n) xs S = match g ys xs with | some p => .ok p.2 (S.set n (.lst p.1)) | none => .bad := by
  unfold mList
  dsimp only
  rw [lstAt_some h]
  dsimp only
  cases g ys xs with
  | none => rfl
  | some p => rfl
@[simp] theorem gAppend_ev (ys : List D) (x : D) : gAppend ys [x] = if ys.length < lim then some (ys ++ [x], .non) else none := rfl
@[simp] theorem gInsert_ev (ys : List D) (i : Int) (x : D) : gInsert ys [.int i, x] = if ys.length < 1000 ∧ 0 ≤ i ∧ i.toNat ≤ ys.length then some (ys.take i.toNat ++ x :: ys.drop i.toNat, .non) else none := rfl
theorem oSet_lst {S : Store} {n : Nat} {ys : List D} (h : lstAt S n = some ys) (k : Int) (v : D) : oSet (.lst n) (.int k) v S = match ixN ys.length k with | some j => some (S.set n (.lst (ys.set j v))) | none => none := by
  unfold oSet
  dsimp only
  rw [lstAt_some h]
  all_goals (dsimp only; cases ixN ys.length k <;> rfl)
theorem okW_nil (S : Store) : okW [] S := fun p h => by cases h
theorem okW_one {S : Store} {n : Nat} {xs : List D} (h : lstAt S n = some xs) : okW [(n, xs)] S := fun p hp => by
  simp at hp; subst hp; exact h
theorem loop_go {w : Watch} {g : G} {b : CS} : ∀ (items : List D) (P : Nat → Env1 → Store → Prop) {ρ : Env1} {S : Store} (k : Nat), (∀ i ρ S, P i ρ S → okW w S) → P k ρ S →
    (∀ i d ρ S, items[i]? = some d → P (k + i) ρ S → ∃ ρ1 S1, g d ρ S = .ok ρ1 S1 ∧ ∃ ρ2 S2, (b ρ1 S1 = .nx ρ2 S2 ∨ b ρ1 S1 = .ct ρ2 S2) ∧ P (k + i + 1) ρ2 S2) → ∃ ρ' S', loopS w g b items ρ S = .nx ρ' S' ∧ P (k + items.length) ρ' S'
  | [], P, ρ, S, k, hw, h0, hs => ⟨ρ, S, by unfold loopS; rw [if_pos (hw k ρ S h0)], by simpa using h0⟩
  | d :: ds, P, ρ, S, k, hw, h0, hs => by
    obtain ⟨ρ1, S1, e1, ρ2, S2, e2, p2⟩ := hs 0 d ρ S rfl (by simpa using h0)
    obtain ⟨ρ', S', e3, p3⟩ := loop_go ds P (k + 1) hw (by simpa using p2) (fun i d' ρ S hi hp => by
      obtain ⟨ρ1, S1, q1, ρ2, S2, q2, q3⟩ := hs (i + 1) d' ρ S (by rw [List.getElem?_cons_succ]; exact hi) (by rw [show k + (i + 1) = k + 1 + i by omega]; exact hp)
      exact ⟨ρ1, S1, q1, ρ2, S2, q2, by rw [show k + 1 + i + 1 = k + (i + 1) + 1 by omega]; exact q3⟩)
    refine ⟨ρ', S', ?_, by rw [List.length_cons, show k + (ds.length + 1) = k + 1 + ds.length by omega]; exact p3⟩
    unfold loopS
    rw [if_pos (hw k ρ S h0), e1]
    dsimp only
    rcases e2 with e2 | e2
    · rw [e2]; exact e3
    · rw [e2]; exact e3
theorem loop_inv {w : Watch} {g : G} {b : CS} {items : List D} (P : Nat → Env1 → Store → Prop) {ρ : Env1} {S : Store} (hw : ∀ i ρ S, P i ρ S → okW w S) (h0 : P 0 ρ S)
    (hs : ∀ i d ρ S, items[i]? = some d → P i ρ S → ∃ ρ1 S1, g d ρ S = .ok ρ1 S1 ∧ ∃ ρ2 S2, (b ρ1 S1 = .nx ρ2 S2 ∨ b ρ1 S1 = .ct ρ2 S2) ∧ P (i + 1) ρ2 S2) : ∃ ρ' S', loopS w g b items ρ S = .nx ρ' S' ∧ P items.length ρ' S' := by
  obtain ⟨ρ', S', e, p⟩ := loop_go items P 0 hw h0 (fun i d ρ S hi hp => by
    obtain ⟨ρ1, S1, q1, ρ2, S2, q2, q3⟩ := hs i d ρ S hi (by simpa using hp)
    exact ⟨ρ1, S1, q1, ρ2, S2, q2, by simpa using q3⟩)
  exact ⟨ρ', S', e, by simpa using p⟩
theorem comp_go {w : Watch} {t : Tgt} {tc : CT} {c : C} {ρ0 : Env1} (P : Store → Prop) (hw : ∀ S, P S → okW w S) : ∀ (items : List D) (p : D → Bool) (f : D → D) {S : Store}, P S →
    (∀ d ∈ items, ∀ S, P S → ∃ ρ1, bindT t d ρ0 = some ρ1 ∧ ∃ S1, tc ρ1 S = .ok (p d) S1 ∧ (p d = false → P S1) ∧ (p d = true → ∃ S2, c ρ1 S1 = .ok (f d) S2 ∧ P S2)) → ∃ S', loopC w t tc c ρ0 items S = .ok ((items.filter p).map f) S' ∧ P S'
  | [], p, f, S, h0, hs => ⟨S, by unfold loopC; rw [if_pos (hw S h0)]; rfl, h0⟩
  | d :: ds, p, f, S, h0, hs => by
    obtain ⟨ρ1, e1, S1, e2, hf, ht⟩ := hs d (by simp) S h0
    unfold loopC
    rw [if_pos (hw S h0), e1]
    dsimp only
    rw [bnd_ev, e2, rbnd_ok]
    cases hp : p d with
    | false =>
      obtain ⟨S', e3, h3⟩ := comp_go P hw ds p f (hf hp) fun d' hd => hs d' (by simp [hd])
      exact ⟨S', by rw [if_neg Bool.false_ne_true, e3, List.filter_cons, hp]; rfl, h3⟩
    | true =>
      obtain ⟨S2, e4, h4⟩ := ht hp
      obtain ⟨S', e3, h3⟩ := comp_go P hw ds p f h4 fun d' hd => hs d' (by simp [hd])
      exact ⟨S', by rw [if_pos rfl, bnd_ev, e4, rbnd_ok, bnd_ev, e3, rbnd_ok, List.filter_cons, hp]; rfl, h3⟩
theorem comp_map {w : Watch} {t : Tgt} {c : C} {ρ0 : Env1} (P : Store → Prop) (hw : ∀ S, P S → okW w S) (items : List D) (f : D → D) {S : Store} (h0 : P S)
    (hs : ∀ d ∈ items, ∀ S, P S → ∃ ρ1, bindT t d ρ0 = some ρ1 ∧ ∃ S2, c ρ1 S = .ok (f d) S2 ∧ P S2) : ∃ S', loopC w t (fun _ => ret true) c ρ0 items S = .ok (items.map f) S' ∧ P S' := by
  obtain ⟨S', e, h⟩ := comp_go (w := w) (t := t) (tc := fun _ => ret true) (c := c) (ρ0 := ρ0) P hw items (fun _ => true) f h0 (fun d hd S h => by
    obtain ⟨ρ1, e1, S2, e2, h2⟩ := hs d hd S h
    exact ⟨ρ1, e1, S, rfl, (fun z => by cases z), fun _ => ⟨S2, e2, h2⟩⟩)
  exact ⟨S', by rw [e, List.filter_eq_self.mpr (by simp)], h⟩
theorem comp_goM {α : Type} (e : α → D) {w : Watch} {t : Tgt} {tc : CT} {c : C} {ρ0 : Env1} (P : Store → Prop) (hw : ∀ S, P S → okW w S) (p : α → Bool) (f : α → D) : ∀ (l : List α) {S : Store}, P S →
    (∀ a ∈ l, ∀ S, P S → ∃ ρ1, bindT t (e a) ρ0 = some ρ1 ∧ ∃ S1, tc ρ1 S = .ok (p a) S1 ∧ (p a = false → P S1) ∧ (p a = true → ∃ S2, c ρ1 S1 = .ok (f a) S2 ∧ P S2)) → ∃ S', loopC w t tc c ρ0 (l.map e) S = .ok ((l.filter p).map f) S' ∧ P S'
  | [], S, h0, hs => ⟨S, by rw [List.map_nil]; unfold loopC; rw [if_pos (hw S h0)]; rfl, h0⟩
  | d :: ds, S, h0, hs => by
    obtain ⟨ρ1, e1, S1, e2, hf, ht⟩ := hs d (by simp) S h0
    rw [List.map_cons]
    unfold loopC
    rw [if_pos (hw S h0), e1]
    dsimp only
    rw [bnd_ev, e2, rbnd_ok]
    cases hp : p d with
    | false =>
      obtain ⟨S', e3, h3⟩ := comp_goM e P hw p f ds (hf hp) fun d' hd => hs d' (by simp [hd])
      exact ⟨S', by rw [if_neg Bool.false_ne_true, e3, List.filter_cons, hp]; rfl, h3⟩
    | true =>
      obtain ⟨S2, e4, h4⟩ := ht hp
      obtain ⟨S', e3, h3⟩ := comp_goM e P hw p f ds h4 fun d' hd => hs d' (by simp [hd])
      exact ⟨S', by rw [if_pos rfl, bnd_ev, e4, rbnd_ok, bnd_ev, e3, rbnd_ok, List.filter_cons, hp]; rfl, h3⟩
theorem comp_mapM {α : Type} (e : α → D) {w : Watch} {t : Tgt} {c : C} {ρ0 : Env1} (P : Store → Prop) (hw : ∀ S, P S → okW w S) (f : α → D) (l : List α) {S : Store} (h0 : P S)
    (hs : ∀ a ∈ l, ∀ S, P S → ∃ ρ1, bindT t (e a) ρ0 = some ρ1 ∧ ∃ S2, c ρ1 S = .ok (f a) S2 ∧ P S2) : ∃ S', loopC w t (fun _ => ret true) c ρ0 (l.map e) S = .ok (l.map f) S' ∧ P S' := by
  obtain ⟨S', e, h⟩ := comp_goM e (w := w) (t := t) (tc := fun _ => ret true) (c := c) (ρ0 := ρ0) P hw (fun _ => true) f l h0 (fun d hd S h => by
    obtain ⟨ρ1, e1, S2, e2, h2⟩ := hs d hd S h
    exact ⟨ρ1, e1, S, rfl, (fun z => by cases z), fun _ => ⟨S2, e2, h2⟩⟩)
  exact ⟨S', by rw [e, List.filter_eq_self.mpr (by simp)], h⟩
@[simp] theorem bindT_one (d : D) (ρ : Env1) : bindT .one d ρ = some (ρ.set 0 (some d)) := rfl
@[simp] theorem bindT_two (x y : D) (ρ : Env1) : bindT (.many 2) (.tup [x, y]) ρ = some ((ρ.set 0 (some x)).set 1 (some y)) := rfl
@[simp] theorem stE_ev (k : Nat) (js : List Nat) (ρ : Env1) : stE k js ρ = List.replicate k none ++ js.map fun j => (ρ[j]?).getD none := rfl
theorem runF_ev {np nN : Nat} {b : CS} {ds : List D} {S : Store} (h : ds.length = np) : runF np nN b ds S = match b (startE nN ds) S with
  | .nx _ S' => .ok .non S'
  | .rt d S' => .ok d S'
  | .er c S' => .er c S'
  | _ => .bad := by
  unfold runF
  rw [if_pos h]
  all_goals (cases b (startE nN ds) S <;> rfl)
theorem run_rt {np nN : Nat} {b : CS} {ds : List D} {S S' : Store} {d : D} (h : ds.length = np) (e : b (startE nN ds) S = .rt d S') : runF np nN b ds S = .ok d S' := by rw [runF_ev h, e]
end L2
namespace L2
open PySem
def plain : Nat → D → Bool
  | 0, _ => false
  | n + 1, d => match d with
    | .int _ => true
    | .non => true
    | .str x => PyData.strOk x
    | .tup xs => xs.all (plain n)
    | _ => false
def pdat : Nat → D → PyData
  | 0, _ => .none
  | n + 1, d => match d with
    | .int i => .int i
    | .str x => .str x
    | .tup xs => .tuple (xs.map (pdat n))
    | _ => .none
theorem mapM_some {α β : Type} {f : α → Option β} {g : α → β} {l : List α} (h : ∀ x ∈ l, f x = some (g x)) : l.mapM f = some (l.map g) := by
  induction l with
  | nil => rfl
  | cons a r ih =>
    rw [List.mapM_cons, h a (by simp), ih fun x hx => h x (by simp [hx])]
    rfl
theorem snap_plain : ∀ {n : Nat} {d : D} (S : Store), plain n d = true → snap n S d = some (pdat n d)
  | 0, d, S, h => by cases h
  | n + 1, d, S, h => by
    unfold plain at h
    unfold snap pdat
    cases d with
    | int i => rfl
    | non => rfl
    | str x => dsimp only at h ⊢; rw [if_pos h]
    | tup xs =>
      dsimp only at h ⊢
      rw [mapM_some (g := pdat n) fun x hx => snap_plain S (List.all_eq_true.mp h x hx)]
      rfl
    | _ => cases h
theorem bool_ext {a b : Bool} (h : a = true ↔ b = true) : a = b := by cases a <;> cases b <;> simp at h ⊢
theorem plain_int {n : Nat} (h : 0 < n) (i : Int) : plain n (.int i) = true := by
  cases n with
  | zero => cases h
  | succ n => rfl
theorem plain_tup {n : Nat} {xs : List D} (h : ∀ x ∈ xs, plain n x = true) : plain (n + 1) (.tup xs) = true := List.all_eq_true.mpr h
@[simp] theorem inst_int_bool (i : Int) (S : Store) : fInst [.int i, .ty "bool"] S = .ok (.bl false) S := rfl
@[simp] theorem inst_int_int (i : Int) (S : Store) : fInst [.int i, .ty "int"] S = .ok (.bl true) S := rfl
@[simp] theorem inst_int_tuple (i : Int) (S : Store) : fInst [.int i, .ty "tuple"] S = .ok (.bl false) S := rfl
@[simp] theorem inst_int_list (i : Int) (S : Store) : fInst [.int i, .ty "list"] S = .ok (.bl false) S := rfl
@[simp] theorem inst_bool_bool (b : Bool) (S : Store) : fInst [.bl b, .ty "bool"] S = .ok (.bl true) S := rfl
@[simp] theorem inst_bool_int (b : Bool) (S : Store) : fInst [.bl b, .ty "int"] S = .ok (.bl true) S := rfl
@[simp] theorem inst_bool_tuple (b : Bool) (S : Store) : fInst [.bl b, .ty "tuple"] S = .ok (.bl false) S := rfl
@[simp] theorem inst_bool_list (b : Bool) (S : Store) : fInst [.bl b, .ty "list"] S = .ok (.bl false) S := rfl
@[simp] theorem inst_NoneType_bool  (S : Store) : fInst [.non, .ty "bool"] S = .ok (.bl false) S := rfl
@[simp] theorem inst_NoneType_int  (S : Store) : fInst [.non, .ty "int"] S = .ok (.bl false) S := rfl
@[simp] theorem inst_NoneType_tuple  (S : Store) : fInst [.non, .ty "tuple"] S = .ok (.bl false) S := rfl
@[simp] theorem inst_NoneType_list  (S : Store) : fInst [.non, .ty "list"] S = .ok (.bl false) S := rfl
@[simp] theorem inst_str_bool (x : Str) (S : Store) : fInst [.str x, .ty "bool"] S = .ok (.bl false) S := rfl
@[simp] theorem inst_str_int (x : Str) (S : Store) : fInst [.str x, .ty "int"] S = .ok (.bl false) S := rfl
@[simp] theorem inst_str_tuple (x : Str) (S : Store) : fInst [.str x, .ty "tuple"] S = .ok (.bl false) S := rfl
@[simp] theorem inst_str_list (x : Str) (S : Store) : fInst [.str x, .ty "list"] S = .ok (.bl false) S := rfl
@[simp] theorem inst_tuple_bool (xs : List D) (S : Store) : fInst [.tup xs, .ty "bool"] S = .ok (.bl false) S := rfl
@[simp] theorem inst_tuple_int (xs : List D) (S : Store) : fInst [.tup xs, .ty "int"] S = .ok (.bl false) S := rfl
@[simp] theorem inst_tuple_tuple (xs : List D) (S : Store) : fInst [.tup xs, .ty "tuple"] S = .ok (.bl true) S := rfl
@[simp] theorem inst_tuple_list (xs : List D) (S : Store) : fInst [.tup xs, .ty "list"] S = .ok (.bl false) S := rfl
end L2
namespace L2
open PySem
@[simp] theorem oRev_ev (xs : List D) (S : Store) : oRev (.tup xs) (.int (-1)) S = .ok (.tup xs.reverse) S := rfl
theorem intsOf_map (ns : List Int) : intsOf (ns.map D.int) = some ns := by
  induction ns with
  | nil => rfl
  | cons a r ih => show (intsOf (r.map D.int)).map (a :: ·) = _; rw [ih]; rfl
theorem fSum_lst {n : Nat} {ns : List Int} {S : Store} (h : lstAt S n = some (ns.map D.int)) (h1 : ∀ i ∈ ns, 0 ≤ i ∧ i ≤ 1000000) (hl : ns.length ≤ 1000000) : fSum [.lst n] S = .ok (.int ns.sum) S := by
  unfold fSum
  have : (ns.all fun i => decide (0 ≤ i) && decide (i ≤ 1000000)) = true := List.all_eq_true.mpr fun i hi => by simpa using h1 i hi
  simp only [h, Option.bind_some, intsOf_map, this, hl, and_self, if_true]
theorem cutD_take (xs : List D) {k : Int} (h0 : 0 ≤ k) : cutD xs none (some k) = xs.take k.toNat := by
  unfold cutD
  rw [show k = ((k.toNat : Nat) : Int) by omega, HT.sIx_nat, HT.sIx_none, Nat.sub_zero, List.drop_zero, Int.toNat_natCast]
  by_cases h : k.toNat ≤ xs.length
  · rw [Nat.min_eq_left h]
  · rw [Nat.min_eq_right (by omega), List.take_length, List.take_of_length_le (by omega)]
theorem cutD_drop (xs : List D) {k : Int} (h0 : 0 ≤ k) : cutD xs (some k) none = xs.drop k.toNat := by
  unfold cutD
  rw [show k = ((k.toNat : Nat) : Int) by omega, HT.sIx_nat, HT.sIx_none, Int.toNat_natCast]
  by_cases h : k.toNat ≤ xs.length
  · rw [Nat.min_eq_left h, List.take_of_length_le (by simp)]
  · rw [Nat.min_eq_right (by omega), Nat.sub_self, List.take_zero, List.drop_of_length_le (by omega)]
end L2
namespace My
open PySem L2
noncomputable def b_is_whole (cl : CLL) : CS :=
  (sSeq (sRet (cAndV (cApp fInst (cArgs [(cVar 0), (cCon (.ty "int"))])) (cNotV (cApp fInst (cArgs [(cVar 0), (cCon (.ty "bool"))])))))
    sPass)
def Hs_is_whole (cl : Nat → CLL) : Prop := ∀ n, cl (n + 1) "is_whole" = runF 1 1 (b_is_whole (cl n))
noncomputable def b_is_bit (cl : CLL) : CS :=
  (sSeq (sRet (cAndV (cApp (cl "is_whole") (cArgs [(cVar 0)])) (cChain (oCmp fun i j => decide (i ≤ j)) (oCmp fun i j => decide (i ≤ j)) (cCon (.int 0)) (cVar 0) (cCon (.int 1)))))
    sPass)
def Hs_is_bit (cl : Nat → CLL) : Prop := ∀ n, cl (n + 1) "is_bit" = runF 1 1 (b_is_bit (cl n))
noncomputable def b_is_lone (cl : CLL) : CS :=
  (sSeq (sIf (cOrT (cNotT (cTru (cApp fInst (cArgs [(cVar 1), (cCon (.ty "tuple"))])))) (cOrT (cBool (cBin oNe (cApp fLen (cArgs [(cVar 1)])) (cCon (.int 3)))) (cBool (cBin oNe (cBin oIx (cVar 1) (cCon (.int 0))) (cCon (.str (Str.ofString "at"))))))) (sSeq (sRet (cCon (.bl false)))
    sPass) sPass)
    (sSeq (sRet (cAndV (cApp (cl "is_whole") (cArgs [(cBin oIx (cVar 1) (cCon (.int 1)))])) (cAndV (cChain (oCmp fun i j => decide (i ≤ j)) oLt (cCon (.int 0)) (cBin oIx (cVar 1) (cCon (.int 1))) (cVar 0)) (cApp (cl "is_bit") (cArgs [(cBin oIx (cVar 1) (cCon (.int 2)))])))))
    sPass))
def Hs_is_lone (cl : Nat → CLL) : Prop := ∀ n, cl (n + 1) "is_lone" = runF 2 2 (b_is_lone (cl n))
noncomputable def b_has_parts (cl : CLL) : CS :=
  (sSeq (sIf (cOrT (cNotT (cTru (cApp fInst (cArgs [(cVar 0), (cCon (.ty "tuple"))])))) (cOrT (cBool (cBin oNe (cApp fLen (cArgs [(cVar 0)])) (cCon (.int 2)))) (cBool (cBin (oIn true) (cBin oIx (cVar 0) (cCon (.int 0))) (cTup (cArgs [(cCon (.str (Str.ofString "row"))), (cCon (.str (Str.ofString "side")))])))))) (sSeq (sRet (cCon (.bl false)))
    sPass) sPass)
    (sSeq (sRet (cAndV (cApp fInst (cArgs [(cBin oIx (cVar 0) (cCon (.int 1))), (cCon (.ty "tuple"))])) (cBin (oCmp fun i j => decide (j ≤ i)) (cApp fLen (cArgs [(cBin oIx (cVar 0) (cCon (.int 1)))])) (cCon (.int 2)))))
    sPass))
def Hs_has_parts (cl : Nat → CLL) : Prop := ∀ n, cl (n + 1) "has_parts" = runF 1 1 (b_has_parts (cl n))
noncomputable def is_tree_l1 (cl : CLL) : CS :=
  (sSeq (sIf (cBool (cBin (oCmp fun i j => decide (j < i)) (cBin oAdd (cVar 3) (cApp fLen (cArgs [(cVar 2)]))) (cCon (.int 16)))) (sSeq (sRet (cCon (.bl false)))
    sPass) sPass)
    (sSeq (sAsg (cMeth0 "list" (mList gPop) (cVar 2)) (gN 4))
    (sSeq (sIf (cTru (cApp (cl "is_lone") (cArgs [(cVar 0), (cVar 4)]))) (sSeq (sAsg (cBin oAdd (cVar 3) (cCon (.int 1))) (gN 3))
    sPass) (sSeq (sIf (cTru (cApp (cl "has_parts") (cArgs [(cVar 4)]))) (sSeq (sExpr (cMeth "list" mExtend (cVar 2) (cArgs [(cBin oIx (cVar 4) (cCon (.int 1)))])))
    sPass) (sSeq (sRet (cCon (.bl false)))
    sPass))
    sPass))
    sPass)))
noncomputable def b_is_tree (cl : CLL) : CS :=
  (sSeq (sAsg (cLst (cArgs [(cVar 1)])) (gN 2))
    (sSeq (sAsg (cCon (.int 0)) (gN 3))
    (sSeq (whileS wfuel (cTru (cVar 2)) (is_tree_l1 cl))
    (sSeq (sRet (cCon (.bl true)))
    sPass))))
def Hs_is_tree (cl : Nat → CLL) : Prop := ∀ n, cl (n + 1) "is_tree" = runF 2 5 (b_is_tree (cl n))
noncomputable def contacts_of_e1 (cl : CLL) : C :=
  (cApp (cl "contacts_of") (cArgs [(cVar 0)]))
noncomputable def b_contacts_of (cl : CLL) : CS :=
  (sSeq (sIf (cBool (cBin oEq (cBin oIx (cVar 0) (cCon (.int 0))) (cCon (.str (Str.ofString "at"))))) (sSeq (sRet (cCon (.int 1)))
    sPass) sPass)
    (sSeq (sRet (cApp fSum (cArgs [(cComp (iSeq (cBin oIx (cVar 0) (cCon (.int 1)))) 1 [] .one (fun _ => ret true) (contacts_of_e1 cl))])))
    sPass))
def Hs_contacts_of (cl : Nat → CLL) : Prop := ∀ n, cl (n + 1) "contacts_of" = runF 1 1 (b_contacts_of (cl n))
noncomputable def b_law_cell_at (cl : CLL) : CS :=
  (sSeq (sIf (cBool (cBin oLt (cVar 1) (cApp fLen (cArgs [(cVar 0)])))) (sSeq (sRet (cBin oIx (cVar 0) (cVar 1)))
    sPass) sPass)
    (sSeq (sRet (cCon (.int 0)))
    sPass))
def Hs_law_cell_at (cl : Nat → CLL) : Prop := ∀ n, cl (n + 1) "_law_cell_at" = runF 2 2 (b_law_cell_at (cl n))
noncomputable def b_law_state (cl : CLL) : CS :=
  (sSeq (sAsg (cApp (cl "_law_cell_at") (cArgs [(cVar 0), (cVar 1)])) (gN 2))
    (sSeq (sIf (cBool (cBin (oCmp fun i j => decide (j ≤ i)) (cVar 2) (cBin oPow (cCon (.int 10)) (cCon (.int 18))))) (sSeq (sRet (cLst (cArgs [(cBin (oInt fun i j => i - j) (cVar 2) (cBin oPow (cCon (.int 10)) (cCon (.int 18)))), (cCon (.bl true))])))
    sPass) sPass)
    (sSeq (sRet (cLst (cArgs [(cBin oMod (cVar 2) (cCon (.int 2147483647))), (cCon (.bl false))])))
    sPass)))
def Hs_law_state (cl : Nat → CLL) : Prop := ∀ n, cl (n + 1) "_law_state" = runF 2 3 (b_law_state (cl n))
noncomputable def b_law_take (cl : CLL) : CS :=
  (sSeq (sIf (cTru (cBin oIx (cVar 0) (cCon (.int 1)))) (sSeq (sAsg (cBin oMod (cBin oIx (cVar 0) (cCon (.int 0))) (cVar 1)) (gN 2))
    (sSeq (sAsg (cBin oDiv (cBin oIx (cVar 0) (cCon (.int 0))) (cVar 1)) (gS (cVar 0) (cCon (.int 0))))
    (sSeq (sRet (cVar 2))
    sPass))) sPass)
    (sSeq (sAsg (cBin oMod (cBin oAdd (cBin oMul (cBin oIx (cVar 0) (cCon (.int 0))) (cCon (.int 48271))) (cCon (.int 29))) (cCon (.int 2147483647))) (gS (cVar 0) (cCon (.int 0))))
    (sSeq (sAsg (cBin oMod (cBin oAdd (cBin oAdd (cBin oMul (cBin oIx (cVar 0) (cCon (.int 0))) (cBin oIx (cVar 0) (cCon (.int 0)))) (cBin oMul (cCon (.int 39373)) (cBin oIx (cVar 0) (cCon (.int 0))))) (cCon (.int 7))) (cCon (.int 2147483629))) (gN 3))
    (sSeq (sAsg (cBin oMod (cBin oAdd (cBin oMul (cVar 3) (cVar 3)) (cBin oMul (cCon (.int 16807)) (cVar 3))) (cCon (.int 2147483587))) (gN 3))
    (sSeq (sRet (cBin oMod (cBin oDiv (cVar 3) (cCon (.int 8))) (cVar 1)))
    sPass)))))
def Hs_law_take (cl : Nat → CLL) : Prop := ∀ n, cl (n + 1) "_law_take" = runF 2 4 (b_law_take (cl n))
noncomputable def b_law_whole (cl : CLL) : CS :=
  (sSeq (sRet (cAndV (cApp fInst (cArgs [(cVar 0), (cCon (.ty "int"))])) (cAndV (cNotV (cApp fInst (cArgs [(cVar 0), (cCon (.ty "bool"))]))) (cChain (oCmp fun i j => decide (i ≤ j)) oLt (cVar 1) (cVar 0) (cVar 2)))))
    sPass)
def Hs_law_whole (cl : Nat → CLL) : Prop := ∀ n, cl (n + 1) "_law_whole" = runF 3 3 (b_law_whole (cl n))
noncomputable def b_law_tree (cl : CLL) : CS :=
  (sSeq (sIf (cOrT (cBool (cBin oLt (cVar 2) (cCon (.int 2)))) (cBool (cBin oEq (cApp (cl "_law_take") (cArgs [(cVar 0), (cCon (.int 5))])) (cCon (.int 0))))) (sSeq (sRet (cTup (cArgs [(cCon (.str (Str.ofString "at"))), (cApp (cl "_law_take") (cArgs [(cVar 0), (cVar 1)])), (cApp (cl "_law_take") (cArgs [(cVar 0), (cCon (.int 2))]))])))
    sPass) sPass)
    (sSeq (sAsg (cBin oAdd (cCon (.int 1)) (cApp (cl "_law_take") (cArgs [(cVar 0), (cBin (oInt fun i j => i - j) (cVar 2) (cCon (.int 1)))]))) (gN 3))
    (sSeq (sAsg (cLst (cArgs [(cApp (cl "_law_tree") (cArgs [(cVar 0), (cVar 1), (cVar 3)])), (cApp (cl "_law_tree") (cArgs [(cVar 0), (cVar 1), (cBin (oInt fun i j => i - j) (cVar 2) (cVar 3))]))])) (gN 4))
    (sSeq (sIf (cAndT (cBool (cBin (oCmp fun i j => decide (j < i)) (cVar 3) (cCon (.int 1)))) (cBool (cBin oEq (cApp (cl "_law_take") (cArgs [(cVar 0), (cCon (.int 3))])) (cCon (.int 0))))) (sSeq (sAsg (cBin oAdd (cCon (.int 1)) (cApp (cl "_law_take") (cArgs [(cVar 0), (cBin (oInt fun i j => i - j) (cVar 3) (cCon (.int 1)))]))) (gN 5))
    (sSeq (sAsg (cApp (cl "_law_tree") (cArgs [(cVar 0), (cVar 1), (cVar 5)])) (gS (cVar 4) (cCon (.int 0))))
    (sSeq (sExpr (cMeth "list" (mList gInsert) (cVar 4) (cArgs [(cCon (.int 1)), (cApp (cl "_law_tree") (cArgs [(cVar 0), (cVar 1), (cBin (oInt fun i j => i - j) (cVar 3) (cVar 5))]))])))
    sPass))) sPass)
    (sSeq (sRet (cTup (cArgs [(cBin oIx (cLst (cArgs [(cCon (.str (Str.ofString "row"))), (cCon (.str (Str.ofString "side")))])) (cApp (cl "_law_take") (cArgs [(cVar 0), (cCon (.int 2))]))), (cApp fTuple (cArgs [(cVar 4)]))])))
    sPass)))))
def Hs_law_tree (cl : Nat → CLL) : Prop := ∀ n, cl (n + 1) "_law_tree" = runF 3 6 (b_law_tree (cl n))
noncomputable def law_leaves_l1 (cl : CLL) : CS :=
  (sSeq (sExpr (cMeth "list" mExtend (cVar 1) (cArgs [(cApp (cl "_law_leaves") (cArgs [(cVar 2)]))])))
    sPass)
noncomputable def b_law_leaves (cl : CLL) : CS :=
  (sSeq (sIf (cBool (cBin oEq (cBin oIx (cVar 0) (cCon (.int 0))) (cCon (.str (Str.ofString "at"))))) (sSeq (sRet (cLst (cArgs [(cVar 0)])))
    sPass) sPass)
    (sSeq (sAsg (cLst (cArgs [])) (gN 1))
    (sSeq (sFor (iSeq (cBin oIx (cVar 0) (cCon (.int 1)))) (gN 2) (law_leaves_l1 cl))
    (sSeq (sRet (cVar 1))
    sPass))))
def Hs_law_leaves (cl : Nat → CLL) : Prop := ∀ n, cl (n + 1) "_law_leaves" = runF 1 3 (b_law_leaves (cl n))
noncomputable def law_counted_l1 (cl : CLL) : CS :=
  (sSeq (sAsg (cApp (cl "_law_counted") (cArgs [(cVar 0), (cVar 4)])) (gN 5))
    (sSeq (sIf (cBool (cBin oEq (cVar 5) (cCon (.int 0)))) (sSeq (sRet (cCon (.int 0)))
    sPass) sPass)
    (sSeq (sAsg (cBin oAdd (cVar 3) (cVar 5)) (gN 3))
    sPass)))
noncomputable def b_law_counted (cl : CLL) : CS :=
  (sSeq (sIf (cOrT (cNotT (cTru (cApp fInst (cArgs [(cVar 1), (cCon (.ty "tuple"))])))) (cOrT (cBool (cBin (oIn true) (cApp fLen (cArgs [(cVar 1)])) (cTup (cArgs [(cCon (.int 2)), (cCon (.int 3))])))) (cNotT (cTru (cApp fInst (cArgs [(cBin oIx (cVar 1) (cCon (.int 0))), (cCon (.ty "str"))])))))) (sSeq (sRet (cCon (.int 0)))
    sPass) sPass)
    (sSeq (sIf (cBool (cBin oEq (cApp fLen (cArgs [(cVar 1)])) (cCon (.int 3)))) (sSeq (sAsg (cAndV (cBin oEq (cBin oIx (cVar 1) (cCon (.int 0))) (cCon (.str (Str.ofString "at")))) (cAndV (cApp (cl "_law_whole") (cArgs [(cBin oIx (cVar 1) (cCon (.int 1))), (cCon (.int 0)), (cVar 0)])) (cApp (cl "_law_whole") (cArgs [(cBin oIx (cVar 1) (cCon (.int 2))), (cCon (.int 0)), (cCon (.int 2))])))) (gN 2))
    (sSeq (sRet (cApp fInt (cArgs [(cVar 2)])))
    sPass)) sPass)
    (sSeq (sIf (cOrT (cBool (cBin (oIn true) (cBin oIx (cVar 1) (cCon (.int 0))) (cTup (cArgs [(cCon (.str (Str.ofString "row"))), (cCon (.str (Str.ofString "side")))])))) (cOrT (cNotT (cTru (cApp fInst (cArgs [(cBin oIx (cVar 1) (cCon (.int 1))), (cCon (.ty "tuple"))])))) (cBool (cBin oLt (cApp fLen (cArgs [(cBin oIx (cVar 1) (cCon (.int 1)))])) (cCon (.int 2)))))) (sSeq (sRet (cCon (.int 0)))
    sPass) sPass)
    (sSeq (sAsg (cCon (.int 0)) (gN 3))
    (sSeq (sFor (iSeq (cBin oIx (cVar 1) (cCon (.int 1)))) (gN 4) (law_counted_l1 cl))
    (sSeq (sRet (cVar 3))
    sPass))))))
def Hs_law_counted (cl : Nat → CLL) : Prop := ∀ n, cl (n + 1) "_law_counted" = runF 2 6 (b_law_counted (cl n))
noncomputable def b_law_odd_v3 (cl : CLL) : CS :=
  (sSeq (sAsg (cLst (cArgs [(cCon .non), (cCon (.bl true)), (cCon (.bl false)), (cUn oNeg (cCon (.int 1))), (cCon (.str (Str.ofString ""))), (cCon (.str (Str.ofString "at"))), (cTup (cArgs [])), (cLst (cArgs [])), (cTup (cArgs [(cCon (.bl true))])), (cLst (cArgs [(cCon (.int 0))])), (cDOne (cCon (.int 0)) (cCon (.int 1))), (cTup (cArgs [(cCon .non)])), (cTup (cArgs [(cUn oNeg (cCon (.int 1)))])), (cTup (cArgs [(cCon (.str (Str.ofString "at")))])), (cBin oPow (cCon (.int 10)) (cCon (.int 29))), (cTup (cArgs [(cCon (.int 0)), (cCon (.int 0))]))])) (gN 1))
    (sSeq (sRet (cBin oIx (cVar 1) (cApp (cl "_law_take") (cArgs [(cVar 0), (cCon (.int 16))]))))
    sPass))
def Hs_law_odd_v3 (cl : Nat → CLL) : Prop := ∀ n, cl (n + 1) "_law_odd" = runF 1 2 (b_law_odd_v3 (cl n))
noncomputable def b_law_same (cl : CLL) : CS :=
  (sSeq (sRet (cBin oEq (cApp fRepr (cArgs [(cVar 0)])) (cApp fRepr (cArgs [(cVar 1)]))))
    sPass)
def Hs_law_same (cl : Nat → CLL) : Prop := ∀ n, cl (n + 1) "_law_same" = runF 2 2 (b_law_same (cl n))
noncomputable def b_law_right_v5 (cl : CLL) : CS :=
  (sSeq (sAsg (cApp (cl "is_tree") (cArgs [(cVar 0), (cVar 1)])) (gN 2))
    (sSeq (sAsg (cChain (oCmp fun i j => decide (i ≤ j)) (oCmp fun i j => decide (i ≤ j)) (cCon (.int 1)) (cApp (cl "_law_counted") (cArgs [(cVar 0), (cVar 1)])) (cCon (.int 16))) (gN 3))
    (sSeq (sRet (cAndV (cApp fInst (cArgs [(cVar 2), (cCon (.ty "bool"))])) (cAndV (cBin oEq (cVar 2) (cVar 3)) (cBin oEq (cApp (cl "is_tree") (cArgs [(cVar 0), (cVar 1)])) (cVar 2)))))
    sPass)))
def Hs_law_right_v5 (cl : Nat → CLL) : Prop := ∀ n, cl (n + 1) "_law_right" = runF 2 4 (b_law_right_v5 (cl n))
noncomputable def b_law_bent_v4 (cl : CLL) : CS :=
  (sSeq (sIf (cAndT (cBool (cBin oNe (cBin oIx (cVar 1) (cCon (.int 0))) (cCon (.str (Str.ofString "at"))))) (cBool (cBin (oCmp fun i j => decide (j < i)) (cApp (cl "_law_take") (cArgs [(cVar 0), (cCon (.int 3))])) (cCon (.int 0))))) (sSeq (sAsg (cApp (cl "_law_take") (cArgs [(cVar 0), (cApp fLen (cArgs [(cBin oIx (cVar 1) (cCon (.int 1)))]))])) (gN 2))
    (sSeq (sRet (cTup (cArgs [(cBin oIx (cVar 1) (cCon (.int 0))), (cBin oAdd (cBin oAdd (cSl oSl (cBin oIx (cVar 1) (cCon (.int 1))) cNoPart (cPart (cVar 2))) (cTup (cArgs [(cApp (cl "_law_bent") (cArgs [(cVar 0), (cBin oIx (cBin oIx (cVar 1) (cCon (.int 1))) (cVar 2))]))]))) (cSl oSl (cBin oIx (cVar 1) (cCon (.int 1))) (cPart (cBin oAdd (cVar 2) (cCon (.int 1)))) cNoPart))])))
    sPass)) sPass)
    (sSeq (sAsg (cBin oIx (cLst (cArgs [(cCon .non), (cCon (.bl true)), (cCon (.int 4)), (cUn oNeg (cCon (.int 1))), (cCon (.str (Str.ofString "at"))), (cCon (.int 2)), (cTup (cArgs [(cCon (.str (Str.ofString "at"))), (cCon (.int 0)), (cCon (.int 2))])), (cTup (cArgs [(cCon (.str (Str.ofString "at"))), (cCon (.bl true)), (cCon (.int 0))]))])) (cApp (cl "_law_take") (cArgs [(cVar 0), (cCon (.int 8))]))) (gN 3))
    (sSeq (sAsg (cLst (cArgs [(cBin oAdd (cTup (cArgs [(cVar 3)])) (cSl oSl (cVar 1) (cPart (cCon (.int 1))) cNoPart)), (cBin oAdd (cBin oAdd (cSl oSl (cVar 1) cNoPart (cPart (cCon (.int 1)))) (cTup (cArgs [(cVar 3)]))) (cSl oSl (cVar 1) (cPart (cCon (.int 2))) cNoPart)), (cBin oAdd (cVar 1) (cTup (cArgs [(cVar 3)]))), (cApp fList (cArgs [(cVar 1)])), (cTup (cArgs [(cCon (.str (Str.ofString "row"))), (cTup (cArgs [(cVar 1)]))])), (cVar 3)])) (gN 4))
    (sSeq (sAsg (cBin oAdd (cVar 4) (cLst (cArgs [(cSl oSl (cVar 1) cNoPart (cPart (cUn oNeg (cCon (.int 1))))), (cTup (cArgs [(cCon (.str (Str.ofString "side"))), (cTup (cArgs [(cVar 1), (cVar 1)]))])), (cTup (cArgs [(cCon (.str (Str.ofString "row"))), (cLst (cArgs [(cVar 1), (cVar 1)]))])), (cTup (cArgs [(cCon (.str (Str.ofString "at"))), (cTup (cArgs [(cVar 1), (cVar 1)]))])), (cTup (cArgs [(cCon (.str (Str.ofString "side"))), (cTup (cArgs []))]))]))) (gN 4))
    (sSeq (sExpr (cMeth "list" (mList gAppend) (cVar 4) (cArgs [(cBin oRev (cVar 1) (cUn oNeg (cCon (.int 1))))])))
    (sSeq (sRet (cBin oIx (cVar 4) (cApp (cl "_law_take") (cArgs [(cVar 0), (cCon (.int 12))]))))
    sPass))))))
def Hs_law_bent_v4 (cl : Nat → CLL) : Prop := ∀ n, cl (n + 1) "_law_bent" = runF 2 5 (b_law_bent_v4 (cl n))
noncomputable def law_v13_e1 (cl : CLL) : C :=
  (cApp (cl "_law_right") (cArgs [(cVar 1), (cVar 0)]))
noncomputable def law_v13_e2 (cl : CLL) : C :=
  (cApp (cl "_law_bent") (cArgs [(cVar 1), (cVar 2)]))
noncomputable def law_v13_l1 (cl : CLL) : CS :=
  (sSeq (sAsg (cApp (cl "_law_state") (cArgs [(cVar 0), (cVar 3)])) (gN 4))
    (sSeq (sAsg (cBin oAdd (cCon (.int 1)) (cApp (cl "_law_take") (cArgs [(cVar 4), (cCon (.int 4))]))) (gN 5))
    (sSeq (sAsg (cApp (cl "_law_tree") (cArgs [(cVar 4), (cVar 5), (cBin oIx (cLst (cArgs [(cCon (.int 4)), (cCon (.int 9)), (cCon (.int 16))])) (cApp (cl "_law_take") (cArgs [(cVar 4), (cCon (.int 3))])))])) (gN 6))
    (sSeq (sIf (cNotT (cTru (cApp (cl "_law_same") (cArgs [(cApp (cl "contacts_of") (cArgs [(cVar 6)])), (cApp fLen (cArgs [(cApp (cl "_law_leaves") (cArgs [(cVar 6)]))]))])))) (sSeq (sRet (cCon (.bl false)))
    sPass) sPass)
    (sSeq (sAsg (cBin oAdd (cLst (cArgs [(cVar 6), (cApp (cl "_law_odd") (cArgs [(cVar 4)]))])) (cComp (iRange1 (cArgs [(cCon (.int 4))])) 1 [4, 6] .one (fun _ => ret true) (law_v13_e2 cl))) (gN 7))
    (sSeq (sIf (cOrT (cNotT (cTru (cApp (fBools fun bs => bs.all id) (cArgs [(cComp (iSeq (cVar 7)) 1 [5] .one (fun _ => ret true) (law_v13_e1 cl))])))) (cNotT (cTru (cApp (cl "_law_right") (cArgs [(cBin oAdd (cCon (.int 1)) (cApp (cl "_law_take") (cArgs [(cVar 4), (cCon (.int 4))]))), (cVar 6)]))))) (sSeq (sRet (cCon (.bl false)))
    sPass) sPass)
    sPass))))))
noncomputable def law_v13_l2 (cl : CLL) : CS :=
  (sSeq (sIf (cNotT (cTru (cApp (cl "_law_right") (cArgs [(cCon (.int 1)), (cVar 2)])))) (sSeq (sRet (cCon (.bl false)))
    sPass) sPass)
    sPass)
noncomputable def b_law_v13 (cl : CLL) : CS :=
  (sSeq (sAsg (cTup (cArgs [(cCon (.str (Str.ofString "at"))), (cCon (.int 0)), (cCon (.int 1))])) (gN 1))
    (sSeq (sFor (iSeq (cLst (cArgs [(cTup (cArgs [(cCon (.str (Str.ofString "row"))), (cBin oMul (cTup (cArgs [(cVar 1)])) (cCon (.int 16)))])), (cTup (cArgs [(cCon (.str (Str.ofString "row"))), (cBin oMul (cTup (cArgs [(cVar 1)])) (cCon (.int 17)))])), (cTup (cArgs [(cCon (.str (Str.ofString "side"))), (cTup (cArgs [(cVar 1)]))])), (cVar 1), (cTup (cArgs [(cCon (.str (Str.ofString "at"))), (cCon (.int 1)), (cCon (.int 0))])), (cTup (cArgs [(cCon (.str (Str.ofString "row"))), (cTup (cArgs []))]))]))) (gN 2) (law_v13_l2 cl))
    (sSeq (sFor (iRange1 (cArgs [(cApp fMax (cArgs [(cCon (.int 1)), (cApp fMin (cArgs [(cApp fLen (cArgs [(cVar 0)])), (cCon (.int 10))]))]))])) (gN 3) (law_v13_l1 cl))
    (sSeq (sRet (cCon (.bl true)))
    sPass))))
def Hs_law_v13 (cl : Nat → CLL) : Prop := ∀ n, cl (n + 1) "law" = runF 1 8 (b_law_v13 (cl n))
end My
namespace My
open PySem L2
variable {cl : Nat → CLL}
theorem cell_spec (h : Hs_law_cell_at cl) (n : Nat) (ns : List Int) (k : Int) (hk : 0 ≤ k) (S : Store) : ∃ c, cl (n + 1) "_law_cell_at" [.rol (ns.map D.int), .int k] S = .ok (.int c) S := by
  by_cases hl : k < ns.length
  · refine ⟨ns[k.toNat]'(by omega), ?_⟩
    have e : atI (ns.map D.int) k = some (.int (ns[k.toNat]'(by omega))) := by
      have q := atI_nat (xs := ns.map D.int) (j := k.toNat) (v := .int (ns[k.toNat]'(by omega))) (by rw [List.getElem?_map, List.getElem?_eq_getElem (by omega)]; rfl)
      rw [show ((k.toNat : Nat) : Int) = k by omega] at q
      exact q
    rw [h]
    refine run_rt rfl ?_
    simp [b_law_cell_at, startE, hl, e]
  · refine ⟨0, ?_⟩
    rw [h]
    refine run_rt rfl ?_
    simp [b_law_cell_at, startE, hl]
def StOk (S : Store) (i : Nat) : Prop := ∃ s b, lstAt S i = some [.int s, .bl b] ∧ (b = false → 0 ≤ s ∧ s < 2147483647)
theorem StOk.lt {S : Store} {i : Nat} (h : StOk S i) : i < S.length := by
  obtain ⟨s, b, e, _⟩ := h
  exact lstAt_lt e
theorem StOk.ex {S S' : Store} {i : Nat} (h : StOk S i) (e : Ex S S') : StOk S' i := by
  obtain ⟨s, b, q, r⟩ := h
  exact ⟨s, b, e.lst q (fun z => z), r⟩
theorem StOk.kp {P : Nat → Prop} {S S' : Store} {i : Nat} (h : StOk S i) (e : Kp P S S') (n : ¬ P i) : StOk S' i := by
  obtain ⟨s, b, q, r⟩ := h
  exact ⟨s, b, e.lst q n, r⟩
theorem state_spec (h : Hs_law_state cl) (hc : Hs_law_cell_at cl) (n : Nat) (ns : List Int) (k : Int) (hk : 0 ≤ k) (S : Store) : ∃ S1, cl (n + 2) "_law_state" [.rol (ns.map D.int), .int k] S = .ok (.lst S.length) S1 ∧ Ex S S1 ∧ StOk S1 S.length := by
  obtain ⟨c, ec⟩ := cell_spec hc n ns k hk S
  rw [show n + 2 = (n + 1) + 1 from rfl, h]
  by_cases hb : (1000000000000000000 : Int) ≤ c
  · refine ⟨S ++ [.lst [.int (c - 1000000000000000000), .bl true]], run_rt rfl ?_, ex_app _ _, _, _, lstAt_new _ _, fun z => by cases z⟩
    simp [b_law_state, startE, ec, hb]
  · refine ⟨S ++ [.lst [.int (c % 2147483647), .bl false]], run_rt rfl ?_, ex_app _ _, _, _, lstAt_new _ _, fun _ => ⟨Int.emod_nonneg _ (by decide), Int.emod_lt_of_pos _ (by decide)⟩⟩
    simp [b_law_state, startE, ec, hb]
theorem mulOk_r {i j : Int} (h1 : -18446744073709551616 < j) (h2 : j < 18446744073709551616) : mulOk i j = true := by
  unfold mulOk; simp [h1, h2]
@[simp] theorem ixN_two0 : ixN 2 0 = some 0 := rfl
theorem take_spec (h : Hs_law_take cl) (n : Nat) {S : Store} {i : Nat} (hS : StOk S i) {m : Int} (m0 : 0 < m) (m1 : m < 1073741824) :
    ∃ r S1, cl (n + 1) "_law_take" [.lst i, .int m] S = .ok (.int r) S1 ∧ 0 ≤ r ∧ r < m ∧ Kp (· = i) S S1 ∧ S1.length = S.length ∧ StOk S1 i := by
  obtain ⟨s, b, hs, hb⟩ := hS
  have e0 := oIx_lst hs
  cases b with
  | true =>
    refine ⟨s % m, S.set i (.lst [.int (s / m), .bl true]), ?_, Int.emod_nonneg _ (by omega), Int.emod_lt_of_pos _ m0, kp_set _ _, by simp, _, _, lstAt_set hs, fun z => by cases z⟩
    rw [h]
    refine run_rt rfl ?_
    simp [b_law_take, startE, e0, m0, m1, oSet_lst hs]
  | false =>
    obtain ⟨s0, s1⟩ := hb rfl
    generalize hz : (s * 48271 + 29) % 2147483647 = z
    have z0 : 0 ≤ z := by rw [← hz]; exact Int.emod_nonneg _ (by decide)
    have z1 : z < 2147483647 := by rw [← hz]; exact Int.emod_lt_of_pos _ (by decide)
    generalize hy : (z * z + 39373 * z + 7) % 2147483629 = y
    have y0 : 0 ≤ y := by rw [← hy]; exact Int.emod_nonneg _ (by decide)
    have y1 : y < 2147483629 := by rw [← hy]; exact Int.emod_lt_of_pos _ (by decide)
    generalize hx : (y * y + 16807 * y) % 2147483587 = x
    refine ⟨x / 8 % m, S.set i (.lst [.int z, .bl false]), ?_, Int.emod_nonneg _ (by omega), Int.emod_lt_of_pos _ m0, kp_set _ _, by simp, _, _, lstAt_set hs, fun _ => ⟨z0, z1⟩⟩
    rw [h]
    refine run_rt rfl ?_
    have e1 := oIx_lst (lstAt_set (ys := [.int z, .bl false]) hs)
    have k1 : mulOk s 48271 = true := mulOk_r (by decide) (by decide)
    have k2 : mulOk z z = true := mulOk_r (by omega) (by omega)
    have k3 : mulOk 39373 z = true := mulOk_r (by omega) (by omega)
    have k4 : mulOk y y = true := mulOk_r (by omega) (by omega)
    have k5 : mulOk 16807 y = true := mulOk_r (by omega) (by omega)
    simp [b_law_take, startE, e0, oSet_lst hs, k1, hz, e1, k2, k3, hy, k4, k5, hx, m0]
end My
namespace My
open PySem L2
variable {cl : Nat → CLL}
structure Ct where
  a : Int
  b : Int
  k : Int
  o : Int
  deriving DecidableEq
def Ct.d (c : Ct) : D := .tup [.int c.a, .int c.b, .int c.k, .int c.o]
def Ct.ok (sw pl : Int) (c : Ct) : Prop := 0 ≤ c.a ∧ c.a < c.b ∧ c.b < pl ∧ 0 ≤ c.k ∧ c.k < sw ∧ 0 ≤ c.o ∧ c.o < 2
structure Net where
  sw : Int
  pl : Int
  cs : List Ct
def Net.d (n : Net) : D := .tup [.int n.sw, .int n.pl, .tup (n.cs.map Ct.d)]
structure Net.ok (ms mp mc : Int) (n : Net) : Prop where
  s1 : 1 ≤ n.sw
  s2 : n.sw ≤ ms
  p1 : 2 ≤ n.pl
  p2 : n.pl ≤ mp
  c1 : (n.cs.length : Int) ≤ mc
  c2 : ∀ c ∈ n.cs, c.ok n.sw n.pl
theorem oAdd_lst {S : Store} {n m : Nat} {xs ys : List D} (h1 : lstAt S n = some xs) (h2 : lstAt S m = some ys) (h : xs.length + ys.length ≤ lim) : oAdd (.lst n) (.lst m) S = .ok (.lst S.length) (S ++ [.lst (xs ++ ys)]) := by
  show (match S[n]?, S[m]? with | some (O.lst xs), some (O.lst ys) => (if xs.length + ys.length ≤ lim then R.ok (D.lst S.length) (S ++ [O.lst (xs ++ ys)]) else .bad) | _, _ => .bad) = _
  rw [lstAt_some h1, lstAt_some h2]
  dsimp only
  rw [if_pos h]
theorem upD_len (lo : Int) (n : Nat) : (upD lo n).length = n := by unfold upD; simp
theorem lim_eq : lim = 1048576 := rfl
theorem _root_.L2.Kp.setNew {P : Nat → Prop} {S0 S : Store} {l : Nat} {o : O} (h : Kp P S0 S) (hl : S0.length ≤ l) : Kp P S0 (S.set l o) :=
  ⟨by rw [List.length_set]; exact h.le, fun j hj n => by rw [List.getElem?_set_ne (by omega)]; exact h.eq j hj n⟩
theorem StOk.setO {S : Store} {i l : Nat} {o : O} (h : StOk S i) (hl : l ≠ i) : StOk (S.set l o) i := by
  obtain ⟨s, b, q, r⟩ := h
  exact ⟨s, b, lstAt_of (by rw [List.getElem?_set_ne hl]; exact lstAt_some q), r⟩
@[simp] theorem upD_get {lo : Int} {n i : Nat} {d : D} : (upD lo n)[i]? = some d ↔ i < n ∧ d = .int (lo + i) := by
  unfold upD
  rw [List.getElem?_map]
  by_cases h : i < n
  · rw [List.getElem?_range h]; simp [h, eq_comm]
  · rw [List.getElem?_eq_none (by simpa using h)]; simp [h]
structure Rows (S0 S : Store) (i l : Nat) (sw pl : Int) (cs : List Ct) : Prop where
  at' : lstAt S l = some (cs.map Ct.d)
  ok : ∀ c ∈ cs, c.ok sw pl
  st : StOk S i
  kp : Kp (· = i) S0 S
  ge : S0.length ≤ l
  ne : l ≠ i
end My
namespace L2
open PySem
structure ShOk (B : Nat) (p : PyData) (z : Nat) : Prop where
  can : p.canLay0 = true
  dep : p.depth ≤ B
  sh : p.showable = true
  ish : p.intsShort 13 = true
  w : p.weight ≤ 41 * z + 40
theorem repr_int {i : Int} (S : Store) (h : i.natAbs < 1000000000000000000) : fRepr [.int i] S = .ok (.str (toString i)) S := by
  unfold fRepr
  dsimp only
  rw [if_pos h]
end L2
namespace My
open PySem L2
variable {cl : Nat → CLL}
theorem same_int (h : Hs_law_same cl) (n : Nat) (i : Int) (S : Store) (hi : i.natAbs < 1000000000000000000) : cl (n + 1) "_law_same" [.int i, .int i] S = .ok (.bl true) S := by
  have e := repr_int S hi
  rw [h]
  refine run_rt rfl ?_
  generalize (toString i : Str) = w at e
  have q : oEq (.str w) (.str w) S = .ok (.bl true) S := by
    show R.ok (D.bl (decide (w = w))) S = _
    rw [decide_eq_true rfl]
  simp [b_law_same, startE, e, q]
end My
namespace My
open PySem L2
variable {cl : Nat → CLL}
inductive Tr where
  | lf (k o : Int)
  | nd (r : Bool) (ps : List Tr)
def kw (r : Bool) : Str := if r then Str.ofString "row" else Str.ofString "side"
mutual
def Tr.d : Tr → D
  | .lf k o => .tup [.str (Str.ofString "at"), .int k, .int o]
  | .nd r ps => .tup [.str (kw r), .tup (Tr.ds ps)]
def Tr.ds : List Tr → List D
  | [] => []
  | t :: r => t.d :: Tr.ds r
end
mutual
def Tr.ht : Tr → Nat
  | .lf _ _ => 0
  | .nd _ ps => Tr.hts ps + 1
def Tr.hts : List Tr → Nat
  | [] => 0
  | t :: r => max t.ht (Tr.hts r)
end
mutual
def Tr.sz : Tr → Nat
  | .lf _ _ => 1
  | .nd _ ps => Tr.szs ps + 1
def Tr.szs : List Tr → Nat
  | [] => 0
  | t :: r => t.sz + Tr.szs r
end
theorem ds_map : ∀ ps, Tr.ds ps = ps.map Tr.d
  | [] => rfl
  | t :: r => by show t.d :: Tr.ds r = _; rw [ds_map r]; rfl
theorem hts_mem : ∀ {ps : List Tr} {t : Tr}, t ∈ ps → t.ht ≤ Tr.hts ps
  | p :: r, t, h => by
    show t.ht ≤ max p.ht (Tr.hts r)
    rcases List.mem_cons.mp h with rfl | h
    · omega
    · have := hts_mem h; omega
theorem sz_pos : ∀ t : Tr, 1 ≤ t.sz
  | .lf _ _ => Nat.le_refl _
  | .nd _ ps => by show 1 ≤ Tr.szs ps + 1; omega
theorem szs_mem : ∀ {ps : List Tr} {t : Tr}, t ∈ ps → t.sz ≤ Tr.szs ps
  | p :: r, t, h => by
    show t.sz ≤ p.sz + Tr.szs r
    rcases List.mem_cons.mp h with rfl | h
    · omega
    · have := szs_mem h; omega
theorem szs_len : ∀ ps : List Tr, ps.length ≤ Tr.szs ps
  | [] => Nat.le_refl _
  | p :: r => by
    show r.length + 1 ≤ p.sz + Tr.szs r
    have := szs_len r
    have := sz_pos p
    omega
theorem kw_at (r : Bool) : (kw r = Str.ofString "at") = False := by cases r <;> simp only [eq_iff_iff, iff_false] <;> decide +kernel
@[simp] theorem oEq_str (a b : Str) (S : Store) : oEq (.str a) (.str b) S = .ok (.bl (decide (a = b))) S := rfl
end My
namespace My
open PySem L2
variable {cl : Nat → CLL}
def Tr.un (r : Bool) : Tr → List Tr
  | .nd r' qs => if r' = r then qs else [.nd r' qs]
  | .lf k o => [.lf k o]
def isNd (r : Bool) : Tr → Bool
  | .nd r' _ => r' == r
  | .lf _ _ => false
theorem szs_app : ∀ a b : List Tr, Tr.szs (a ++ b) = Tr.szs a + Tr.szs b
  | [], b => by show Tr.szs b = 0 + Tr.szs b; omega
  | t :: r, b => by show t.sz + Tr.szs (r ++ b) = t.sz + Tr.szs r + Tr.szs b; rw [szs_app r b]; omega
end My
namespace My
open PySem L2
variable {cl : Nat → CLL}
end My
namespace My
open PySem L2
variable {cl : Nat → CLL}
theorem strOk_at : PyData.strOk (Str.ofString "at") = true := by decide +kernel
theorem strOk_kw (r : Bool) : PyData.strOk (kw r) = true := by cases r <;> decide +kernel
theorem plain_tr : ∀ (H : Nat) (t : Tr) (c : Nat), t.ht ≤ H → plain (2 * H + 2 + c) t.d = true := by
  intro H
  induction H with
  | zero =>
    intro t c ht
    cases t with
    | lf k o =>
      rw [show 2 * 0 + 2 + c = (c + 1) + 1 by omega]
      refine plain_tup fun x hx => ?_
      simp only [List.mem_cons, List.not_mem_nil, or_false] at hx
      rcases hx with rfl | rfl | rfl
      · exact strOk_at
      · exact plain_int (by omega) _
      · exact plain_int (by omega) _
    | nd r ps => simp [Tr.ht] at ht
  | succ H ih =>
    intro t c ht
    cases t with
    | lf k o =>
      rw [show 2 * (H + 1) + 2 + c = (2 * H + 2 + c + 1) + 1 by omega]
      refine plain_tup fun x hx => ?_
      simp only [List.mem_cons, List.not_mem_nil, or_false] at hx
      rcases hx with rfl | rfl | rfl
      · exact strOk_at
      · exact plain_int (by omega) _
      · exact plain_int (by omega) _
    | nd r ps =>
      have ht' : Tr.hts ps + 1 ≤ H + 1 := ht
      rw [show 2 * (H + 1) + 2 + c = ((2 * H + 2 + c) + 1) + 1 by omega]
      show plain _ (.tup [.str (kw r), .tup (Tr.ds ps)]) = true
      refine plain_tup fun x hx => ?_
      simp only [List.mem_cons, List.not_mem_nil, or_false] at hx
      rcases hx with rfl | rfl
      · exact strOk_kw r
      · refine plain_tup fun y hy => ?_
        rw [ds_map] at hy
        obtain ⟨t, hm, rfl⟩ := List.mem_map.mp hy
        exact ih t c (by have := hts_mem hm; omega)
theorem szs_split (L : List Tr) (a : Nat) : Tr.szs L = Tr.szs (L.take a) + Tr.szs (L.drop a) := by
  have := szs_app (L.take a) (L.drop a)
  rw [List.take_append_drop] at this
  exact this
structure FlOk (r : Bool) (T L : List Tr) : Prop where
  fm : L.flatMap (Tr.un r) = T
  no : ∀ qs, Tr.nd r qs ∈ L → ∀ q ∈ qs, isNd r q = false
  sz : Tr.szs L ≤ 1000
  ht : Tr.hts L ≤ 17
end My
namespace My
open PySem L2
variable {cl : Nat → CLL}
mutual
def Tr.lv : Tr → Nat
  | .lf _ _ => 1
  | .nd _ ps => Tr.lvs ps
def Tr.lvs : List Tr → Nat
  | [] => 0
  | t :: r => t.lv + Tr.lvs r
end
mutual
def Tr.wf (sw : Int) : Tr → Prop
  | .lf k o => 0 ≤ k ∧ k < sw ∧ 0 ≤ o ∧ o < 2
  | .nd _ ps => 2 ≤ ps.length ∧ Tr.wfs sw ps
def Tr.wfs (sw : Int) : List Tr → Prop
  | [] => True
  | t :: r => t.wf sw ∧ Tr.wfs sw r
end
theorem wfs_mem {sw : Int} : ∀ {ps : List Tr}, Tr.wfs sw ps → ∀ t ∈ ps, t.wf sw
  | p :: r, h, t, ht => by
    rcases List.mem_cons.mp ht with rfl | ht
    · exact h.1
    · exact wfs_mem h.2 t ht
mutual
theorem sz_lv {sw : Int} : ∀ t : Tr, t.wf sw → t.sz + 1 ≤ 2 * t.lv
  | .lf _ _, _ => Nat.le_refl _
  | .nd r ps, h => by
    have := szs_lv ps h.2
    have := h.1
    show Tr.szs ps + 1 + 1 ≤ 2 * Tr.lvs ps
    omega
theorem szs_lv {sw : Int} : ∀ ps : List Tr, Tr.wfs sw ps → Tr.szs ps + ps.length ≤ 2 * Tr.lvs ps
  | [], _ => Nat.le_refl _
  | t :: r, h => by
    have := sz_lv t h.1
    have := szs_lv r h.2
    show t.sz + Tr.szs r + (r.length + 1) ≤ 2 * (t.lv + Tr.lvs r)
    omega
end
theorem row_side (T : Store) (r : Int) (h0 : 0 ≤ r) (h1 : r < 2) : ∃ b, oIx (.lst T.length) (.int r) (T ++ [.lst [.str (Str.ofString "row"), .str (Str.ofString "side")]]) = .ok (.str (kw b)) (T ++ [.lst [.str (Str.ofString "row"), .str (Str.ofString "side")]]) := by
  have e := oIx_lst (lstAt_new T [.str (Str.ofString "row"), .str (Str.ofString "side")]) r
  have : r = 0 ∨ r = 1 := by omega
  rcases this with rfl | rfl
  · exact ⟨true, by rw [e]; rfl⟩
  · exact ⟨false, by rw [e]; rfl⟩
noncomputable def ltTail (cl : CLL) : CS := (sSeq (sRet (cTup (cArgs [(cBin oIx (cLst (cArgs [(cCon (.str (Str.ofString "row"))), (cCon (.str (Str.ofString "side")))])) (cApp (cl "_law_take") (cArgs [(cVar 0), (cCon (.int 2))]))), (cApp fTuple (cArgs [(cVar 4)]))])))
    sPass)
theorem lt_eq (cl : CLL) : b_law_tree cl = (sSeq (sIf (cOrT (cBool (cBin oLt (cVar 2) (cCon (.int 2)))) (cBool (cBin oEq (cApp (cl "_law_take") (cArgs [(cVar 0), (cCon (.int 5))])) (cCon (.int 0))))) (sSeq (sRet (cTup (cArgs [(cCon (.str (Str.ofString "at"))), (cApp (cl "_law_take") (cArgs [(cVar 0), (cVar 1)])), (cApp (cl "_law_take") (cArgs [(cVar 0), (cCon (.int 2))]))])))
    sPass) sPass)
    (sSeq (sAsg (cBin oAdd (cCon (.int 1)) (cApp (cl "_law_take") (cArgs [(cVar 0), (cBin (oInt fun i j => i - j) (cVar 2) (cCon (.int 1)))]))) (gN 3))
    (sSeq (sAsg (cLst (cArgs [(cApp (cl "_law_tree") (cArgs [(cVar 0), (cVar 1), (cVar 3)])), (cApp (cl "_law_tree") (cArgs [(cVar 0), (cVar 1), (cBin (oInt fun i j => i - j) (cVar 2) (cVar 3))]))])) (gN 4))
    (sSeq (sIf (cAndT (cBool (cBin (oCmp fun i j => decide (j < i)) (cVar 3) (cCon (.int 1)))) (cBool (cBin oEq (cApp (cl "_law_take") (cArgs [(cVar 0), (cCon (.int 3))])) (cCon (.int 0))))) (sSeq (sAsg (cBin oAdd (cCon (.int 1)) (cApp (cl "_law_take") (cArgs [(cVar 0), (cBin (oInt fun i j => i - j) (cVar 3) (cCon (.int 1)))]))) (gN 5))
    (sSeq (sAsg (cApp (cl "_law_tree") (cArgs [(cVar 0), (cVar 1), (cVar 5)])) (gS (cVar 4) (cCon (.int 0))))
    (sSeq (sExpr (cMeth "list" (mList gInsert) (cVar 4) (cArgs [(cCon (.int 1)), (cApp (cl "_law_tree") (cArgs [(cVar 0), (cVar 1), (cBin (oInt fun i j => i - j) (cVar 3) (cVar 5))]))])))
    sPass))) sPass)
    (ltTail cl))))) := rfl
theorem law_tree_spec (h : Hs_law_tree cl) (ht : Hs_law_take cl) {sw : Int} (s1 : 1 ≤ sw) (s4 : sw ≤ 4) : ∀ (H : Nat) (m : Int), 1 ≤ m → m ≤ H + 1 → H ≤ 100 → ∀ (n : Nat) (S : Store) (i : Nat), StOk S i → ∃ (t : Tr) (S1 : Store), cl (n + H + 2) "_law_tree" [.lst i, .int sw, .int m] S = .ok t.d S1 ∧ t.wf sw ∧ (t.lv : Int) ≤ m ∧ t.ht ≤ H ∧ Kp (· = i) S S1 ∧ StOk S1 i := by
  have leaf : ∀ (H : Nat) (n : Nat) (S : Store) (i : Nat), StOk S i → ∃ (k o : Int) (S1 S2 : Store), cl (n + H + 1) "_law_take" [.lst i, .int sw] S = .ok (.int k) S1 ∧ cl (n + H + 1) "_law_take" [.lst i, .int 2] S1 = .ok (.int o) S2 ∧ (Tr.lf k o).wf sw ∧ Kp (· = i) S S2 ∧ StOk S2 i := fun H n S i st => by
    obtain ⟨k, S1, e1, a1, a2, k1, _, st1⟩ := take_spec ht (n + H) st (m := sw) (by omega) (by omega)
    obtain ⟨o, S2, e2, b1, b2, k2, _, st2⟩ := take_spec ht (n + H) st1 (m := 2) (by decide) (by decide)
    exact ⟨k, o, S1, S2, e1, e2, ⟨a1, a2, b1, b2⟩, k1.trans k2, st2⟩
  intro H
  induction H with
  | zero =>
    intro m m1 m2 hH n S i st
    have : m = 1 := by omega
    subst this
    obtain ⟨k, o, S1, S2, e1, e2, wf, k2, st2⟩ := leaf 0 n S i st
    refine ⟨.lf k o, S2, ?_, wf, Int.le_refl _, Nat.le_refl _, k2, st2⟩
    rw [show n + 0 + 2 = (n + 0 + 1) + 1 from rfl, h]
    refine run_rt rfl ?_
    simp only [Nat.add_zero] at e1 e2
    simp [b_law_tree, startE, e1, e2, Tr.d]
  | succ H ih =>
    intro m m1 m2 hH n S i st
    rw [show n + (H + 1) + 2 = (n + (H + 1) + 1) + 1 from rfl, h]
    by_cases hm : m < 2
    · obtain ⟨k, o, S1, S2, e1, e2, wf, k2, st2⟩ := leaf (H + 1) n S i st
      refine ⟨.lf k o, S2, run_rt rfl ?_, wf, by show ((1 : Nat) : Int) ≤ m; omega, Nat.zero_le _, k2, st2⟩
      simp [b_law_tree, startE, hm, e1, e2, Tr.d]
    obtain ⟨r5, S1, e1, _, _, k1, _, st1⟩ := take_spec ht (n + (H + 1)) st (m := 5) (by decide) (by decide)
    by_cases h5 : r5 = 0
    · subst h5
      obtain ⟨k, o, S2, S3, e2, e3, wf, k2, st2⟩ := leaf (H + 1) n S1 i st1
      refine ⟨.lf k o, S3, run_rt rfl ?_, wf, by show ((1 : Nat) : Int) ≤ m; omega, Nat.zero_le _, k1.trans k2, st2⟩
      simp [b_law_tree, startE, hm, e1, e2, e3, Tr.d]
    obtain ⟨f, S2, e2, f0, f1, k2, _, st2⟩ := take_spec ht (n + (H + 1)) st1 (m := m - 1) (by omega) (by omega)
    generalize hfew : 1 + f = few at *
    obtain ⟨t1, S3, e3, wf1, lv1, ht1, k3, st3⟩ := ih few (by omega) (by omega) (by omega) n S2 i st2
    obtain ⟨t2, S4, e4, wf2, lv2, ht2, k4, st4⟩ := ih (m - few) (by omega) (by omega) (by omega) n S3 i st3
    rw [show n + H + 2 = n + (H + 1) + 1 from rfl] at e3 e4
    have k14 := ((k1.trans k2).trans k3).trans k4
    have hi4 := st4.lt
    obtain ⟨p, hp⟩ : ∃ p, S4.length = p := ⟨_, rfl⟩
    have x5 := ex_app S4 [.lst [t1.d, t2.d]]
    have l5 : lstAt (S4 ++ [.lst [t1.d, t2.d]]) p = some [t1.d, t2.d] := by rw [← hp]; exact lstAt_new _ _
    have st5 := st4.ex x5
    have pi : p ≠ i := by omega
    generalize hS5 : S4 ++ [O.lst [t1.d, t2.d]] = S5 at x5 l5 st5
    have fin : ∀ (ts : List Tr) (S6 : Store) (v5 : Option D), 2 ≤ ts.length → ts.length ≤ 3 → Tr.wfs sw ts → (Tr.lvs ts : Int) ≤ m → Tr.hts ts ≤ H → lstAt S6 p = some (ts.map Tr.d) → Kp (· = i) S S6 → StOk S6 i →
        ∃ (t : Tr) (S7 : Store), ltTail (cl (n + (H + 1) + 1)) [some (.lst i), some (.int sw), some (.int m), some (.int few), some (.lst p), v5] S6 = .rt t.d S7 ∧ t.wf sw ∧ (t.lv : Int) ≤ m ∧ t.ht ≤ H + 1 ∧ Kp (· = i) S S7 ∧ StOk S7 i := by
      intro ts S6 v5 l2 l3 wf lv hts lp kk st6
      have x7 := ex_app S6 [.lst [.str (Str.ofString "row"), .str (Str.ofString "side")]]
      obtain ⟨r, S8, e8, r0, r1, k8, n8, st8⟩ := take_spec ht (n + (H + 1)) (st6.ex x7) (m := 2) (by decide) (by decide)
      obtain ⟨b, hb⟩ := row_side S6 r r0 r1
      have lq : lstAt S8 S6.length = some [.str (Str.ofString "row"), .str (Str.ofString "side")] := k8.lst (lstAt_new _ _) (by have := st6.lt; omega)
      have hb8 : oIx (.lst S6.length) (.int r) S8 = .ok (.str (kw b)) S8 := by
        have e := oIx_lst lq r
        rw [oIx_lst (lstAt_new _ _)] at hb
        rw [e]
        revert hb
        cases atI [D.str (Str.ofString "row"), .str (Str.ofString "side")] r with
        | none => intro hb; cases hb
        | some d => intro hb; cases hb; rfl
      have lp8 : lstAt S8 p = some (ts.map Tr.d) := k8.lst (x7.lst lp fun z => z) pi
      have t1 := fTuple_lst lp8
      refine ⟨.nd b ts, S8, ?_, ⟨l2, wf⟩, lv, by show Tr.hts ts + 1 ≤ H + 1; omega, (kk.trans x7.kp).trans k8, st8⟩
      show _ = RS.rt (.tup [.str (kw b), .tup (Tr.ds ts)]) S8
      rw [ds_map]
      generalize ts.map Tr.d = R at *
      simp [ltTail, e8, hb8, t1]
    by_cases hf : few > 1
    · obtain ⟨r3, S6, e6, _, _, k6, _, st6⟩ := take_spec ht (n + (H + 1)) st5 (m := 3) (by decide) (by decide)
      by_cases h3 : r3 = 0
      · subst h3
        obtain ⟨g, S7, e7, g0, g1, k7, _, st7⟩ := take_spec ht (n + (H + 1)) st6 (m := few - 1) (by omega) (by omega)
        generalize hless : 1 + g = less at *
        obtain ⟨t3, S8, e8, wf3, lv3, ht3, k8, st8⟩ := ih less (by omega) (by omega) (by omega) n S7 i st7
        rw [show n + H + 2 = n + (H + 1) + 1 from rfl] at e8
        have l8 : lstAt S8 p = some [t1.d, t2.d] := k8.lst (k7.lst (k6.lst l5 pi) pi) pi
        have s8 := oSet_lst l8 0 t3.d
        have l9 := lstAt_set (ys := [t3.d, t2.d]) l8
        have k9 := kp_set (i := p) S8 (.lst [t3.d, t2.d])
        have st9 : StOk (S8.set p (.lst [t3.d, t2.d])) i := st8.kp k9 (fun z => pi z.symm)
        obtain ⟨t4, S10, e10, wf4, lv4, ht4, k10, st10⟩ := ih (few - less) (by omega) (by omega) (by omega) n _ i st9
        rw [show n + H + 2 = n + (H + 1) + 1 from rfl] at e10
        have l10 : lstAt S10 p = some [t3.d, t2.d] := k10.lst l9 pi
        have q9 := tyOk_lst l9
        have a10 := mList_ev l10 gInsert [.int 1, t4.d]
        have l11 := lstAt_set (ys := [t3.d, t4.d, t2.d]) l10
        have k11 := kp_set (i := p) S10 (.lst [t3.d, t4.d, t2.d])
        have st11 : StOk (S10.set p (.lst [t3.d, t4.d, t2.d])) i := st10.kp k11 (fun z => pi z.symm)
        have kAll : Kp (· = i) S (S10.set p (.lst [t3.d, t4.d, t2.d])) := by
          have pS : S.length ≤ p := by have := k14.le; omega
          have kk : Kp (fun j => j = i ∨ j = p) S (S10.set p (.lst [t3.d, t4.d, t2.d])) :=
            ((((((k14.trans x5.kp).trans k6).trans k7).trans k8).mono fun j _ z => .inl z).trans ((k9.mono fun j _ z => .inr z).trans ((k10.mono fun j _ z => .inl z).trans (k11.mono fun j _ z => .inr z))))
          exact ⟨kk.le, fun j hj nj => kk.eq j hj fun z => z.elim nj fun z => by omega⟩
        obtain ⟨t, S12, e12, wf, lv, hh, kk, stt⟩ := fin [t3, t4, t2] (S10.set p (.lst [t3.d, t4.d, t2.d])) (some (.int less)) (by show 2 ≤ 3; decide) (by show 3 ≤ 3; decide) ⟨wf3, wf4, wf2, trivial⟩ (by show ((t3.lv + (t4.lv + (t2.lv + 0)) : Nat) : Int) ≤ m; omega) (by show max t3.ht (max t4.ht (max t2.ht 0)) ≤ H; omega) l11 kAll st11
        refine ⟨t, S12, run_rt rfl ?_, wf, lv, hh, kk, stt⟩
        have s8' : oSet (.lst p) (.int 0) t3.d S8 = some (S8.set p (.lst [t3.d, t2.d])) := s8
        have a10' : mList gInsert (.lst p) [.int 1, t4.d] S10 = .ok .non (S10.set p (.lst [t3.d, t4.d, t2.d])) := by rw [a10]; rfl
        generalize t1.d = d1 at *
        generalize t2.d = d2 at *
        generalize t3.d = d3 at *
        generalize t4.d = d4 at *
        generalize hSa : S8.set p (.lst [d3, d2]) = Sa at *
        generalize hSb : S10.set p (.lst [d3, d4, d2]) = Sb at *
        have hf' : (1 : Int) < few := hf
        simp only [lt_eq, startE]
        simp [hm, e1, h5, e2, hfew, e3, e4, hp, hS5, hf', e6, e7, hless, e8, s8', q9, e10, a10', e12]
      · obtain ⟨t, S12, e12, wf, lv, hh, kk, stt⟩ := fin [t1, t2] S6 none (by show 2 ≤ 2; decide) (by show 2 ≤ 3; decide) ⟨wf1, wf2, trivial⟩ (by show ((t1.lv + (t2.lv + 0) : Nat) : Int) ≤ m; omega) (by show max t1.ht (max t2.ht 0) ≤ H; omega) (k6.lst l5 pi) ((k14.trans x5.kp).trans k6) st6
        refine ⟨t, S12, run_rt rfl ?_, wf, lv, hh, kk, stt⟩
        generalize t1.d = d1 at *
        generalize t2.d = d2 at *
        have hf' : (1 : Int) < few := hf
        simp only [lt_eq, startE]
        simp [hm, e1, h5, e2, hfew, e3, e4, hp, hS5, hf', e6, h3, e12]
    · obtain ⟨t, S12, e12, wf, lv, hh, kk, stt⟩ := fin [t1, t2] S5 none (by show 2 ≤ 2; decide) (by show 2 ≤ 3; decide) ⟨wf1, wf2, trivial⟩ (by show ((t1.lv + (t2.lv + 0) : Nat) : Int) ≤ m; omega) (by show max t1.ht (max t2.ht 0) ≤ H; omega) l5 (k14.trans x5.kp) st5
      refine ⟨t, S12, run_rt rfl ?_, wf, lv, hh, kk, stt⟩
      generalize t1.d = d1 at *
      generalize t2.d = d2 at *
      have hf' : ¬ (1 : Int) < few := hf
      simp only [lt_eq, startE]
      simp [hm, e1, h5, e2, hfew, e3, e4, hp, hS5, hf', e12]
end My
namespace My
open PySem L2
variable {cl : Nat → CLL}
theorem while_rt {t : CT} {b : CS} (P : Nat → Env1 → Store → Prop) (Q : Env1 → Store → Prop) (R : D → Store → Prop) (hs : ∀ m ρ S, P m ρ S → (∃ S1, t ρ S = .ok false S1 ∧ Q ρ S1) ∨ ∃ S1, t ρ S = .ok true S1 ∧ ((∃ d S2, b ρ S1 = .rt d S2 ∧ R d S2) ∨ ∃ ρ2 S2, (b ρ S1 = .nx ρ2 S2 ∨ b ρ S1 = .ct ρ2 S2) ∧ ∃ m', m' < m ∧ P m' ρ2 S2)) :
    ∀ (k m : Nat) (ρ : Env1) (S : Store), m < k → P m ρ S → (∃ ρ' S', whileS k t b ρ S = .nx ρ' S' ∧ Q ρ' S') ∨ ∃ d S', whileS k t b ρ S = .rt d S' ∧ R d S'
  | 0, m, ρ, S, hk, h => absurd hk (Nat.not_lt_zero _)
  | k + 1, m, ρ, S, hk, h => by
    unfold whileS
    rcases hs m ρ S h with ⟨S1, e, q⟩ | ⟨S1, e, ⟨d, S2, e2, r⟩ | ⟨ρ2, S2, e2, m', hm, p2⟩⟩
    · rw [e]; exact .inl ⟨ρ, S1, rfl, q⟩
    · rw [e]; dsimp only; rw [e2]; exact .inr ⟨d, S2, rfl, r⟩
    · rw [e]
      dsimp only
      rcases while_rt P Q R hs k m' ρ2 S2 (by omega) p2 with ⟨ρ', S', e3, q⟩ | ⟨d, S', e3, q⟩
      · rcases e2 with e2 | e2
        · rw [e2]; exact .inl ⟨ρ', S', e3, q⟩
        · rw [e2]; exact .inl ⟨ρ', S', e3, q⟩
      · rcases e2 with e2 | e2
        · rw [e2]; exact .inr ⟨d, S', e3, q⟩
        · rw [e2]; exact .inr ⟨d, S', e3, q⟩
def kd (S : Store) (d : D) : Prop := ∃ t, kindD S d = some t
def isT : D → Bool | .tup _ => true | _ => false
def isI : D → Bool | .int _ => true | .bl _ => true | _ => false
def isB : D → Bool | .bl _ => true | _ => false
def isS : D → Bool | .str _ => true | _ => false
theorem kd_int (S : Store) (i : Int) : kd S (.int i) := ⟨_, rfl⟩
theorem kd_tup (S : Store) (xs : List D) : kd S (.tup xs) := ⟨_, rfl⟩
theorem kd_lst {S : Store} {k : Nat} (h : (lstAt S k).isSome) : kd S (.lst k) := ⟨"list", by show (if (lstAt S k).isSome then some "list" else none) = _; rw [if_pos h]⟩
theorem lst_kd {S : Store} {k : Nat} (h : kd S (.lst k)) : kindD S (.lst k) = some "list" := by
  obtain ⟨t, h⟩ := h
  have h' : (if (lstAt S k).isSome then some "list" else none) = some t := h
  show (if (lstAt S k).isSome then some "list" else none) = _
  split at h'
  · rename_i hh; rw [if_pos hh]
  · cases h'
theorem dct_kd {S : Store} {k : Nat} (h : kd S (.dct k)) : kindD S (.dct k) = some "dict" := by
  obtain ⟨t, h⟩ := h
  have h' : dictK S k = some t := h
  show dictK S k = _
  unfold dictK at h'
  split at h'
  · rename_i kvs e
    unfold dictK
    rw [e]
  · cases h'
theorem inst_of {S : Store} {x : D} {t T : String} (h : kindD S x = some t) (hT : T ∈ ["bool", "int", "tuple", "list", "str", "dict"]) : fInst [x, .ty T] S = .ok (.bl (kOf t T)) S := by
  unfold fInst
  dsimp only
  rw [h]
  dsimp only
  rw [if_pos hT]
theorem inst_T {S : Store} {x : D} (h : kd S x) : fInst [x, .ty "tuple"] S = .ok (.bl (isT x)) S := by
  cases x with
  | lst k => rw [inst_of (lst_kd h) (by decide)]; rfl
  | dct k => rw [inst_of (dct_kd h) (by decide)]; rfl
  | ty k => obtain ⟨t, h⟩ := h; cases h
  | rol k => obtain ⟨t, h⟩ := h; cases h
  | _ => rw [inst_of rfl (by decide)]; rfl
theorem inst_S {S : Store} {x : D} (h : kd S x) : fInst [x, .ty "str"] S = .ok (.bl (isS x)) S := by
  cases x with
  | lst k => rw [inst_of (lst_kd h) (by decide)]; rfl
  | dct k => rw [inst_of (dct_kd h) (by decide)]; rfl
  | ty k => obtain ⟨t, h⟩ := h; cases h
  | rol k => obtain ⟨t, h⟩ := h; cases h
  | _ => rw [inst_of rfl (by decide)]; rfl
theorem inst_I {S : Store} {x : D} (h : kd S x) : fInst [x, .ty "int"] S = .ok (.bl (isI x)) S := by
  cases x with
  | lst k => rw [inst_of (lst_kd h) (by decide)]; rfl
  | dct k => rw [inst_of (dct_kd h) (by decide)]; rfl
  | ty k => obtain ⟨t, h⟩ := h; cases h
  | rol k => obtain ⟨t, h⟩ := h; cases h
  | _ => rw [inst_of rfl (by decide)]; rfl
theorem inst_B {S : Store} {x : D} (h : kd S x) : fInst [x, .ty "bool"] S = .ok (.bl (isB x)) S := by
  cases x with
  | lst k => rw [inst_of (lst_kd h) (by decide)]; rfl
  | dct k => rw [inst_of (dct_kd h) (by decide)]; rfl
  | ty k => obtain ⟨t, h⟩ := h; cases h
  | rol k => obtain ⟨t, h⟩ := h; cases h
  | _ => rw [inst_of rfl (by decide)]; rfl
def whD (lo hi : Int) : D → Bool
  | .int i => decide (lo ≤ i) && decide (i < hi)
  | _ => false
def isW : D → Bool
  | .int _ => true
  | _ => false
theorem is_whole_any (h : Hs_is_whole cl) (n : Nat) {S : Store} {x : D} (hk : kd S x) : cl (n + 1) "is_whole" [x] S = .ok (.bl (isW x)) S := by
  rw [h]
  refine run_rt rfl ?_
  have e1 := inst_I hk
  have e2 := inst_B hk
  have z : isW x = (if isI x = true then !isB x else false) := by cases x <;> rfl
  rw [z]
  cases hb : isI x <;> cases hc : isB x <;> rw [hb] at e1 <;> rw [hc] at e2 <;> simp [b_is_whole, startE, e1, e2]
theorem is_bit_any (h : Hs_is_bit cl) (hw : Hs_is_whole cl) (n : Nat) {S : Store} {x : D} (hk : kd S x) : cl (n + 2) "is_bit" [x] S = .ok (.bl (whD 0 2 x)) S := by
  rw [show n + 2 = (n + 1) + 1 from rfl, h]
  refine run_rt rfl ?_
  have e1 := is_whole_any hw n hk
  cases x with
  | int i =>
    have e1' : cl (n + 1) "is_whole" [.int i] S = .ok (.bl true) S := e1
    have : whD 0 2 (.int i) = (decide (0 ≤ i) && decide (i ≤ 1)) := by
      show (decide (0 ≤ i) && decide (i < 2)) = _
      congr 1
      exact decide_eq_decide.mpr (by omega)
    rw [this]
    by_cases h0 : 0 ≤ i <;> by_cases h1 : i ≤ 1 <;> simp [b_is_bit, startE, e1', h0, h1]
  | _ => simp [b_is_bit, startE, e1, isW, whD]
theorem law_whole_any (h : Hs_law_whole cl) (n : Nat) {S : Store} {x : D} (lo hi : Int) (hk : kd S x) : cl (n + 1) "_law_whole" [x, .int lo, .int hi] S = .ok (.bl (whD lo hi x)) S := by
  rw [h]
  refine run_rt rfl ?_
  have e1 := inst_I hk
  have e2 := inst_B hk
  cases x with
  | int i =>
    have : whD lo hi (.int i) = (decide (lo ≤ i) && decide (i < hi)) := rfl
    rw [this]
    by_cases h0 : lo ≤ i <;> by_cases h1 : i < hi <;> simp [b_law_whole, startE, e1, e2, isI, isB, h0, h1]
  | bl b => simp [b_law_whole, startE, e1, e2, isI, isB, whD]
  | _ => simp [b_law_whole, startE, e1, e2, isI, isB, whD]
def Kd (S S1 : Store) : Prop := ∀ d, kd S d → kd S1 d
theorem kd_kp {S S1 : Store} {i : Nat} (h : Kp (· = i) S S1) (st : (lstAt S1 i).isSome) (st0 : (lstAt S i).isSome) : Kd S S1 := fun d hd => by
  cases d with
  | lst k =>
    refine kd_lst ?_
    have hk : (lstAt S k).isSome := by
      obtain ⟨t, e⟩ := hd
      have e' : (if (lstAt S k).isSome then some "list" else none) = some t := e
      split at e'
      · assumption
      · cases e'
    by_cases hi : k = i
    · rw [hi]; exact st
    · obtain ⟨xs, hx⟩ := Option.isSome_iff_exists.mp hk
      rw [h.lst hx hi]; rfl
  | dct k =>
    obtain ⟨t, e⟩ := hd
    have e : dictK S k = some t := e
    unfold dictK at e
    split at e
    · rename_i kvs ho
      have hi : k ≠ i := fun z => by
        subst z
        obtain ⟨xs, hx⟩ := Option.isSome_iff_exists.mp st0
        rw [lstAt_some hx] at ho; cases ho
      exact ⟨"dict", by show dictK S1 k = _; unfold dictK; rw [h.at ho hi]⟩
    · cases e
  | ty k => obtain ⟨t, e⟩ := hd; cases e
  | rol k => obtain ⟨t, e⟩ := hd; cases e
  | _ => exact ⟨_, rfl⟩
theorem kd_ex {S S1 : Store} (h : Ex S S1) : Kd S S1 := fun d hd => by
  cases d with
  | lst k =>
    refine kd_lst ?_
    have hk : (lstAt S k).isSome := by
      obtain ⟨t, e⟩ := hd
      have e' : (if (lstAt S k).isSome then some "list" else none) = some t := e
      split at e'
      · assumption
      · cases e'
    obtain ⟨xs, hx⟩ := Option.isSome_iff_exists.mp hk
    rw [h.lst hx fun z => z]; rfl
  | dct k =>
    obtain ⟨t, e⟩ := hd
    have e : dictK S k = some t := e
    unfold dictK at e
    split at e
    · rename_i kvs ho
      exact ⟨"dict", by show dictK S1 k = _; unfold dictK; rw [h.at ho fun z => z]⟩
    · cases e
  | ty k => obtain ⟨t, e⟩ := hd; cases e
  | rol k => obtain ⟨t, e⟩ := hd; cases e
  | _ => exact ⟨_, rfl⟩
theorem dTru_lst {S : Store} {k : Nat} {xs : List D} (h : lstAt S k = some xs) : dTru (.lst k) S = .ok (!xs.isEmpty) S := by
  unfold dTru; dsimp only
  rw [lstAt_some h]
end My
namespace My
open PySem L2
variable {cl : Nat → CLL}
def sE (x : Str) : D → Bool
  | .str y => decide (y = x)
  | _ => false
def Sn (d : D) : Prop := ∃ p, (∀ S, snap 40 S d = some p) ∧ (∀ x, p = .str x → d = .str x) ∧ (isS d = false → flat d = none → ∃ xs, d = .tup xs)
theorem eqv_str_no {p : PyData} {x : Str} (h : ∀ y, p ≠ .str y) : PyData.eqv p (.str x) = false ∧ PyData.eqv (.str x) p = false := by
  cases p with
  | str y => exact absurd rfl (h y)
  | _ => exact ⟨rfl, rfl⟩
theorem ne_str {d : D} {x : Str} (h : Sn d) (hx : PyData.strOk x = true) (S : Store) : oEq d (.str x) S = .ok (.bl (sE x d)) S ∧ oNe d (.str x) S = .ok (.bl (!sE x d)) S := by
  obtain ⟨p, h1, h2, _⟩ := h
  cases d with
  | str y => exact ⟨rfl, rfl⟩
  | _ =>
    have hp : ∀ y, p ≠ .str y := fun y e => by have := h2 y e; cases this
    have hs : snap 40 S (.str x) = some (.str x) := by unfold snap; dsimp only; rw [if_pos hx]
    have := (eqv_str_no (x := x) hp).1
    unfold oEq oNe
    dsimp only
    rw [h1 S, hs]
    dsimp only
    rw [this]
    exact ⟨rfl, rfl⟩
theorem in_strs {d : D} {x y : Str} (h : Sn d) (hx : PyData.strOk x = true) (hy : PyData.strOk y = true) (S : Store) : oIn true d (.tup [.str x, .str y]) S = .ok (.bl (!(sE x d || sE y d))) S := by
  obtain ⟨p, h1, h2, h3⟩ := h
  have hs : ∀ z, PyData.strOk z = true → snap 40 S (.str z) = some (.str z) := fun z hz => by unfold snap; dsimp only; rw [if_pos hz]
  have hm : [D.str x, D.str y].mapM flat = some [V.str x, V.str y] := rfl
  have hm2 : [D.str x, D.str y].mapM (snap 40 S) = some [.str x, .str y] := by rw [List.mapM_cons, hs x hx, List.mapM_cons, hs y hy]; rfl
  have sq : seqAt S (.tup [.str x, .str y]) = some [.str x, .str y] := rfl
  cases d with
  | str z =>
    have e1 : ∀ a b : Str, (a == b) = decide (b = a) := fun a b => by
      rw [Bool.eq_iff_iff, beq_iff_eq, decide_eq_true_eq]
      exact eq_comm
    show R.ok (D.bl (!((x == z) || ((y == z) || false)))) S = _
    rw [e1, e1, Bool.or_false]; rfl
  | non => rfl
  | bl b => rfl
  | int i => rfl
  | tup xs =>
    have hp : ∀ y, p ≠ .str y := fun y e => by have := h2 y e; cases this
    have e1 := (eqv_str_no (x := x) hp).2
    have e2 := (eqv_str_no (x := y) hp).2
    unfold oIn
    dsimp only
    rw [sq]
    show (match snap 40 S (.tup xs), [D.str x, D.str y].mapM (snap 40 S) with | some p, some ps => R.ok (D.bl (if true then !(ps.any fun d => PyData.eqv d p) else ps.any fun d => PyData.eqv d p)) S | _, _ => .bad) = _
    rw [h1 S, hm2]
    show R.ok (D.bl (!(PyData.eqv (.str x) p || (PyData.eqv (.str y) p || false)))) S = _
    rw [e1, e2]; rfl
  | lst k => obtain ⟨xs, e⟩ := h3 rfl rfl; cases e
  | dct k => obtain ⟨xs, e⟩ := h3 rfl rfl; cases e
  | ty k => obtain ⟨xs, e⟩ := h3 rfl rfl; cases e
  | rol k => obtain ⟨xs, e⟩ := h3 rfl rfl; cases e
theorem sn_str {x : Str} (h : PyData.strOk x = true) : Sn (.str x) := ⟨.str x, fun S => by unfold snap; dsimp only; rw [if_pos h], fun y e => (by cases e; rfl), fun a b => (by cases b)⟩
theorem sn_int (i : Int) : Sn (.int i) := ⟨.int i, fun S => rfl, fun y e => (by cases e), fun a b => (by cases b)⟩
theorem sn_non : Sn .non := ⟨.none, fun S => rfl, fun y e => (by cases e), fun a b => (by cases b)⟩
theorem sn_bl (b : Bool) : Sn (.bl b) := ⟨.bool b, fun S => rfl, fun y e => (by cases e), fun a b => (by cases b)⟩
theorem sn_tup {xs : List D} (h : (D.tup xs |> plain 40) = true) : Sn (.tup xs) := ⟨pdat 40 (.tup xs), fun S => snap_plain S h, fun y e => (by cases e), fun _ _ => ⟨xs, rfl⟩⟩
def Gd (S : Store) : Nat → D → Prop
  | 0, d => kd S d ∧ isT d = false
  | n + 1, d => kd S d ∧ ∀ h r, d = .tup (h :: r) → Sn h ∧ (∀ x ∈ r, kd S x) ∧ ∀ ps, r = [.tup ps] → ps.length ≤ 1000 ∧ ∀ x ∈ ps, Gd S n x
theorem Gd.k {S : Store} {n : Nat} {d : D} (h : Gd S n d) : kd S d := by cases n <;> exact h.1
theorem Gd.up {S : Store} : ∀ {n : Nat} {d : D}, Gd S n d → Gd S (n + 1) d
  | 0, d, h => ⟨h.1, fun a r e => by subst e; cases h.2⟩
  | n + 1, d, h => ⟨h.1, fun a r e => ⟨(h.2 a r e).1, (h.2 a r e).2.1, fun ps hp => ⟨((h.2 a r e).2.2 ps hp).1, fun x hx => (((h.2 a r e).2.2 ps hp).2 x hx).up⟩⟩⟩
theorem Gd.le {S : Store} {n m : Nat} {d : D} (h : Gd S n d) (hm : n ≤ m) : Gd S m d := by
  induction hm with
  | refl => exact h
  | step _ ih => exact ih.up
theorem Gd.kd {S S1 : Store} (h : Kd S S1) : ∀ {n : Nat} {d : D}, Gd S n d → Gd S1 n d
  | 0, d, g => ⟨h d g.1, g.2⟩
  | n + 1, d, g => ⟨h d g.1, fun a r e => ⟨(g.2 a r e).1, fun x hx => h x ((g.2 a r e).2.1 x hx), fun ps hp => ⟨((g.2 a r e).2.2 ps hp).1, fun x hx => Gd.kd h (((g.2 a r e).2.2 ps hp).2 x hx)⟩⟩⟩
abbrev sAt : Str := Str.ofString "at"
abbrev sRow : Str := Str.ofString "row"
abbrev sSide : Str := Str.ofString "side"
theorem ok_at : PyData.strOk sAt = true := by decide +kernel
theorem ok_row : PyData.strOk sRow = true := by decide +kernel
theorem ok_side : PyData.strOk sSide = true := by decide +kernel
def loneD (sw : Int) : D → Bool
  | .tup [h, a, b] => sE sAt h && (whD 0 sw a && whD 0 2 b)
  | _ => false
def partD : D → Option (List D)
  | .tup [h, .tup ps] => if (sE sRow h || sE sSide h) = true ∧ 2 ≤ ps.length then some ps else none
  | _ => none
def tot (l : List Nat) : Nat := if 0 ∈ l then 0 else l.sum
def cnt (sw : Int) : Nat → D → Nat
  | 0, _ => 0
  | n + 1, d => if loneD sw d then 1 else match partD d with
    | some ps => tot (ps.map (cnt sw n))
    | none => 0
theorem len3 {α : Type} (xs : List α) : (∃ a b c, xs = [a, b, c]) ∨ xs.length ≠ 3 := by
  match xs with
  | [] => exact .inr (by simp)
  | [_] => exact .inr (by simp)
  | [_, _] => exact .inr (by simp)
  | [a, b, c] => exact .inl ⟨a, b, c, rfl⟩
  | _ :: _ :: _ :: _ :: _ => exact .inr (by simp)
theorem len2 {α : Type} (xs : List α) : (∃ a b, xs = [a, b]) ∨ xs.length ≠ 2 := by
  match xs with
  | [] => exact .inr (by simp)
  | [_] => exact .inr (by simp)
  | [a, b] => exact .inl ⟨a, b, rfl⟩
  | _ :: _ :: _ :: _ => exact .inr (by simp)
theorem loneD_no {sw : Int} {xs : List D} (h : xs.length ≠ 3) : loneD sw (.tup xs) = false := by
  match xs, h with
  | [], _ => rfl
  | [_], _ => rfl
  | [_, _], _ => rfl
  | _ :: _ :: _ :: _ :: _, _ => rfl
theorem partD_no {xs : List D} (h : xs.length ≠ 2) : partD (.tup xs) = none := by
  unfold partD
  split
  · rename_i e
    cases e
    simp at h
  · rfl
theorem partD_eq (h : D) (ps : List D) : partD (.tup [h, .tup ps]) = if (sE sRow h || sE sSide h) = true ∧ 2 ≤ ps.length then some ps else none := rfl
theorem is_lone_spec (h : Hs_is_lone cl) (hw : Hs_is_whole cl) (hb : Hs_is_bit cl) (n : Nat) (sw : Int) {S : Store} {m : Nat} {d : D} (g : Gd S (m + 1) d) : cl (n + 3) "is_lone" [.int sw, d] S = .ok (.bl (loneD sw d)) S := by
  rw [show n + 3 = (n + 2) + 1 from rfl, h]
  refine run_rt rfl ?_
  have e1 := inst_T g.k
  cases d with
  | tup xs =>
    rcases len3 xs with ⟨a, b, c, rfl⟩ | hl
    · obtain ⟨sn, kds, _⟩ := g.2 a [b, c] rfl
      have ne := (ne_str sn ok_at S).2
      have kb : kd S b := kds b (by simp)
      have kc : kd S c := kds c (by simp)
      have w1 := is_whole_any hw (n + 1) kb
      have w2 := is_bit_any hb hw n kc
      show _ = RS.rt (.bl (sE sAt a && (whD 0 sw b && whD 0 2 c))) S
      cases q : sE sAt a with
      | false => rw [q] at ne; simp [b_is_lone, startE, e1, isT, ne]
      | true =>
        rw [q] at ne
        cases b with
        | int i =>
          have w1' : cl (n + 2) "is_whole" [.int i] S = .ok (.bl true) S := w1
          have z : whD 0 sw (.int i) = (decide (0 ≤ i) && decide (i < sw)) := rfl
          rw [z]
          by_cases h0 : 0 ≤ i <;> by_cases h1 : i < sw <;> simp [b_is_lone, startE, e1, isT, ne, w1', h0, h1, w2]
        | _ => simp [b_is_lone, startE, e1, isT, ne, w1, isW, whD]
    · rw [loneD_no hl]
      have : ¬ ((xs.length : Int) = 3) := by omega
      simp [b_is_lone, startE, e1, isT, this]
  | _ => simp [b_is_lone, startE, e1, isT, loneD]
theorem has_parts_spec (h : Hs_has_parts cl) (n : Nat) {S : Store} {m : Nat} {d : D} (g : Gd S (m + 1) d) : cl (n + 1) "has_parts" [d] S = .ok (.bl (partD d).isSome) S := by
  rw [h]
  refine run_rt rfl ?_
  have e1 := inst_T g.k
  cases d with
  | tup xs =>
    rcases len2 xs with ⟨a, b, rfl⟩ | hl
    · obtain ⟨sn, kds, _⟩ := g.2 a [b] rfl
      have ne := in_strs sn ok_row ok_side S
      have kb : kd S b := kds b (by simp)
      have w1 := inst_T kb
      cases q : (sE sRow a || sE sSide a) with
      | false =>
        rw [q] at ne
        have : partD (.tup [a, b]) = none := by cases b <;> first | rfl | (rw [partD_eq, if_neg (by rw [q]; simp)])
        rw [this]
        simp [b_has_parts, startE, e1, isT, ne]
      | true =>
        rw [q] at ne
        cases b with
        | tup ps =>
          have z : (partD (.tup [a, .tup ps])).isSome = decide (2 ≤ ps.length) := by
            rw [partD_eq, q]
            by_cases h2 : 2 ≤ ps.length <;> simp [h2]
          rw [z]
          generalize hq : (ps.length : Int) = q at *
          have z2 : decide (2 ≤ ps.length) = decide (2 ≤ q) := decide_eq_decide.mpr (by omega)
          rw [z2]
          simp [b_has_parts, startE, e1, isT, ne, hq]
        | _ => simp [b_has_parts, startE, e1, isT, ne, w1, partD]
    · rw [partD_no hl]
      have : ¬ ((xs.length : Int) = 2) := by omega
      simp [b_has_parts, startE, e1, isT, this]
  | _ => simp [b_has_parts, startE, e1, isT, partD]
end My
namespace My
open PySem L2
variable {cl : Nat → CLL}
theorem cnt_mono {S : Store} (sw : Int) : ∀ {n : Nat} {d : D}, Gd S n d → ∀ m, n ≤ m → cnt sw (m + 1) d = cnt sw (n + 1) d
  | 0, d, g, m, hm => by
    have hp : partD d = none := by
      have := g.2
      cases d <;> first | rfl | cases this
    show (if loneD sw d then 1 else match partD d with | some ps => _ | none => 0) = (if loneD sw d then 1 else match partD d with | some ps => _ | none => 0)
    rw [hp]
  | n + 1, d, g, m, hm => by
    obtain ⟨k, rfl⟩ : ∃ k, m = k + 1 := ⟨m - 1, by omega⟩
    show (if loneD sw d then 1 else match partD d with | some ps => tot (ps.map (cnt sw (k + 1))) | none => 0) = (if loneD sw d then 1 else match partD d with | some ps => tot (ps.map (cnt sw (n + 1))) | none => 0)
    cases q : partD d with
    | none => rfl
    | some ps =>
      have : ∀ x ∈ ps, Gd S n x := fun x hx => by
        unfold partD at q
        split at q
        · rename_i h qs
          split at q
          · cases q; exact ((g.2 h [.tup ps] rfl).2.2 ps rfl).2 x hx
          · cases q
        · cases q
      dsimp only
      rw [List.map_congr_left fun x hx => cnt_mono sw (this x hx) k (by omega)]
theorem Gd.parts {S : Store} {n : Nat} {d : D} {ps : List D} (g : Gd S (n + 1) d) (q : partD d = some ps) : (∀ x ∈ ps, Gd S n x) ∧ ps.length ≤ 1000 ∧ 2 ≤ ps.length ∧ ∃ h, d = .tup [h, .tup ps] := by
  unfold partD at q
  split at q
  · rename_i h qs
    split at q
    · rename_i hc
      cases q; exact ⟨fun x hx => ((g.2 h [.tup ps] rfl).2.2 ps rfl).2 x hx, ((g.2 h [.tup ps] rfl).2.2 ps rfl).1, hc.2, h, rfl⟩
    · cases q
  · cases q
theorem partD_lone {sw : Int} {d : D} {ps : List D} (q : partD d = some ps) : loneD sw d = false := by
  unfold partD at q
  split at q
  · rfl
  · cases q
theorem cnt_parts {S : Store} {N : Nat} {sw : Int} {d : D} {ps : List D} (g : Gd S N d) (q : partD d = some ps) : cnt sw (N + 1) d = tot (ps.map (cnt sw (N + 1))) := by
  cases N with
  | zero =>
    obtain ⟨_, _, _, h, rfl⟩ := g.up.parts q
    cases g.2
  | succ N =>
    show (if loneD sw d then 1 else match partD d with | some ps => tot (ps.map (cnt sw (N + 1))) | none => 0) = _
    rw [partD_lone q, q]
    dsimp only
    rw [if_neg Bool.false_ne_true, List.map_congr_left fun x hx => (cnt_mono sw ((g.parts q).1 x hx) (N + 1) (by omega)).symm]
theorem cnt_lone {N : Nat} {sw : Int} {d : D} (q : loneD sw d = true) : cnt sw (N + 1) d = 1 := by
  show (if loneD sw d then 1 else _) = 1
  rw [if_pos q]
theorem cnt_none {N : Nat} {sw : Int} {d : D} (q : loneD sw d = false) (p : partD d = none) : cnt sw (N + 1) d = 0 := by
  show (if loneD sw d then 1 else match partD d with | some ps => _ | none => 0) = 0
  rw [q, p]; rfl
def fits (f : D → Nat) (c : Nat) (W : List D) : Prop := (∀ d ∈ W, f d ≠ 0) ∧ c + (W.map f).sum ≤ 16
theorem sum_ge {f : D → Nat} : ∀ {W : List D}, (∀ d ∈ W, f d ≠ 0) → W.length ≤ (W.map f).sum
  | [], _ => Nat.le_refl _
  | d :: W, h => by
    have := sum_ge (W := W) fun x hx => h x (by simp [hx])
    have := h d (by simp)
    rw [List.map_cons, List.sum_cons, List.length_cons]; omega
theorem fits_many {f : D → Nat} {c : Nat} {W : List D} (h : 16 < c + W.length) : ¬ fits f c W := fun z => by have := sum_ge z.1; have := z.2; omega
theorem fits_lone {f : D → Nat} {c : Nat} {W : List D} {d : D} (h : f d = 1) : fits f c (W ++ [d]) ↔ fits f (c + 1) W := by
  unfold fits
  rw [List.map_append, List.sum_append]
  constructor
  · rintro ⟨a, b⟩
    refine ⟨fun x hx => a x (by simp [hx]), ?_⟩
    simp [h] at b; omega
  · rintro ⟨a, b⟩
    refine ⟨fun x hx => ?_, by simp [h]; omega⟩
    rcases List.mem_append.mp hx with hx | hx
    · exact a x hx
    · rw [List.mem_singleton.mp hx, h]; decide
theorem fits_parts {f : D → Nat} {c : Nat} {W ps : List D} {d : D} (h : f d = tot (ps.map f)) (h2 : 2 ≤ ps.length) : fits f c (W ++ [d]) ↔ fits f c (W ++ ps) := by
  unfold fits
  rw [List.map_append, List.sum_append, List.map_append, List.sum_append]
  have hs : (List.map f [d]).sum = f d := by simp
  rw [hs, h]
  unfold tot
  constructor
  · rintro ⟨a, b⟩
    have hd := a d (by simp)
    rw [h] at hd
    unfold tot at hd
    split at hd
    · exact absurd rfl hd
    · rename_i h0
      rw [if_neg h0] at b
      refine ⟨fun x hx => ?_, b⟩
      rcases List.mem_append.mp hx with hx | hx
      · exact a x (by simp [hx])
      · exact fun z => h0 (z ▸ List.mem_map_of_mem hx)
  · rintro ⟨a, b⟩
    have h0 : 0 ∉ ps.map f := fun z => by
      obtain ⟨x, hx, e⟩ := List.mem_map.mp z
      exact a x (by simp [hx]) e
    rw [if_neg h0]
    refine ⟨fun x hx => ?_, b⟩
    rcases List.mem_append.mp hx with hx | hx
    · exact a x (by simp [hx])
    · rw [List.mem_singleton.mp hx, h]
      unfold tot
      rw [if_neg h0]
      have := sum_ge (f := f) (W := ps) fun y hy => a y (by simp [hy])
      omega
theorem fits_none {f : D → Nat} {c : Nat} {W : List D} {d : D} (h : f d = 0) : ¬ fits f c (W ++ [d]) := fun z => z.1 d (by simp) h
theorem fits_one {f : D → Nat} {d : D} : fits f 0 [d] ↔ f d ≠ 0 ∧ f d ≤ 16 := by
  unfold fits
  simp
def twM (c w : Nat) : Nat := if 16 < c + w then 0 else (17 - (c + w)) * 20 + w
theorem is_tree_spec (h : Hs_is_tree cl) (hl : Hs_is_lone cl) (hp : Hs_has_parts cl) (hw : Hs_is_whole cl) (hb : Hs_is_bit cl) (n : Nat) (sw : Int) {S : Store} {N : Nat} {d : D} (g : Gd S N d) :
    ∃ b S1, cl (n + 4) "is_tree" [.int sw, d] S = .ok (.bl b) S1 ∧ Ex S S1 ∧ (b = true ↔ cnt sw (N + 1) d ≠ 0 ∧ cnt sw (N + 1) d ≤ 16) := by
  rw [show n + 4 = (n + 3) + 1 from rfl, h]
  obtain ⟨k, hk⟩ : ∃ k, S.length = k := ⟨_, rfl⟩
  let f := cnt sw (N + 1)
  let P : Nat → Env1 → Store → Prop := fun m ρ S' => ∃ (W : List D) (c : Nat) (v4 : Option D), ρ = [some (.int sw), some d, some (.lst k), some (.int (c : Nat)), v4] ∧ Ex S S' ∧ lstAt S' k = some W ∧ (∀ x ∈ W, Gd S N x) ∧ (fits f 0 [d] ↔ fits f c W) ∧ (W = [] → c ≤ 16) ∧ W.length ≤ 2000 ∧ m = twM c W.length
  have step := while_rt (t := cTru (cVar 2)) (b := is_tree_l1 (cl (n + 3))) P (fun ρ S' => ∃ v1 v2 v3 v4 v0, ρ = [v0, v1, v2, v3, v4] ∧ Ex S S' ∧ fits f 0 [d]) (fun r S' => r = .bl false ∧ Ex S S' ∧ ¬ fits f 0 [d])
    (fun m ρ S' hP => by
      obtain ⟨W, c, v4, rfl, x1, lk, gw, ff, w0, wl, rfl⟩ := hP
      have klt := lstAt_lt lk
      have tr : dTru (.lst k) S' = .ok (!W.isEmpty) S' := dTru_lst lk
      rcases List.eq_nil_or_concat W with rfl | ⟨W', y, rfl⟩
      · refine .inl ⟨S', by simp [tr], _, _, _, _, _, rfl, x1, ff.mpr ⟨fun _ hd => (by cases hd), ?_⟩⟩
        have := w0 rfl
        simpa using this
      · refine .inr ⟨S', by simp [tr], ?_⟩
        rw [List.concat_eq_append] at *
        have e1 := fLen_lst lk
        generalize hq : ((W' ++ [y]).length : Int) = q at *
        have hq' : q = (W'.length : Int) + 1 := by rw [← hq]; simp
        by_cases h16 : 16 < (c : Int) + q
        · refine .inl ⟨_, S', by simp [is_tree_l1, e1, h16], rfl, x1, fun z => fits_many ?_ (ff.mp z)⟩
          simp; omega
        · have gy : Gd S N y := gw y (by simp)
          have tl := tyOk_lst lk
          have po : mList gPop (.lst k) [] S' = .ok y (S'.set k (.lst W')) := by
            rw [mList_ev lk]
            have : gPop (W' ++ [y]) [] = some (W', y) := by
              unfold gPop
              dsimp only
              have e : (W' ++ [y])[(W' ++ [y]).length - 1]? = some y := by simp
              rw [e]
              simp
            rw [this]
          have lk2 : lstAt (S'.set k (.lst W')) k = some W' := lstAt_set lk
          have x2 : Ex S (S'.set k (.lst W')) := x1.setNew (by omega)
          generalize hS2 : S'.set k (.lst W') = S2 at *
          have gy2 : Gd S2 (N + 1) y := Gd.kd (kd_ex x2) gy.up
          have l1 := is_lone_spec hl hw hb n sw gy2
          have l2 := has_parts_spec hp (n + 2) gy2
          cases q1 : loneD sw y with
          | true =>
            rw [q1] at l1
            refine .inr ⟨[some (.int sw), some d, some (.lst k), some (.int ((c + 1 : Nat) : Nat)), some y], S2, .inl ?_, twM (c + 1) W'.length, ?_, W', c + 1, _, rfl, x2, lk2, fun x hx => gw x (by simp [hx]), ff.trans (fits_lone (cnt_lone q1)), fun _ => ?_, ?_, rfl⟩
            · simp [is_tree_l1, e1, h16, tl, po, l1]
            · unfold twM
              simp only [List.length_append, List.length_cons, List.length_nil]
              rw [if_neg (by omega), if_neg (by omega)]
              omega
            · omega
            · simp at wl; omega
          | false =>
            rw [q1] at l1
            cases q2 : partD y with
            | none =>
              rw [q2] at l2
              refine .inl ⟨_, S2, ?_, rfl, x2, fun z => fits_none (cnt_none q1 q2) (ff.mp z)⟩
              simp [is_tree_l1, e1, h16, tl, po, l1, l2]
            | some ps =>
              rw [q2] at l2
              obtain ⟨gp, pl, p2, hh, rfl⟩ := gy.up.parts q2
              have ext : mExtend (.lst k) [.tup ps] S2 = .ok .non (S2.set k (.lst (W' ++ ps))) := by
                unfold mExtend
                dsimp only
                rw [lstAt_some lk2]
                dsimp only
                rw [if_pos (by rw [lim_eq]; simp at wl; omega)]
              refine .inr ⟨[some (.int sw), some d, some (.lst k), some (.int (c : Nat)), some (.tup [hh, .tup ps])], S2.set k (.lst (W' ++ ps)), .inl ?_, twM c (W' ++ ps).length, ?_, W' ++ ps, c, _, rfl, x2.setNew (by omega), lstAt_set lk2, ?_, ff.trans (fits_parts (cnt_parts gy q2) p2), ?_, ?_, rfl⟩
              · have tl2 := tyOk_lst lk2
                simp [is_tree_l1, e1, h16, tl, po, l1, l2, tl2, ext]
              · unfold twM
                simp only [List.length_append, List.length_cons, List.length_nil]
                split
                · rw [if_neg (by omega)]; omega
                · rw [if_neg (by omega)]; omega
              · intro x hx
                rcases List.mem_append.mp hx with hx | hx
                · exact gw x (by simp [hx])
                · exact gp x hx
              · intro z
                have := congrArg List.length z
                simp at this
                omega
              · simp; omega)
    wfuel (twM 0 1) [some (.int sw), some d, some (.lst k), some (.int ((0 : Nat) : Nat)), none] (S ++ [.lst [d]]) (by decide)
    ⟨[d], 0, none, rfl, ex_app _ _, by rw [← hk]; exact lstAt_new _ _, fun x hx => by rw [List.mem_singleton.mp hx]; exact g, Iff.rfl, fun z => (by cases z), (by show 1 ≤ 2000; decide), rfl⟩
  rcases step with ⟨ρ', S', e, v1, v2, v3, v4, v0, rfl, x, ft⟩ | ⟨r, S', e, rfl, x, ft⟩
  · refine ⟨true, S', run_rt rfl ?_, x, ⟨fun _ => fits_one.mp ft, fun _ => rfl⟩⟩
    simp [b_is_tree, startE, hk]
    rw [show (0 : Int) = ((0 : Nat) : Int) from rfl, e]
    simp
  · refine ⟨false, S', run_rt rfl ?_, x, ⟨fun z => (by cases z), fun z => absurd (fits_one.mpr z) ft⟩⟩
    simp [b_is_tree, startE, hk]
    rw [show (0 : Int) = ((0 : Nat) : Int) from rfl, e]
    simp
end My
namespace My
open PySem L2
variable {cl : Nat → CLL}
theorem isS_of {x : Str} {d : D} (h : sE x d = true) : isS d = true := by cases d <;> first | rfl | cases h
theorem oIn_23 (q : Int) (S : Store) : oIn true (.int q) (.tup [.int 2, .int 3]) S = .ok (.bl (!(decide (q = 2) || decide (q = 3)))) S := by
  show R.ok (D.bl (!(((2 : Int) == q) || (((3 : Int) == q) || false)))) S = _
  have e : ∀ a b : Int, (a == b) = decide (b = a) := fun a b => by rw [Bool.eq_iff_iff, beq_iff_eq, decide_eq_true_eq]; exact eq_comm
  rw [e, e, Bool.or_false]
theorem cnt_loop (c : CLL) (sw : Int) {T0 : D} {v2 : Option D} (f : D → Nat) (S : Store) : ∀ (l : List D) (a : Nat) (v4 v5 : Option D), (∀ x ∈ l, c "_law_counted" [.int sw, x] S = .ok (.int (f x : Nat)) S) →
    (0 ∈ l.map f ∧ loopS [] (gN 4) (law_counted_l1 c) l [some (.int sw), some T0, v2, some (.int (a : Nat)), v4, v5] S = .rt (.int 0) S) ∨
    (0 ∉ l.map f ∧ ∃ w4 w5, loopS [] (gN 4) (law_counted_l1 c) l [some (.int sw), some T0, v2, some (.int (a : Nat)), v4, v5] S = .nx [some (.int sw), some T0, v2, some (.int ((a + (l.map f).sum : Nat) : Nat)), w4, w5] S)
  | [], a, v4, v5, h => .inr ⟨by simp, v4, v5, by unfold loopS; rw [if_pos (okW_nil _)]; rfl⟩
  | x :: l, a, v4, v5, h => by
    have e1 := h x (by simp)
    unfold loopS
    rw [if_pos (okW_nil _)]
    simp only [gN_ev, List.set_cons_succ, List.set_cons_zero]
    by_cases h0 : f x = 0
    · refine .inl ⟨by simp [h0], ?_⟩
      rw [h0] at e1
      have e1' : c "_law_counted" [.int sw, x] S = .ok (.int 0) S := e1
      have : law_counted_l1 c [some (.int sw), some T0, v2, some (.int (a : Nat)), some x, v5] S = .rt (.int 0) S := by simp [law_counted_l1, e1']
      rw [this]
    · have h0' : ¬ ((f x : Nat) : Int) = 0 := by omega
      have : law_counted_l1 c [some (.int sw), some T0, v2, some (.int (a : Nat)), some x, v5] S = .nx [some (.int sw), some T0, v2, some (.int ((a + f x : Nat) : Nat)), some x, some (.int (f x : Nat))] S := by
        generalize hq : ((f x : Nat) : Int) = q at *
        have : ((a + f x : Nat) : Int) = (a : Int) + q := by omega
        rw [this]
        simp [law_counted_l1, e1, h0']
      rw [this]
      rcases cnt_loop c sw f S l (a + f x) (some x) (some (.int (f x : Nat))) (fun y hy => h y (by simp [hy])) with ⟨z, e⟩ | ⟨z, w4, w5, e⟩
      · exact .inl ⟨by simp [z], e⟩
      · refine .inr ⟨by simp at z ⊢; exact ⟨fun q => h0 q.symm, z⟩, w4, w5, ?_⟩
        rw [List.map_cons, List.sum_cons, ← Nat.add_assoc]
        exact e
theorem law_counted_spec (h : Hs_law_counted cl) (hw : Hs_law_whole cl) (sw : Int) : ∀ (N n : Nat) {S : Store} {d : D}, Gd S N d → cl (n + N + 2) "_law_counted" [.int sw, d] S = .ok (.int (cnt sw (N + 1) d : Nat)) S := by
  intro N
  induction N with
  | zero =>
    intro n S d g
    rw [show n + 0 + 2 = (n + 1) + 1 from rfl, h]
    refine run_rt rfl ?_
    have e1 := inst_T g.k
    rw [g.2] at e1
    have : cnt sw (0 + 1) d = 0 := cnt_none (by have := g.2; cases d <;> first | rfl | cases this) (by have := g.2; cases d <;> first | rfl | cases this)
    rw [this]
    simp [b_law_counted, startE, e1]
  | succ N ih =>
    intro n S d g
    rw [show n + (N + 1) + 2 = (n + N + 2) + 1 by omega, h]
    refine run_rt rfl ?_
    have e1 := inst_T g.k
    cases d with
    | tup xs =>
      rcases len3 xs with ⟨a, b, c, rfl⟩ | hl3
      · obtain ⟨sn, kds, _⟩ := g.2 a [b, c] rfl
        have w1 := law_whole_any hw (n + N + 1) 0 sw (kds b (by simp))
        have w2 := law_whole_any hw (n + N + 1) 0 2 (kds c (by simp))
        have hp : partD (.tup [a, b, c]) = none := partD_no (by simp)
        have hc : cnt sw (N + 1 + 1) (.tup [a, b, c]) = if (sE sAt a && (whD 0 sw b && whD 0 2 c)) = true then 1 else 0 := by
          show (if (sE sAt a && (whD 0 sw b && whD 0 2 c)) = true then 1 else match partD (.tup [a, b, c]) with | some ps => tot (ps.map (cnt sw (N + 1))) | none => 0) = _
          rw [hp]
        rw [hc]
        have ka : kd S a := by
          obtain ⟨p, hp1, hp2, hp3⟩ := sn
          cases a with
          | lst k => obtain ⟨_, z⟩ := hp3 rfl rfl; cases z
          | dct k => obtain ⟨_, z⟩ := hp3 rfl rfl; cases z
          | ty k => obtain ⟨_, z⟩ := hp3 rfl rfl; cases z
          | rol k => obtain ⟨_, z⟩ := hp3 rfl rfl; cases z
          | _ => exact ⟨_, rfl⟩
        have e2 := inst_S ka
        have e3 := (ne_str sn ok_at S).1
        cases q : sE sAt a with
        | true =>
          have q' := isS_of q
          rw [q] at e3
          rw [q'] at e2
          cases q1 : whD 0 sw b <;> cases q2 : whD 0 2 c <;> rw [q1] at w1 <;> rw [q2] at w2 <;> simp [b_law_counted, startE, e1, isT, e2, e3, w1, w2, oIn_23]
        | false =>
          rw [q] at e3
          cases q' : isS a <;> rw [q'] at e2 <;> simp [b_law_counted, startE, e1, isT, e2, e3, oIn_23]
      · rcases len2 xs with ⟨a, b, rfl⟩ | hl2
        · obtain ⟨sn, kds, hps⟩ := g.2 a [b] rfl
          have ka : kd S a := by
            obtain ⟨p, hp1, hp2, hp3⟩ := sn
            cases a with
            | lst k => obtain ⟨_, z⟩ := hp3 rfl rfl; cases z
            | dct k => obtain ⟨_, z⟩ := hp3 rfl rfl; cases z
            | ty k => obtain ⟨_, z⟩ := hp3 rfl rfl; cases z
            | rol k => obtain ⟨_, z⟩ := hp3 rfl rfl; cases z
            | _ => exact ⟨_, rfl⟩
          have e2 := inst_S ka
          have e3 := in_strs sn ok_row ok_side S
          have e4 := inst_T (kds b (by simp))
          cases q' : isS a with
          | false =>
            rw [q'] at e2
            have : cnt sw (N + 1 + 1) (.tup [a, b]) = 0 := cnt_none rfl (by
              cases b <;> first | rfl | (rw [partD_eq, if_neg]; rintro ⟨z, _⟩; rw [Bool.or_eq_true] at z; rcases z with z | z <;> rw [isS_of z] at q' <;> cases q'))
            rw [this]
            simp [b_law_counted, startE, e1, isT, e2, oIn_23]
          | true =>
            rw [q'] at e2
            cases q : (sE sRow a || sE sSide a) with
            | false =>
              rw [q] at e3
              have : cnt sw (N + 1 + 1) (.tup [a, b]) = 0 := cnt_none rfl (by
                cases b <;> first | rfl | (rw [partD_eq, if_neg]; rintro ⟨z, _⟩; rw [q] at z; cases z))
              rw [this]
              simp [b_law_counted, startE, e1, isT, e2, oIn_23, e3]
            | true =>
              rw [q] at e3
              cases b with
              | tup ps =>
                by_cases h2 : 2 ≤ ps.length
                · have hp : partD (.tup [a, .tup ps]) = some ps := by rw [partD_eq, if_pos ⟨q, h2⟩]
                  have hc : cnt sw (N + 1 + 1) (.tup [a, .tup ps]) = tot (ps.map (cnt sw (N + 1))) := by
                    show (if loneD sw (.tup [a, .tup ps]) then 1 else match partD (.tup [a, .tup ps]) with | some ps => tot (ps.map (cnt sw (N + 1))) | none => 0) = _
                    rw [hp]; rfl
                  rw [hc]
                  have h2' : ¬ ((ps.length : Int) < 2) := by omega
                  have lp := cnt_loop (cl (n + N + 2)) sw (T0 := .tup [a, .tup ps]) (v2 := none) (cnt sw (N + 1)) S ps 0 none none (fun x hx => ih n ((hps ps rfl).2 x hx))
                  have z0 : ((0 : Nat) : Int) = 0 := rfl
                  rw [z0] at lp
                  unfold tot
                  generalize hql : (ps.length : Int) = ql at *
                  rcases lp with ⟨z, e⟩ | ⟨z, w4, w5, e⟩
                  · rw [if_pos z]
                    simp [b_law_counted, startE, e1, isT, e2, oIn_23, e3, hql, h2', e]
                  · rw [if_neg z, ← Nat.zero_add (List.sum _)]
                    simp [b_law_counted, startE, e1, isT, e2, oIn_23, e3, hql, h2', e]
                · have : cnt sw (N + 1 + 1) (.tup [a, .tup ps]) = 0 := cnt_none rfl (by rw [partD_eq, if_neg fun z => h2 z.2])
                  rw [this]
                  have h2' : (ps.length : Int) < 2 := by omega
                  generalize hql : (ps.length : Int) = ql at *
                  simp [b_law_counted, startE, e1, isT, e2, oIn_23, e3, hql, h2']
              | _ =>
                have : ∀ y, (∀ ps, y ≠ .tup ps) → cnt sw (N + 1 + 1) (.tup [a, y]) = 0 := fun y hy => cnt_none rfl (by cases y <;> first | rfl | exact absurd rfl (hy _))
                rw [this _ (by intro ps z; cases z)]
                simp [b_law_counted, startE, e1, isT, e2, oIn_23, e3, e4]
        · rw [show cnt sw (N + 1 + 1) (.tup xs) = 0 from cnt_none (loneD_no hl3) (partD_no hl2)]
          have a1 : ¬ (xs.length : Int) = 2 := by omega
          have a2 : ¬ (xs.length : Int) = 3 := by omega
          generalize hq : (xs.length : Int) = q at *
          simp [b_law_counted, startE, e1, isT, oIn_23, hq, a1, a2]
    | _ =>
      have : ∀ y, (∀ ps, y ≠ .tup ps) → cnt sw (N + 1 + 1) y = 0 := fun y hy => by
        cases y <;> first | exact cnt_none rfl rfl | exact absurd rfl (hy _)
      rw [this _ (by intro ps z; cases z)]
      simp [b_law_counted, startE, e1, isT]
end My
namespace My
open PySem L2
variable {cl : Nat → CLL}
mutual
theorem lv_sz : ∀ t : Tr, t.lv ≤ t.sz
  | .lf _ _ => Nat.le_refl _
  | .nd r ps => Nat.le_succ_of_le (lvs_szs ps)
theorem lvs_szs : ∀ ps : List Tr, Tr.lvs ps ≤ Tr.szs ps
  | [] => Nat.le_refl _
  | t :: r => Nat.add_le_add (lv_sz t) (lvs_szs r)
end
theorem lvs_sum : ∀ ps : List Tr, (ps.map fun t => ((t.lv : Nat) : Int)).sum = (Tr.lvs ps : Nat)
  | [] => rfl
  | t :: r => by
    rw [List.map_cons, List.sum_cons, lvs_sum r]
    show _ = ((t.lv + Tr.lvs r : Nat) : Int)
    omega
theorem contacts_of_spec (h : Hs_contacts_of cl) : ∀ (H : Nat) (t : Tr), t.ht ≤ H → t.sz ≤ 1000 → ∀ (n : Nat) (S : Store), ∃ S1, cl (n + H + 1) "contacts_of" [t.d] S = .ok (.int (t.lv : Nat)) S1 ∧ Ex S S1 := by
  intro H
  induction H with
  | zero =>
    intro t ht hs n S
    cases t with
    | lf k o => exact ⟨S, by rw [h]; exact run_rt rfl (by simp [b_contacts_of, startE, Tr.d, Tr.lv]), Kp.refl _ _⟩
    | nd r ps => simp [Tr.ht] at ht
  | succ H ih =>
    intro t ht hs n S
    cases t with
    | lf k o => exact ⟨S, by rw [h]; exact run_rt rfl (by simp [b_contacts_of, startE, Tr.d, Tr.lv]), Kp.refl _ _⟩
    | nd r ps =>
      have ht' : Tr.hts ps + 1 ≤ H + 1 := ht
      have hs' : Tr.szs ps + 1 ≤ 1000 := hs
      obtain ⟨S2, e2, x2⟩ := comp_mapM Tr.d (w := []) (t := .one) (c := contacts_of_e1 (cl (n + (H + 1)))) (ρ0 := [none]) (fun S' => Ex S S') (fun S' x => okW_nil _) (fun t => D.int (t.lv : Nat)) ps (Kp.refl _ _)
        (fun t hm S' x => by
          obtain ⟨S3, e3, x3⟩ := ih t (by have := hts_mem hm; omega) (by have := szs_mem hm; omega) n S'
          exact ⟨_, rfl, S3, by simp [contacts_of_e1]; exact e3, x.trans x3⟩)
      have e4 : ps.map (fun t => D.int (t.lv : Nat)) = (ps.map fun t => ((t.lv : Nat) : Int)).map D.int := by rw [List.map_map]; rfl
      rw [e4] at e2
      have hb : ∀ i ∈ (ps.map fun t => ((t.lv : Nat) : Int)), 0 ≤ i ∧ i ≤ 1000000 := fun i hi => by
        obtain ⟨t, hm, rfl⟩ := List.mem_map.mp hi
        have := szs_mem hm
        have := lv_sz t
        omega
      have t1 := fSum_lst (lstAt_new S2 ((ps.map fun t => ((t.lv : Nat) : Int)).map D.int)) hb (by rw [List.length_map]; have := szs_len ps; omega)
      rw [lvs_sum] at t1
      have hl : (ps.map Tr.d).length < lim := by rw [List.length_map, lim_eq]; have := szs_len ps; omega
      refine ⟨_, ?_, x2.trans (ex_app S2 [.lst ((ps.map fun t => ((t.lv : Nat) : Int)).map D.int)])⟩
      rw [h]
      refine run_rt rfl ?_
      show _ = RS.rt (.int (Tr.lvs ps : Nat)) _
      simp only [Tr.d, ds_map]
      generalize (ps.map fun t => ((t.lv : Nat) : Int)).map D.int = B at *
      generalize ps.map Tr.d = A at *
      simp [b_contacts_of, startE, kw_at, hl, e2, t1]
theorem law_leaves_spec (h : Hs_law_leaves cl) : ∀ (H : Nat) (t : Tr), t.ht ≤ H → t.sz ≤ 1000 → ∀ (n : Nat) (S : Store), ∃ k ls S1, cl (n + H + 1) "_law_leaves" [t.d] S = .ok (.lst k) S1 ∧ lstAt S1 k = some ls ∧ ls.length = t.lv ∧ S.length ≤ k ∧ Ex S S1 := by
  intro H
  have leaf : ∀ (n : Nat) (k o : Int) (S : Store), ∃ q ls S1, cl (n + 1) "_law_leaves" [(Tr.lf k o).d] S = .ok (.lst q) S1 ∧ lstAt S1 q = some ls ∧ ls.length = (Tr.lf k o).lv ∧ S.length ≤ q ∧ Ex S S1 := fun n k o S =>
    ⟨S.length, [(Tr.lf k o).d], S ++ [.lst [(Tr.lf k o).d]], by rw [h]; exact run_rt rfl (by simp [b_law_leaves, startE, Tr.d]), lstAt_new _ _, rfl, Nat.le_refl _, ex_app _ _⟩
  induction H with
  | zero =>
    intro t ht hs n S
    cases t with
    | lf k o => exact leaf n k o S
    | nd r ps => simp [Tr.ht] at ht
  | succ H ih =>
    intro t ht hs n S
    cases t with
    | lf k o => exact leaf (n + (H + 1)) k o S
    | nd r ps =>
      have ht' : Tr.hts ps + 1 ≤ H + 1 := ht
      have hs' : Tr.szs ps + 1 ≤ 1000 := hs
      obtain ⟨q, hq⟩ : ∃ q, S.length = q := ⟨_, rfl⟩
      obtain ⟨T0, hT⟩ : ∃ T0, T0 = (Tr.nd r ps).d := ⟨_, rfl⟩
      obtain ⟨ρ', S1, e1, ls, v2, rfl, lk, ll, x⟩ := loop_inv (w := []) (g := gN 2) (b := law_leaves_l1 (cl (n + (H + 1)))) (items := ps.map Tr.d)
        (fun j ρ S' => ∃ ls v2, ρ = [some T0, some (.lst q), v2] ∧ lstAt S' q = some ls ∧ ls.length = Tr.lvs (ps.take j) ∧ Ex S S') (ρ := [some T0, some (.lst q), none]) (S := S ++ [.lst []])
        (fun j ρ S' _ => okW_nil _) ⟨[], none, rfl, by rw [← hq]; exact lstAt_new _ _, by simp [Tr.lvs], ex_app _ _⟩
        (fun j d ρ S' hd hp => by
          obtain ⟨ls, v2, rfl, lk, ll, x⟩ := hp
          rw [List.getElem?_map] at hd
          obtain ⟨t, ht1, rfl⟩ := Option.map_eq_some_iff.mp hd
          have hm : t ∈ ps := List.mem_of_getElem? ht1
          obtain ⟨k, ls2, S2, e2, lk2, ll2, kk, x2⟩ := ih t (by have := hts_mem hm; omega) (by have := szs_mem hm; omega) n S'
          rw [show n + H + 1 = n + (H + 1) by omega] at e2
          have qlt := lstAt_lt lk
          have lk3 := x2.lst lk fun z => z
          have hlv : Tr.lvs (ps.take j) ≤ 1000 := by have := lvs_szs (ps.take j); have := szs_split ps j; omega
          have hlt : t.lv ≤ 1000 := by have := lv_sz t; have := szs_mem hm; omega
          have ext : mExtend (.lst q) [.lst k] S2 = .ok .non (S2.set q (.lst (ls ++ ls2))) := by
            unfold mExtend
            dsimp only
            rw [lstAt_some lk3, lstAt_some lk2]
            dsimp only
            rw [if_pos (by rw [lim_eq]; omega)]
          refine ⟨_, _, rfl, [some T0, some (.lst q), some t.d], S2.set q (.lst (ls ++ ls2)), .inl ?_, ls ++ ls2, _, rfl, lstAt_set lk3, ?_, (x.trans x2).setNew (by omega)⟩
          · have tl := tyOk_lst lk
            simp only [List.set_cons_succ, List.set_cons_zero]
            generalize t.d = td at *
            simp [law_leaves_l1, tl, e2, ext]
          · rw [List.length_append, ll, ll2, List.take_add_one, ht1]
            have : ∀ a b : List Tr, Tr.lvs (a ++ b) = Tr.lvs a + Tr.lvs b := fun a b => by
              induction a with
              | nil => simp [Tr.lvs]
              | cons c a iha => show c.lv + Tr.lvs (a ++ b) = c.lv + Tr.lvs a + Tr.lvs b; rw [iha]; omega
            rw [this]
            show _ = _ + (t.lv + 0)
            omega)
      refine ⟨q, ls, S1, ?_, lk, ?_, by omega, x⟩
      · rw [h]
        refine run_rt rfl ?_
        rw [hT] at e1
        simp only [Tr.d, ds_map] at e1 ⊢
        generalize ps.map Tr.d = A at *
        simp [b_law_leaves, startE, kw_at, hq, e1]
      · rw [ll, List.length_map, List.take_length]; rfl
theorem gd_tr (S : Store) : ∀ (H : Nat) (t : Tr), t.ht ≤ H → t.sz ≤ 1000 → Gd S (H + 1) t.d := by
  have leaf : ∀ (n : Nat) (k o : Int), Gd S (n + 1) (Tr.lf k o).d := fun n k o => ⟨kd_tup _ _, fun h r e => by
    have e' : D.tup [.str (Str.ofString "at"), .int k, .int o] = .tup (h :: r) := e
    cases e'
    exact ⟨sn_str ok_at, fun x hx => by simp at hx; rcases hx with rfl | rfl <;> exact kd_int _ _, fun ps e => by simp at e⟩⟩
  intro H
  induction H with
  | zero =>
    intro t ht hs
    cases t with
    | lf k o => exact leaf 0 k o
    | nd r ps => simp [Tr.ht] at ht
  | succ H ih =>
    intro t ht hs
    cases t with
    | lf k o => exact leaf (H + 1) k o
    | nd r ps =>
      have ht' : Tr.hts ps + 1 ≤ H + 1 := ht
      have hs' : Tr.szs ps + 1 ≤ 1000 := hs
      refine ⟨kd_tup _ _, fun h q e => ?_⟩
      have e' : D.tup [.str (kw r), .tup (Tr.ds ps)] = .tup (h :: q) := e
      cases e'
      refine ⟨sn_str (strOk_kw r), fun x hx => by rw [List.mem_singleton.mp hx]; exact kd_tup _ _, fun qs e => ?_⟩
      cases e
      rw [ds_map]
      refine ⟨by rw [List.length_map]; have := szs_len ps; omega, fun x hx => ?_⟩
      obtain ⟨t, hm, rfl⟩ := List.mem_map.mp hx
      exact ih t (by have := hts_mem hm; omega) (by have := szs_mem hm; omega)
end My
namespace My
open PySem L2
variable {cl : Nat → CLL}
theorem atI_in {α : Type} {xs : List α} {r : Int} (h0 : 0 ≤ r) (h1 : r < xs.length) : ∃ d, atI xs r = some d ∧ d ∈ xs := by
  obtain ⟨j, rfl⟩ : ∃ j : Nat, r = (j : Int) := ⟨r.toNat, by omega⟩
  have hj : j < xs.length := by omega
  exact ⟨xs[j], atI_nat (List.getElem?_eq_getElem hj), List.getElem_mem hj⟩
theorem ix_in {S : Store} {k : Nat} {xs : List D} {r : Int} (h : lstAt S k = some xs) (h0 : 0 ≤ r) (h1 : r < xs.length) : ∃ d, oIx (.lst k) (.int r) S = .ok d S ∧ d ∈ xs := by
  obtain ⟨d, e, m⟩ := atI_in h0 h1
  exact ⟨d, by rw [oIx_lst h, e], m⟩
theorem kd_dk {S : Store} {k : Nat} {kvs : List (Key × D)} (h : S[k]? = some (.dk kvs)) : kd S (.dct k) := ⟨"dict", by show dictK S k = _; unfold dictK; rw [h]⟩
theorem gd_at {S : Store} {d : D} (n : Nat) (h : kd S d) (t : isT d = false) : Gd S n d := Gd.le (n := 0) ⟨h, t⟩ (Nat.zero_le _)
theorem gd_nil (S : Store) (n : Nat) : Gd S (n + 1) (.tup []) := ⟨kd_tup _ _, fun h r e => by cases e⟩
theorem gd_tup {S : Store} {n : Nat} {h : D} {r : List D} (sn : Sn h) (k : ∀ x ∈ r, kd S x) (p : ∀ ps, r = [.tup ps] → ps.length ≤ 1000 ∧ ∀ x ∈ ps, Gd S n x) : Gd S (n + 1) (.tup (h :: r)) := ⟨kd_tup _ _, fun a q e => by cases e; exact ⟨sn, k, p⟩⟩
def oddL (a b c : Nat) : List D := [.non, .bl true, .bl false, .int (-1), .str (Str.ofString ""), .str (Str.ofString "at"), .tup [], .lst a, .tup [.bl true], .lst b, .dct c, .tup [.non], .tup [.int (-1)], .tup [.str (Str.ofString "at")], .int 100000000000000000000000000000, .tup [.int 0, .int 0]]
theorem odd_run (c : CLL) {S S1 S2 S3 S4 S5 : Store} {i : Nat} {r : Int} {d : D} (h1 : S ++ [.lst []] = S1) (h2 : S1 ++ [.lst [.int 0]] = S2) (h3 : S2 ++ [.dk [((Sum.inl 0 : Key), D.int 1)]] = S3) (h4 : S3 ++ [.lst (oddL S.length S1.length S2.length)] = S4) (e : c "_law_take" [.lst i, .int 16] S4 = .ok (.int r) S5) (ix : oIx (.lst S3.length) (.int r) S5 = .ok d S5) :
    b_law_odd_v3 c [some (.lst i), none] S = .rt d S5 := by
  unfold oddL at h4
  have hk : keyOf (.int 0) = some (Sum.inl 0 : Key) := rfl
  simp [b_law_odd_v3, h1, h2, h3, h4, e, ix, hk]
theorem law_odd_spec (h : Hs_law_odd_v3 cl) (ht : Hs_law_take cl) (n : Nat) {S : Store} {i : Nat} (st : StOk S i) : ∃ d S1, cl (n + 2) "_law_odd" [.lst i] S = .ok d S1 ∧ Gd S1 1 d ∧ Kp (· = i) S S1 ∧ StOk S1 i := by
  rw [show n + 2 = (n + 1) + 1 from rfl, h]
  obtain ⟨S1, h1⟩ : ∃ S1, S ++ [O.lst []] = S1 := ⟨_, rfl⟩
  obtain ⟨S2, h2⟩ : ∃ S2, S1 ++ [O.lst [.int 0]] = S2 := ⟨_, rfl⟩
  obtain ⟨S3, h3⟩ : ∃ S3, S2 ++ [O.dk [((Sum.inl 0 : Key), D.int 1)]] = S3 := ⟨_, rfl⟩
  obtain ⟨S4, h4⟩ : ∃ S4, S3 ++ [O.lst (oddL S.length S1.length S2.length)] = S4 := ⟨_, rfl⟩
  have x1 : Ex S S1 := by rw [← h1]; exact ex_app _ _
  have x2 : Ex S1 S2 := by rw [← h2]; exact ex_app _ _
  have x3 : Ex S2 S3 := by rw [← h3]; exact ex_app _ _
  have x4 : Ex S3 S4 := by rw [← h4]; exact ex_app _ _
  have x14 := ((x1.trans x2).trans x3).trans x4
  have st4 := st.ex x14
  have ilt := st.lt
  obtain ⟨r, S5, e5, r0, r1, k5, n5, st5⟩ := take_spec ht n st4 (m := 16) (by decide) (by decide)
  have le1 := x1.le
  have le2 := x2.le
  have le3 := x3.le
  have l4 : lstAt S5 S3.length = some (oddL S.length S1.length S2.length) := k5.lst (by rw [← h4]; exact lstAt_new _ _) (by omega)
  obtain ⟨d, ix, mem⟩ := ix_in l4 r0 (by show r < ((16 : Nat) : Int); omega)
  refine ⟨d, S5, run_rt rfl (odd_run _ h1 h2 h3 h4 e5 ix), ?_, x14.kp.trans k5, st5⟩
  have ka : kd S5 (.lst S.length) := kd_lst (by rw [k5.lst (((x2.trans x3).trans x4).lst (show lstAt S1 S.length = some [] by rw [← h1]; exact lstAt_new _ _) fun z => z) (by omega)]; rfl)
  have kb : kd S5 (.lst S1.length) := kd_lst (by rw [k5.lst ((x3.trans x4).lst (show lstAt S2 S1.length = some [.int 0] by rw [← h2]; exact lstAt_new _ _) fun z => z) (by omega)]; rfl)
  have kc : kd S5 (.dct S2.length) := kd_dk (kvs := [((Sum.inl 0 : Key), D.int 1)]) (by
    have : S3[S2.length]? = some (.dk [((Sum.inl 0 : Key), D.int 1)]) := by rw [← h3, List.getElem?_append_right (Nat.le_refl _), Nat.sub_self]; rfl
    exact k5.at (x4.at this fun z => z) (by omega))
  unfold oddL at mem
  simp only [List.mem_cons, List.not_mem_nil, or_false] at mem
  have one : ∀ a, Sn a → Gd S5 1 (.tup [a]) := fun a sn => gd_tup sn (fun x hx => by cases hx) (fun ps e => by cases e)
  rcases mem with rfl | rfl | rfl | rfl | rfl | rfl | rfl | rfl | rfl | rfl | rfl | rfl | rfl | rfl | rfl | rfl
  · exact gd_at 1 ⟨_, rfl⟩ rfl
  · exact gd_at 1 ⟨_, rfl⟩ rfl
  · exact gd_at 1 ⟨_, rfl⟩ rfl
  · exact gd_at 1 ⟨_, rfl⟩ rfl
  · exact gd_at 1 ⟨_, rfl⟩ rfl
  · exact gd_at 1 ⟨_, rfl⟩ rfl
  · exact gd_nil _ _
  · exact gd_at 1 ka rfl
  · exact one _ (sn_bl _)
  · exact gd_at 1 kb rfl
  · exact gd_at 1 kc rfl
  · exact one _ sn_non
  · exact one _ (sn_int _)
  · exact one _ (sn_str ok_at)
  · exact gd_at 1 ⟨_, rfl⟩ rfl
  · exact gd_tup (sn_int _) (fun x hx => by rw [List.mem_singleton.mp hx]; exact kd_int _ _) (fun ps e => by cases e)
noncomputable def bentR (cl : CLL) : CS :=
  (sSeq (sAsg (cBin oIx (cLst (cArgs [(cCon .non), (cCon (.bl true)), (cCon (.int 4)), (cUn oNeg (cCon (.int 1))), (cCon (.str (Str.ofString "at"))), (cCon (.int 2)), (cTup (cArgs [(cCon (.str (Str.ofString "at"))), (cCon (.int 0)), (cCon (.int 2))])), (cTup (cArgs [(cCon (.str (Str.ofString "at"))), (cCon (.bl true)), (cCon (.int 0))]))])) (cApp (cl "_law_take") (cArgs [(cVar 0), (cCon (.int 8))]))) (gN 3))
    (sSeq (sAsg (cLst (cArgs [(cBin oAdd (cTup (cArgs [(cVar 3)])) (cSl oSl (cVar 1) (cPart (cCon (.int 1))) cNoPart)), (cBin oAdd (cBin oAdd (cSl oSl (cVar 1) cNoPart (cPart (cCon (.int 1)))) (cTup (cArgs [(cVar 3)]))) (cSl oSl (cVar 1) (cPart (cCon (.int 2))) cNoPart)), (cBin oAdd (cVar 1) (cTup (cArgs [(cVar 3)]))), (cApp fList (cArgs [(cVar 1)])), (cTup (cArgs [(cCon (.str (Str.ofString "row"))), (cTup (cArgs [(cVar 1)]))])), (cVar 3)])) (gN 4))
    (sSeq (sAsg (cBin oAdd (cVar 4) (cLst (cArgs [(cSl oSl (cVar 1) cNoPart (cPart (cUn oNeg (cCon (.int 1))))), (cTup (cArgs [(cCon (.str (Str.ofString "side"))), (cTup (cArgs [(cVar 1), (cVar 1)]))])), (cTup (cArgs [(cCon (.str (Str.ofString "row"))), (cLst (cArgs [(cVar 1), (cVar 1)]))])), (cTup (cArgs [(cCon (.str (Str.ofString "at"))), (cTup (cArgs [(cVar 1), (cVar 1)]))])), (cTup (cArgs [(cCon (.str (Str.ofString "side"))), (cTup (cArgs []))]))]))) (gN 4))
    (sSeq (sExpr (cMeth "list" (mList gAppend) (cVar 4) (cArgs [(cBin oRev (cVar 1) (cUn oNeg (cCon (.int 1))))])))
    (sSeq (sRet (cBin oIx (cVar 4) (cApp (cl "_law_take") (cArgs [(cVar 0), (cCon (.int 12))]))))
    sPass)))))
theorem bent_eq (cl : CLL) : b_law_bent_v4 cl = (sSeq (sIf (cAndT (cBool (cBin oNe (cBin oIx (cVar 1) (cCon (.int 0))) (cCon (.str (Str.ofString "at"))))) (cBool (cBin (oCmp fun i j => decide (j < i)) (cApp (cl "_law_take") (cArgs [(cVar 0), (cCon (.int 3))])) (cCon (.int 0))))) (sSeq (sAsg (cApp (cl "_law_take") (cArgs [(cVar 0), (cApp fLen (cArgs [(cBin oIx (cVar 1) (cCon (.int 1)))]))])) (gN 2))
    (sSeq (sRet (cTup (cArgs [(cBin oIx (cVar 1) (cCon (.int 0))), (cBin oAdd (cBin oAdd (cSl oSl (cBin oIx (cVar 1) (cCon (.int 1))) cNoPart (cPart (cVar 2))) (cTup (cArgs [(cApp (cl "_law_bent") (cArgs [(cVar 0), (cBin oIx (cBin oIx (cVar 1) (cCon (.int 1))) (cVar 2))]))]))) (cSl oSl (cBin oIx (cVar 1) (cCon (.int 1))) (cPart (cBin oAdd (cVar 2) (cCon (.int 1)))) cNoPart))])))
    sPass)) sPass) (bentR cl)) := rfl
def oddB : List D := [.non, .bl true, .int 4, .int (-1), .str (Str.ofString "at"), .int 2, .tup [.str (Str.ofString "at"), .int 0, .int 2], .tup [.str (Str.ofString "at"), .bl true, .int 0]]
def some6 (od : D) (xs A1 A2 A3 : List D) (k1 : Nat) : List D := [.tup ([od] ++ A1), .tup (A2 ++ [od] ++ A3), .tup (xs ++ [od]), .lst k1, .tup [.str (Str.ofString "row"), .tup [.tup xs]], od]
def some5 (xs A4 : List D) (k2 : Nat) : List D := [.tup A4, .tup [.str (Str.ofString "side"), .tup [.tup xs, .tup xs]], .tup [.str (Str.ofString "row"), .lst k2], .tup [.str (Str.ofString "at"), .tup [.tup xs, .tup xs]], .tup [.str (Str.ofString "side"), .tup []]]
theorem bentR_run (c : CLL) {xs A1 A2 A3 A4 : List D} (c1 : cutD xs (some 1) none = A1) (c2 : cutD xs none (some 1) = A2) (c3 : cutD xs (some 2) none = A3) (c4 : cutD xs none (some (-1)) = A4) (lx : xs.length ≤ 10) (l1 : A1.length ≤ 10) (l2 : A2.length ≤ 10) (l3 : A3.length ≤ 10)
    {S S1 S2 S3 S4 S5 S6 S7 S8 S9 : Store} {i : Nat} {v2 : Option D} {r s : Int} {od d : D} (h1 : S ++ [.lst oddB] = S1) (e1 : c "_law_take" [.lst i, .int 8] S1 = .ok (.int r) S2) (ix1 : oIx (.lst S.length) (.int r) S2 = .ok od S2)
    (h3 : S2 ++ [.lst xs] = S3) (h4 : S3 ++ [.lst (some6 od xs A1 A2 A3 S2.length)] = S4) (h5 : S4 ++ [.lst [.tup xs, .tup xs]] = S5) (h6 : S5 ++ [.lst (some5 xs A4 S4.length)] = S6)
    (ad : oAdd (.lst S3.length) (.lst S5.length) S6 = .ok (.lst S6.length) S7) (ty : tyOk "list" (.lst S6.length) S7 = true) (ap : mList gAppend (.lst S6.length) [.tup xs.reverse] S7 = .ok .non S8) (e2 : c "_law_take" [.lst i, .int 12] S8 = .ok (.int s) S9) (ix2 : oIx (.lst S6.length) (.int s) S9 = .ok d S9) :
    bentR c [some (.lst i), some (.tup xs), v2, none, none] S = .rt d S9 := by
  unfold oddB at h1
  unfold some6 at h4
  unfold some5 at h6
  have f1 : 1 + A1.length ≤ lim := by rw [lim_eq]; omega
  have f2 : A2.length + 1 ≤ lim := by rw [lim_eq]; omega
  have f3 : A2.length + 1 + A3.length ≤ lim := by rw [lim_eq]; omega
  have f4 : xs.length + 1 ≤ lim := by rw [lim_eq]; omega
  simp [List.append_assoc] at h4
  simp [bentR, h1, e1, ix1, c1, c2, c3, c4, f1, f2, f3, f4, h3, h4, h5, h6, ad, ty, ap, e2, ix2]
end My
namespace My
open PySem L2
variable {cl : Nat → CLL}
theorem bentR_spec (ht : Hs_law_take cl) (n : Nat) {xs A1 A2 A3 A4 : List D} (c1 : cutD xs (some 1) none = A1) (c2 : cutD xs none (some 1) = A2) (c3 : cutD xs (some 2) none = A3) (c4 : cutD xs none (some (-1)) = A4) (lx : xs.length ≤ 10) (l1 : A1.length ≤ 10) (l2 : A2.length ≤ 10) (l3 : A3.length ≤ 10)
    {S : Store} {i : Nat} (st : StOk S i) (v2 : Option D) : ∃ od d k1 k2 S1, bentR (cl (n + 1)) [some (.lst i), some (.tup xs), v2, none, none] S = .rt d S1 ∧ od ∈ oddB ∧ d ∈ some6 od xs A1 A2 A3 k1 ++ some5 xs A4 k2 ++ [.tup xs.reverse] ∧ kd S1 (.lst k1) ∧ kd S1 (.lst k2) ∧ Kp (· = i) S S1 ∧ StOk S1 i := by
  obtain ⟨S1, h1⟩ : ∃ S1, S ++ [O.lst oddB] = S1 := ⟨_, rfl⟩
  have x1 : Ex S S1 := by rw [← h1]; exact ex_app _ _
  have ilt := st.lt
  obtain ⟨r, S2, e1, r0, r1, k2, n2, st2⟩ := take_spec ht n (st.ex x1) (m := 8) (by decide) (by decide)
  obtain ⟨od, ix1, mo⟩ := ix_in (k2.lst (show lstAt S1 S.length = some oddB by rw [← h1]; exact lstAt_new _ _) (by omega)) r0 (by show r < ((8 : Nat) : Int); omega)
  obtain ⟨S3, h3⟩ : ∃ S3, S2 ++ [O.lst xs] = S3 := ⟨_, rfl⟩
  obtain ⟨S4, h4⟩ : ∃ S4, S3 ++ [O.lst (some6 od xs A1 A2 A3 S2.length)] = S4 := ⟨_, rfl⟩
  obtain ⟨S5, h5⟩ : ∃ S5, S4 ++ [O.lst [.tup xs, .tup xs]] = S5 := ⟨_, rfl⟩
  obtain ⟨S6, h6⟩ : ∃ S6, S5 ++ [O.lst (some5 xs A4 S4.length)] = S6 := ⟨_, rfl⟩
  have x3 : Ex S2 S3 := by rw [← h3]; exact ex_app _ _
  have x4 : Ex S3 S4 := by rw [← h4]; exact ex_app _ _
  have x5 : Ex S4 S5 := by rw [← h5]; exact ex_app _ _
  have x6 : Ex S5 S6 := by rw [← h6]; exact ex_app _ _
  have a3 : lstAt S6 S3.length = some (some6 od xs A1 A2 A3 S2.length) := (x5.trans x6).lst (show lstAt S4 S3.length = _ by rw [← h4]; exact lstAt_new _ _) fun z => z
  have a5 : lstAt S6 S5.length = some (some5 xs A4 S4.length) := by rw [← h6]; exact lstAt_new _ _
  have ad := oAdd_lst a3 a5 (by rw [lim_eq]; show 6 + 5 ≤ 1048576; decide)
  obtain ⟨S7, h7⟩ : ∃ S7, S6 ++ [O.lst (some6 od xs A1 A2 A3 S2.length ++ some5 xs A4 S4.length)] = S7 := ⟨_, rfl⟩
  rw [h7] at ad
  have x7 : Ex S6 S7 := by rw [← h7]; exact ex_app _ _
  have a7 : lstAt S7 S6.length = some (some6 od xs A1 A2 A3 S2.length ++ some5 xs A4 S4.length) := by rw [← h7]; exact lstAt_new _ _
  have ap : mList gAppend (.lst S6.length) [.tup xs.reverse] S7 = .ok .non (S7.set S6.length (.lst (some6 od xs A1 A2 A3 S2.length ++ some5 xs A4 S4.length ++ [.tup xs.reverse]))) := by
    rw [mList_ev a7, gAppend_ev, if_pos (by rw [lim_eq]; show 6 + 5 < 1048576; decide)]
  have le3 := x3.le
  have le4 := x4.le
  have le5 := x5.le
  have le6 := x6.le
  have le1 := x1.le
  have x27 := (((x3.trans x4).trans x5).trans x6).trans x7
  have s8 : StOk (S7.set S6.length (.lst (some6 od xs A1 A2 A3 S2.length ++ some5 xs A4 S4.length ++ [.tup xs.reverse]))) i := (st2.ex x27).setO (by have := st2.lt; omega)
  obtain ⟨s, S9, e2, s0, s1, k9, n9, st9⟩ := take_spec ht n s8 (m := 12) (by decide) (by decide)
  have a8 := k9.lst (lstAt_set (ys := some6 od xs A1 A2 A3 S2.length ++ some5 xs A4 S4.length ++ [.tup xs.reverse]) a7) (by have := st2.lt; omega)
  obtain ⟨d, ix2, md⟩ := ix_in a8 s0 (by show s < ((6 + 5 + 1 : Nat) : Int); omega)
  have y2 : Ex S2 (S7.set S6.length (.lst (some6 od xs A1 A2 A3 S2.length ++ some5 xs A4 S4.length ++ [.tup xs.reverse]))) := x27.setNew (by omega)
  refine ⟨od, d, S2.length, S4.length, S9, bentR_run _ c1 c2 c3 c4 lx l1 l2 l3 h1 e1 ix1 h3 h4 h5 h6 ad (tyOk_lst a7) ap e2 ix2, mo, md, ?_, ?_, ((x1.kp.trans k2).trans y2.kp).trans k9, st9⟩
  · have b3 : lstAt S7 S2.length = some xs := (((x4.trans x5).trans x6).trans x7).lst (show lstAt S3 S2.length = _ by rw [← h3]; exact lstAt_new _ _) fun z => z
    refine kd_lst ?_
    have l3 : S3.length = S2.length + 1 := by rw [← h3]; simp
    rw [k9.lst (lstAt_of (show (S7.set S6.length _)[S2.length]? = some (.lst xs) by rw [List.getElem?_set_ne (by omega)]; exact lstAt_some b3)) (by have := st2.lt; omega)]
    rfl
  · have b5 : lstAt S7 S4.length = some [.tup xs, .tup xs] := (x6.trans x7).lst (show lstAt S5 S4.length = _ by rw [← h5]; exact lstAt_new _ _) fun z => z
    refine kd_lst ?_
    have l5 : S5.length = S4.length + 1 := by rw [← h5]; simp
    rw [k9.lst (lstAt_of (show (S7.set S6.length _)[S4.length]? = some (.lst [.tup xs, .tup xs]) by rw [List.getElem?_set_ne (by omega)]; exact lstAt_some b5)) (by have := st2.lt; omega)]
    rfl
theorem odd_ok {od : D} (h : od ∈ oddB) (S : Store) : Sn od ∧ kd S od ∧ Gd S 1 od ∧ ∀ ps, od = .tup ps → ps.length ≤ 1000 ∧ ∀ x ∈ ps, Gd S 0 x := by
  unfold oddB at h
  simp only [List.mem_cons, List.not_mem_nil, or_false] at h
  have tri : ∀ a b : D, kd S a → isT a = false → kd S b → isT b = false → Gd S 1 (.tup [.str (Str.ofString "at"), a, b]) ∧ ∀ ps, D.tup [.str (Str.ofString "at"), a, b] = .tup ps → ps.length ≤ 1000 ∧ ∀ x ∈ ps, Gd S 0 x := fun a b ka ta kb tb => ⟨gd_tup (sn_str ok_at) (fun x hx => by simp at hx; rcases hx with rfl | rfl <;> assumption) (fun ps e => by simp at e), fun ps e => by
    cases e
    refine ⟨by show 3 ≤ 1000; decide, fun x hx => ?_⟩
    simp only [List.mem_cons, List.not_mem_nil, or_false] at hx
    rcases hx with rfl | rfl | rfl
    · exact ⟨⟨_, rfl⟩, rfl⟩
    · exact ⟨ka, ta⟩
    · exact ⟨kb, tb⟩⟩
  have no : ∀ a, kd S a → isT a = false → Gd S 1 a ∧ ∀ ps, a = .tup ps → ps.length ≤ 1000 ∧ ∀ x ∈ ps, Gd S 0 x := fun a ka ta => ⟨gd_at 1 ka ta, fun ps e => by rw [e] at ta; cases ta⟩
  rcases h with rfl | rfl | rfl | rfl | rfl | rfl | rfl | rfl
  · exact ⟨sn_non, ⟨_, rfl⟩, no _ ⟨_, rfl⟩ rfl⟩
  · exact ⟨sn_bl _, ⟨_, rfl⟩, no _ ⟨_, rfl⟩ rfl⟩
  · exact ⟨sn_int _, ⟨_, rfl⟩, no _ ⟨_, rfl⟩ rfl⟩
  · exact ⟨sn_int _, ⟨_, rfl⟩, no _ ⟨_, rfl⟩ rfl⟩
  · exact ⟨sn_str ok_at, ⟨_, rfl⟩, no _ ⟨_, rfl⟩ rfl⟩
  · exact ⟨sn_int _, ⟨_, rfl⟩, no _ ⟨_, rfl⟩ rfl⟩
  · exact ⟨⟨.tuple [.str sAt, .int 0, .int 2], fun S => by
      have : snap 39 S (.str sAt) = some (.str sAt) := by unfold snap; dsimp only; rw [if_pos ok_at]
      show ([D.str sAt, .int 0, .int 2].mapM (snap 39 S)).map PyData.tuple = _
      rw [List.mapM_cons, this]; rfl, fun x e => (by cases e), fun _ _ => ⟨_, rfl⟩⟩, kd_tup _ _, tri _ _ (kd_int _ _) rfl (kd_int _ _) rfl⟩
  · exact ⟨⟨.tuple [.str sAt, .bool true, .int 0], fun S => by
      have : snap 39 S (.str sAt) = some (.str sAt) := by unfold snap; dsimp only; rw [if_pos ok_at]
      show ([D.str sAt, .bl true, .int 0].mapM (snap 39 S)).map PyData.tuple = _
      rw [List.mapM_cons, this]; rfl, fun x e => (by cases e), fun _ _ => ⟨_, rfl⟩⟩, kd_tup _ _, tri _ _ ⟨_, rfl⟩ rfl (kd_int _ _) rfl⟩
theorem bent_ok {S : Store} {H : Nat} {t : Tr} {xs A1 A2 A3 A4 : List D} (ht : t.ht ≤ H) (hH : H ≤ 17) (hs : t.sz ≤ 1000) (ex : t.d = .tup xs) (c1 : cutD xs (some 1) none = A1) (c2 : cutD xs none (some 1) = A2) (c3 : cutD xs (some 2) none = A3) (c4 : cutD xs none (some (-1)) = A4)
    {od d : D} {k1 k2 : Nat} (mo : od ∈ oddB) (md : d ∈ some6 od xs A1 A2 A3 k1 ++ some5 xs A4 k2 ++ [.tup xs.reverse]) (h1 : kd S (.lst k1)) (h2 : kd S (.lst k2)) : Gd S (H + 3) d := by
  have g := gd_tr S H t ht hs
  obtain ⟨o1, o2, o3, o4⟩ := odd_ok mo S
  have o4' : ∀ ps, od = .tup ps → ps.length ≤ 1000 ∧ ∀ x ∈ ps, Gd S (H + 2) x := fun ps e => ⟨(o4 ps e).1, fun x hx => ((o4 ps e).2 x hx).le (by omega)⟩
  have two : ∀ x ∈ [D.tup xs, D.tup xs], Gd S (H + 2) x := fun x hx => by
    simp at hx; subst hx; rw [← ex]; exact g.up
  unfold some6 some5 at md
  simp only [List.mem_append, List.mem_cons, List.not_mem_nil, or_false] at md
  rcases md with ((rfl | rfl | rfl | rfl | rfl | rfl) | (rfl | rfl | rfl | rfl | rfl)) | rfl
  · -- (od,) + t[1:]
    cases t with
    | lf k o =>
      have ex' : [D.str (Str.ofString "at"), .int k, .int o] = xs := by cases ex; rfl
      subst ex'
      have : A1 = [.int k, .int o] := c1.symm.trans rfl
      subst this
      exact gd_tup o1 (fun x hx => by simp at hx; rcases hx with rfl | rfl <;> exact kd_int _ _) (fun ps e => by simp at e)
    | nd r ps =>
      have ex' : [D.str (kw r), .tup (Tr.ds ps)] = xs := by cases ex; rfl
      subst ex'
      have : A1 = [.tup (Tr.ds ps)] := c1.symm.trans rfl
      subst this
      refine gd_tup o1 (fun x hx => by simp at hx; subst hx; exact kd_tup _ _) (fun qs e => ?_)
      cases e
      have := (g.2 _ _ rfl).2.2 _ rfl
      exact ⟨this.1, fun x hx => (this.2 x hx).le (by omega)⟩
  · cases t with
    | lf k o =>
      have ex' : [D.str (Str.ofString "at"), .int k, .int o] = xs := by cases ex; rfl
      subst ex'
      have a2 : A2 = [.str (Str.ofString "at")] := c2.symm.trans rfl
      have a3 : A3 = [.int o] := c3.symm.trans rfl
      subst a2 a3
      exact gd_tup (sn_str ok_at) (fun x hx => by simp at hx; rcases hx with rfl | rfl; exact o2; exact kd_int _ _) (fun ps e => by simp at e)
    | nd r ps =>
      have ex' : [D.str (kw r), .tup (Tr.ds ps)] = xs := by cases ex; rfl
      subst ex'
      have a2 : A2 = [.str (kw r)] := c2.symm.trans rfl
      have a3 : A3 = [] := c3.symm.trans rfl
      subst a2 a3
      exact gd_tup (sn_str (strOk_kw r)) (fun x hx => by simp at hx; subst hx; exact o2) (fun ps e => by simp at e; exact o4' ps e)
  · cases t with
    | lf k o =>
      have ex' : [D.str (Str.ofString "at"), .int k, .int o] = xs := by cases ex; rfl
      subst ex'
      exact gd_tup (sn_str ok_at) (fun x hx => by simp at hx; rcases hx with rfl | rfl | rfl; exact kd_int _ _; exact kd_int _ _; exact o2) (fun ps e => by simp at e)
    | nd r ps =>
      have ex' : [D.str (kw r), .tup (Tr.ds ps)] = xs := by cases ex; rfl
      subst ex'
      exact gd_tup (sn_str (strOk_kw r)) (fun x hx => by simp at hx; rcases hx with rfl | rfl; exact kd_tup _ _; exact o2) (fun ps e => by simp at e)
  · exact gd_at _ h1 rfl
  · refine gd_tup (sn_str ok_row) (fun x hx => by simp at hx; subst hx; exact kd_tup _ _) (fun ps e => ?_)
    cases e
    refine ⟨by show 1 ≤ 1000; decide, fun x hx => ?_⟩
    simp at hx; subst hx; rw [← ex]; exact g.up
  · exact o3.le (by omega)
  · cases t with
    | lf k o =>
      have ex' : [D.str (Str.ofString "at"), .int k, .int o] = xs := by cases ex; rfl
      subst ex'
      have a4 : A4 = [.str (Str.ofString "at"), .int k] := c4.symm.trans rfl
      subst a4
      exact gd_tup (sn_str ok_at) (fun x hx => by simp at hx; subst hx; exact kd_int _ _) (fun ps e => by simp at e)
    | nd r ps =>
      have ex' : [D.str (kw r), .tup (Tr.ds ps)] = xs := by cases ex; rfl
      subst ex'
      have a4 : A4 = [.str (kw r)] := c4.symm.trans rfl
      subst a4
      exact gd_tup (sn_str (strOk_kw r)) (fun x hx => by cases hx) (fun ps e => by cases e)
  · refine gd_tup (sn_str ok_side) (fun x hx => by simp at hx; subst hx; exact kd_tup _ _) (fun ps e => ?_)
    cases e
    exact ⟨by show 2 ≤ 1000; decide, two⟩
  · exact gd_tup (sn_str ok_row) (fun x hx => by simp at hx; subst hx; exact h2) (fun ps e => by cases e)
  · refine gd_tup (sn_str ok_at) (fun x hx => by simp at hx; subst hx; exact kd_tup _ _) (fun ps e => ?_)
    cases e
    exact ⟨by show 2 ≤ 1000; decide, two⟩
  · refine gd_tup (sn_str ok_side) (fun x hx => by simp at hx; subst hx; exact kd_tup _ _) (fun ps e => ?_)
    cases e
    exact ⟨by show 0 ≤ 1000; decide, fun x hx => by cases hx⟩
  · cases t with
    | lf k o =>
      have ex' : [D.str (Str.ofString "at"), .int k, .int o] = xs := by cases ex; rfl
      subst ex'
      exact gd_tup (h := .int o) (r := [.int k, .str (Str.ofString "at")]) (sn_int _) (fun x hx => by simp at hx; rcases hx with rfl | rfl; exact kd_int _ _; exact ⟨_, rfl⟩) (fun ps e => by simp at e)
    | nd r ps =>
      have ex' : [D.str (kw r), .tup (Tr.ds ps)] = xs := by cases ex; rfl
      subst ex'
      have ht' : Tr.hts ps + 1 ≤ H := ht
      have sn : Sn (.tup (Tr.ds ps)) := sn_tup (by
        refine plain_tup fun y hy => ?_
        rw [ds_map] at hy
        obtain ⟨t, hm, rfl⟩ := List.mem_map.mp hy
        exact plain_tr 17 t 3 (by have := hts_mem hm; omega))
      exact gd_tup (h := .tup (Tr.ds ps)) (r := [.str (kw r)]) sn (fun x hx => by simp at hx; subst hx; exact ⟨_, rfl⟩) (fun ps e => by cases e)
end My
namespace My
open PySem L2
variable {cl : Nat → CLL}
theorem ne_kw (r : Bool) (S : Store) : oNe (.str (kw r)) (.str (Str.ofString "at")) S = .ok (.bl true) S := by
  show R.ok (D.bl (!decide (kw r = Str.ofString "at"))) S = _
  have : decide (kw r = Str.ofString "at") = false := by cases r <;> decide +kernel
  rw [this]; rfl
theorem ne_at (S : Store) : oNe (.str (Str.ofString "at")) (.str (Str.ofString "at")) S = .ok (.bl false) S := by
  show R.ok (D.bl (!decide (Str.ofString "at" = Str.ofString "at"))) S = _
  rw [decide_eq_true rfl]; rfl
theorem bent_leaf {c : CLL} {i : Nat} {k o : Int} {S S1 : Store} {d : D} (e : bentR c [some (.lst i), some (.tup [.str (Str.ofString "at"), .int k, .int o]), none, none, none] S = .rt d S1) :
    b_law_bent_v4 c [some (.lst i), some (.tup [.str (Str.ofString "at"), .int k, .int o]), none, none, none] S = .rt d S1 := by
  rw [bent_eq]
  generalize bentR c = R at *
  simp [ne_at, e]
theorem bent_node0 {c : CLL} {i : Nat} {r : Bool} {P : List D} {S S0 S1 : Store} {d : D} (e0 : c "_law_take" [.lst i, .int 3] S = .ok (.int 0) S0) (e : bentR c [some (.lst i), some (.tup [.str (kw r), .tup P]), none, none, none] S0 = .rt d S1) :
    b_law_bent_v4 c [some (.lst i), some (.tup [.str (kw r), .tup P]), none, none, none] S = .rt d S1 := by
  rw [bent_eq]
  generalize bentR c = R at *
  simp [ne_kw, e0, e]
theorem bent_node1 {c : CLL} {i : Nat} {r : Bool} {P A B : List D} {S S0 S1 S2 : Store} {d x : D} {a b len : Int} (hb : 0 < b) (e0 : c "_law_take" [.lst i, .int 3] S = .ok (.int b) S0) (hl : (P.length : Int) = len) (e1 : c "_law_take" [.lst i, .int len] S0 = .ok (.int a) S1) (ix : atI P a = some x) (e2 : c "_law_bent" [.lst i, x] S1 = .ok d S2) (c1 : cutD P none (some a) = A) (c2 : cutD P (some (a + 1)) none = B) (f1 : A.length + 1 ≤ lim) (f2 : A.length + 1 + B.length ≤ lim) :
    b_law_bent_v4 c [some (.lst i), some (.tup [.str (kw r), .tup P]), none, none, none] S = .rt (.tup [.str (kw r), .tup (A ++ [d] ++ B)]) S2 := by
  rw [bent_eq]
  generalize bentR c = R at *
  simp [ne_kw, e0, hb, hl, e1, ix, e2, c1, c2, f1, f2]
theorem bent_spec (h : Hs_law_bent_v4 cl) (ht : Hs_law_take cl) : ∀ (H : Nat) (t : Tr) {sw : Int}, t.wf sw → t.ht ≤ H → H ≤ 17 → t.sz ≤ 1000 → ∀ (n : Nat) {S : Store} {i : Nat}, StOk S i → ∃ d S1, cl (n + H + 2) "_law_bent" [.lst i, t.d] S = .ok d S1 ∧ Gd S1 (H + 3) d ∧ Kp (· = i) S S1 ∧ StOk S1 i := by
  intro H
  have leaf : ∀ (H n : Nat) (k o : Int) {S : Store} {i : Nat}, H ≤ 17 → StOk S i → ∃ d S1, cl (n + 2) "_law_bent" [.lst i, (Tr.lf k o).d] S = .ok d S1 ∧ Gd S1 (H + 3) d ∧ Kp (· = i) S S1 ∧ StOk S1 i := fun H n k o S i hH st => by
    obtain ⟨od, d, k1, k2, S1, e, mo, md, g1, g2, kp, st1⟩ := bentR_spec ht n (xs := [.str (Str.ofString "at"), .int k, .int o]) rfl rfl rfl rfl (by show 3 ≤ 10; decide) (by show 2 ≤ 10; decide) (by show 1 ≤ 10; decide) (by show 1 ≤ 10; decide) st none
    refine ⟨d, S1, ?_, bent_ok (t := .lf k o) (Nat.zero_le _) hH (by show 1 ≤ 1000; decide) rfl rfl rfl rfl rfl mo md g1 g2, kp, st1⟩
    rw [show n + 2 = (n + 1) + 1 from rfl, h]
    exact run_rt rfl (bent_leaf e)
  induction H with
  | zero =>
    intro t sw wf hh hH hs n S i st
    cases t with
    | lf k o => exact leaf 0 n k o hH st
    | nd r ps => simp [Tr.ht] at hh
  | succ H ih =>
    intro t sw wf hh hH hs n S i st
    cases t with
    | lf k o => exact leaf (H + 1) (n + (H + 1)) k o hH st
    | nd r ps =>
      have hh' : Tr.hts ps + 1 ≤ H + 1 := hh
      have hs' : Tr.szs ps + 1 ≤ 1000 := hs
      have hl := szs_len ps
      have h2 : 2 ≤ ps.length := wf.1
      obtain ⟨b, S0, e0, b0, b1, k0, _, st0⟩ := take_spec ht (n + (H + 1)) st (m := 3) (by decide) (by decide)
      by_cases hb : b = 0
      · subst hb
        obtain ⟨od, d, k1, k2, S1, e, mo, md, g1, g2, kp, st1⟩ := bentR_spec ht (n + (H + 1)) (xs := [.str (kw r), .tup (Tr.ds ps)]) rfl rfl rfl rfl (by show 2 ≤ 10; decide) (by show 1 ≤ 10; decide) (by show 1 ≤ 10; decide) (by show 0 ≤ 10; decide) st0 none
        refine ⟨d, S1, ?_, bent_ok (t := .nd r ps) hh hH hs rfl rfl rfl rfl rfl mo md g1 g2, k0.trans kp, st1⟩
        rw [show n + (H + 1) + 2 = (n + (H + 1) + 1) + 1 from rfl, h]
        exact run_rt rfl (bent_node0 e0 e)
      · have el : ((Tr.ds ps).length : Int) = (ps.length : Int) := by rw [ds_map, List.length_map]
        obtain ⟨a, S1, e1, a0, a1, k1, _, st1⟩ := take_spec ht (n + (H + 1)) st0 (m := (ps.length : Int)) (by omega) (by omega)
        have hal : a.toNat < ps.length := by omega
        have hm : ps[a.toNat] ∈ ps := List.getElem_mem hal
        obtain ⟨d, S2, e2, g2, k2, st2⟩ := ih ps[a.toNat] (wfs_mem wf.2 _ hm) (by have := hts_mem hm; omega) (by omega) (by have := szs_mem hm; omega) n st1
        have ix : atI (Tr.ds ps) a = some ps[a.toNat].d := by
          have z := atI_nat (xs := Tr.ds ps) (j := a.toNat) (v := ps[a.toNat].d) (by rw [ds_map, List.getElem?_map, List.getElem?_eq_getElem hal]; rfl)
          rw [show ((a.toNat : Nat) : Int) = a by omega] at z
          exact z
        have tA : ((Tr.ds ps).take a.toNat).length ≤ 1000 := by rw [ds_map, List.length_take, List.length_map]; omega
        have tB : ((Tr.ds ps).drop (a + 1).toNat).length ≤ 1000 := by rw [ds_map, List.length_drop, List.length_map]; omega
        rw [show n + H + 2 = n + (H + 1) + 1 by omega] at e2
        refine ⟨.tup [.str (kw r), .tup ((Tr.ds ps).take a.toNat ++ [d] ++ (Tr.ds ps).drop (a + 1).toNat)], S2, ?_, ?_, (k0.trans k1).trans k2, st2⟩
        · rw [show n + (H + 1) + 2 = (n + (H + 1) + 1) + 1 from rfl, h]
          exact run_rt rfl (bent_node1 (by omega) e0 el e1 ix e2 (cutD_take _ a0) (cutD_drop _ (by omega)) (by rw [lim_eq]; omega) (by rw [lim_eq]; omega))
        · refine gd_tup (sn_str (strOk_kw r)) (fun x hx => by simp at hx; subst hx; exact kd_tup _ _) (fun qs e => ?_)
          cases e
          refine ⟨?_, fun x hx => ?_⟩
          · rw [List.length_append, List.length_append, List.length_take, List.length_drop, ds_map, List.length_map]
            simp; omega
          · rw [List.append_assoc] at hx
            have tr : ∀ y ∈ Tr.ds ps, Gd S2 (H + 3) y := fun y hy => by
              rw [ds_map] at hy
              obtain ⟨t, hm, rfl⟩ := List.mem_map.mp hy
              exact (gd_tr S2 H t (by have := hts_mem hm; omega) (by have := szs_mem hm; omega)).le (by omega)
            rcases List.mem_append.mp hx with hx | hx
            · exact tr x (List.mem_of_mem_take hx)
            · rcases List.mem_append.mp hx with hx | hx
              · rw [List.mem_singleton.mp hx]; exact g2
              · exact tr x (List.mem_of_mem_drop hx)
structure HT (cl : Nat → CLL) : Prop where
  t : Hs_is_tree cl
  l : Hs_is_lone cl
  p : Hs_has_parts cl
  w : Hs_is_whole cl
  b : Hs_is_bit cl
  c : Hs_law_counted cl
  lw : Hs_law_whole cl
theorem right41 (h : Hs_law_right_v5 cl) (H : HT cl) (n N : Nat) (sw : Int) {S : Store} {d : D} (g : Gd S N d) : ∃ S1, cl (n + N + 5) "_law_right" [.int sw, d] S = .ok (.bl true) S1 ∧ Ex S S1 := by
  obtain ⟨b, S1, e1, x1, i1⟩ := is_tree_spec H.t H.l H.p H.w H.b (n + N) sw g
  have e2 := law_counted_spec H.c H.lw sw N (n + 2) (g.kd (kd_ex x1))
  obtain ⟨b', S2, e3, x2, i2⟩ := is_tree_spec H.t H.l H.p H.w H.b (n + N) sw (g.kd (kd_ex x1))
  have : b' = b := bool_ext (i2.trans i1.symm)
  subst this
  refine ⟨S2, ?_, x1.trans x2⟩
  rw [show n + N + 5 = (n + N + 4) + 1 from rfl, h]
  refine run_rt rfl ?_
  rw [show n + 2 + N + 2 = n + N + 4 by omega] at e2
  generalize cnt sw (N + 1) d = q at *
  obtain ⟨z, hz⟩ : ∃ z : Int, (q : Int) = z := ⟨_, rfl⟩
  rw [hz] at e2
  by_cases a1 : 1 ≤ z
  · by_cases a2 : z ≤ 16
    · have : b' = true := i1.mpr ⟨by omega, by omega⟩
      subst this
      simp [b_law_right_v5, startE, e1, e2, e3, a1, a2]
    · have : b' = false := by
        cases b' with
        | false => rfl
        | true => have := i1.mp rfl; omega
      subst this
      simp [b_law_right_v5, startE, e1, e2, e3, a1, a2]
  · have : b' = false := by
      cases b' with
      | false => rfl
      | true => have := i1.mp rfl; omega
    subst this
    simp [b_law_right_v5, startE, e1, e2, e3, a1]
theorem Kd.kp {S S1 : Store} {i : Nat} (k : Kp (· = i) S S1) (s0 : StOk S i) (s1 : StOk S1 i) : Kd S S1 := by
  obtain ⟨a, b, e, _⟩ := s0
  obtain ⟨a', b', e', _⟩ := s1
  exact kd_kp k (by rw [e']; rfl) (by rw [e]; rfl)
def first6 : List D := [.tup [.str (Str.ofString "row"), .tup (List.replicate 16 (.tup [.str (Str.ofString "at"), .int 0, .int 1]))], .tup [.str (Str.ofString "row"), .tup (List.replicate 17 (.tup [.str (Str.ofString "at"), .int 0, .int 1]))], .tup [.str (Str.ofString "side"), .tup [.tup [.str (Str.ofString "at"), .int 0, .int 1]]], .tup [.str (Str.ofString "at"), .int 0, .int 1], .tup [.str (Str.ofString "at"), .int 1, .int 0], .tup [.str (Str.ofString "row"), .tup []]]
theorem first6_ok (S : Store) : ∀ d ∈ first6, Gd S 2 d := by
  have lf : ∀ k o : Int, Gd S 1 (.tup [.str (Str.ofString "at"), .int k, .int o]) := fun k o => gd_tr S 0 (.lf k o) (Nat.le_refl _) (by show 1 ≤ 1000; decide)
  have nd : ∀ (w : Str) (ps : List D), PyData.strOk w = true → ps.length ≤ 1000 → (∀ x ∈ ps, x = .tup [.str (Str.ofString "at"), .int 0, .int 1]) → Gd S 2 (.tup [.str w, .tup ps]) := fun w ps hw hl hp => gd_tup (sn_str hw) (fun x hx => by simp at hx; subst hx; exact kd_tup _ _) (fun qs e => by
    cases e
    exact ⟨hl, fun x hx => by rw [hp x hx]; exact lf 0 1⟩)
  intro d hd
  unfold first6 at hd
  simp only [List.mem_cons, List.not_mem_nil, or_false] at hd
  rcases hd with rfl | rfl | rfl | rfl | rfl | rfl
  · exact nd _ _ ok_row (by rw [List.length_replicate]; decide) (fun x hx => List.eq_of_mem_replicate hx)
  · exact nd _ _ ok_row (by rw [List.length_replicate]; decide) (fun x hx => List.eq_of_mem_replicate hx)
  · exact nd _ _ ok_side (by show 1 ≤ 1000; decide) (fun x hx => List.mem_singleton.mp hx)
  · exact (lf 0 1).up
  · exact (lf 1 0).up
  · exact nd _ _ ok_row (by show 0 ≤ 1000; decide) (fun x hx => by cases hx)
end My
namespace My
open PySem L2
variable {cl : Nat → CLL}
theorem comp_ex {w : Watch} {t : Tgt} {c : C} {ρ0 : Env1} (P : List D → Store → Prop) (hw : ∀ l S, P l S → okW w S) : ∀ (items : List D) (acc : List D) {S : Store}, P acc S →
    (∀ d ∈ items, ∀ acc S, P acc S → ∃ ρ1, bindT t d ρ0 = some ρ1 ∧ ∃ y S1, c ρ1 S = .ok y S1 ∧ P (acc ++ [y]) S1) → ∃ ds S', loopC w t (fun _ => ret true) c ρ0 items S = .ok ds S' ∧ ds.length = items.length ∧ P (acc ++ ds) S'
  | [], acc, S, h0, hs => ⟨[], S, by unfold loopC; rw [if_pos (hw _ S h0)], rfl, by rw [List.append_nil]; exact h0⟩
  | d :: ds, acc, S, h0, hs => by
    obtain ⟨ρ1, e1, y, S1, e2, p1⟩ := hs d (by simp) acc S h0
    obtain ⟨ys, S', e3, l3, h3⟩ := comp_ex P hw ds (acc ++ [y]) p1 fun d' hd => hs d' (by simp [hd])
    unfold loopC
    rw [if_pos (hw _ S h0), e1]
    dsimp only
    rw [bnd_ev, ret_ev, rbnd_ok, if_pos rfl, bnd_ev, e2, rbnd_ok, bnd_ev, e3, rbnd_ok]
    exact ⟨y :: ys, S', rfl, by rw [List.length_cons, List.length_cons, l3], by rw [List.append_assoc] at h3; exact h3⟩
theorem boolsOf_true : ∀ l : List D, boolsOf (l.map fun _ => D.bl true) = some (l.map fun _ => true)
  | [] => rfl
  | _ :: r => by
    show (boolsOf (r.map fun _ => D.bl true)).map (true :: ·) = _
    rw [boolsOf_true r]; rfl
theorem all_true {S : Store} {n : Nat} (l : List D) (h : lstAt S n = some (l.map fun _ => D.bl true)) : fBools (fun bs => bs.all id) [.lst n] S = .ok (.bl true) S := by
  unfold fBools
  dsimp only
  rw [h]
  show (match boolsOf (l.map fun _ => D.bl true) with | some bs => R.ok (D.bl (bs.all id)) S | none => .bad) = _
  rw [boolsOf_true]
  have : (l.map fun _ => true).all id = true := by rw [List.all_eq_true]; intro x hx; obtain ⟨_, _, rfl⟩ := List.mem_map.mp hx; rfl
  show R.ok (D.bl ((l.map fun _ => true).all id)) S = _
  rw [this]
theorem l41_run (c : CLL) {sc jd td od : D} {v1 v2 w4 w5 w6 w7 : Option D} {i0 k q : Nat} {r1 r2 r3 sw mo lv : Int} {ds TH bs : List D} {S S1 S2 S3 S4 S5 S6 S7 S9 S10 S11 S12 S13 S14 S15 S16 S17 : Store}
    (e1 : c "_law_state" [sc, jd] S = .ok (.lst i0) S1) (e2 : c "_law_take" [.lst i0, .int 4] S1 = .ok (.int r1) S2) (hsw : 1 + r1 = sw) (h3 : S2 ++ [.lst [.int 4, .int 9, .int 16]] = S3) (e4 : c "_law_take" [.lst i0, .int 3] S3 = .ok (.int r2) S4) (em : oIx (.lst S2.length) (.int r2) S4 = .ok (.int mo) S4)
    (e5 : c "_law_tree" [.lst i0, .int sw, .int mo] S4 = .ok td S5) (e6 : c "contacts_of" [td] S5 = .ok (.int lv) S6) (e7 : c "_law_leaves" [td] S6 = .ok (.lst k) S7) (f7 : fLen [.lst k] S7 = .ok (.int lv) S7) (e8 : c "_law_same" [.int lv, .int lv] S7 = .ok (.bl true) S7)
    (e9 : c "_law_odd" [.lst i0] S7 = .ok od S9) (h10 : S9 ++ [.lst [td, od]] = S10) (e11 : loopC [] .one (fun _ => ret true) (law_v13_e2 c) [none, some (.lst i0), some td] (upD 0 4) S10 = .ok ds S11) (h12 : S11 ++ [.lst ds] = S12) (e13 : oAdd (.lst S9.length) (.lst S11.length) S12 = .ok (.lst q) S13)
    (hq : lstAt S13 q = some TH) (hl : TH.length < lim) (e14 : loopC [(q, TH)] .one (fun _ => ret true) (law_v13_e1 c) [none, some (.int sw)] TH S13 = .ok bs S14) (h15 : S14 ++ [.lst bs] = S15) (e15 : fBools (fun bs => bs.all id) [.lst S14.length] S15 = .ok (.bl true) S15) (e16 : c "_law_take" [.lst i0, .int 4] S15 = .ok (.int r3) S16) (e17 : c "_law_right" [.int (1 + r3), td] S16 = .ok (.bl true) S17) :
    law_v13_l1 c [some sc, v1, v2, some jd, w4, w5, w6, w7] S = .nx [some sc, v1, v2, some jd, some (.lst i0), some (.int sw), some td, some (.lst q)] S17 := by
  have l4 : (upD 0 4).length < lim := by rw [upD_len, lim_eq]; decide
  have u4 : Int.toNat 4 = 4 := rfl
  simp [law_v13_l1, e1, e2, hsw, h3, e4, em, e5, e6, e7, f7, e8, e9, h10, l4, e11, h12, e13, hq, hl, e14, h15, e15, e16, e17]
theorem bents (hb : Hs_law_bent_v4 cl) (ht : Hs_law_take cl) (n : Nat) {t : Tr} {sw : Int} (wf : t.wf sw) (hh : t.ht ≤ 15) (hs : t.sz ≤ 1000) {S : Store} {i : Nat} (st : StOk S i) {od : D} (g0 : Gd S 1 od) :
    ∃ ds S', loopC [] .one (fun _ => ret true) (law_v13_e2 (cl (n + 17))) [none, some (.lst i), some t.d] (upD 0 4) S = .ok ds S' ∧ ds.length = 4 ∧ (∀ d ∈ ds, Gd S' 18 d) ∧ Gd S' 1 od ∧ Kp (· = i) S S' ∧ StOk S' i := by
  obtain ⟨ds, S', e, l, p1, p2, p3, p4⟩ := comp_ex (w := []) (t := .one) (c := law_v13_e2 (cl (n + 17))) (ρ0 := [none, some (.lst i), some t.d]) (fun acc S' => (∀ d ∈ acc, Gd S' 18 d) ∧ Gd S' 1 od ∧ Kp (· = i) S S' ∧ StOk S' i) (fun _ _ _ => okW_nil _) (upD 0 4) [] ⟨fun d hd => (by cases hd), g0, Kp.refl _ _, st⟩
    (fun x _ acc S1 h => by
      obtain ⟨h1, h2, h3, h4⟩ := h
      obtain ⟨d, S2, e2, g2, k2, st2⟩ := bent_spec hb ht 15 t wf hh (by decide) hs n h4
      refine ⟨_, rfl, d, S2, ?_, fun y hy => ?_, h2.kd (Kd.kp k2 h4 st2), h3.trans k2, st2⟩
      · generalize t.d = td at *
        simp [law_v13_e2]; exact e2
      · rcases List.mem_append.mp hy with hy | hy
        · exact (h1 y hy).kd (Kd.kp k2 h4 st2)
        · rw [List.mem_singleton.mp hy]; exact g2)
  rw [List.nil_append] at p1
  exact ⟨ds, S', e, by rw [l, upD_len], p1, p2, p3, p4⟩
theorem rights (hr : Hs_law_right_v5 cl) (H : HT cl) (n : Nat) (sw : Int) {S : Store} {q : Nat} {TH : List D} (hq : lstAt S q = some TH) (g : ∀ d ∈ TH, Gd S 18 d) :
    ∃ S', loopC [(q, TH)] .one (fun _ => ret true) (law_v13_e1 (cl (n + 23))) [none, some (.int sw)] TH S = .ok (TH.map fun _ => .bl true) S' ∧ Ex S S' := by
  obtain ⟨S', e, x⟩ := comp_map (w := [(q, TH)]) (t := .one) (c := law_v13_e1 (cl (n + 23))) (ρ0 := [none, some (.int sw)]) (fun S' => Ex S S') (fun S' x => okW_one (x.lst hq fun z => z)) TH (fun _ => .bl true) (Kp.refl _ _)
    (fun d hd S1 x => by
      obtain ⟨S2, e2, x2⟩ := right41 hr H n 18 sw ((g d hd).kd (kd_ex x))
      exact ⟨_, rfl, S2, by simp [law_v13_e1]; exact e2, x.trans x2⟩)
  exact ⟨S', e, x⟩
theorem oMul_one (x : D) (k : Nat) (S : Store) (h1 : 2 ≤ k) (h2 : k < 1000) : oMul (.tup [x]) (.int (k : Int)) S = .ok (.tup (List.replicate k x)) S := by
  unfold oMul
  dsimp only
  have e : ((k : Int)).toNat = k := by omega
  rw [if_pos ⟨by simp, by omega, by omega, by rw [lim_eq, e]; simp; omega⟩, e, List.flatten_replicate_singleton]
theorem first_run (c : CLL) {sc : D} {S S1 S2 S3 : Store} (h1 : S ++ [.lst first6] = S1) {v : Option D} (e : loopS [(S.length, first6)] (gN 2) (law_v13_l2 c) first6 [some sc, some (.tup [.str (Str.ofString "at"), .int 0, .int 1]), none, none, none, none, none, none] S1 = .nx [some sc, some (.tup [.str (Str.ofString "at"), .int 0, .int 1]), v, none, none, none, none, none] S2)
    {q : Int} {len : Nat} {ρ : Env1} (hsc : fLen [sc] S2 = .ok (.int len) S2) (hq : (if (if (10 : Int) < (len : Int) then 10 else (len : Int)) > 1 then (if (10 : Int) < (len : Int) then 10 else (len : Int)) else 1) = q) (f2 : -4611686018427387904 ≤ q ∧ q < 4611686018427387904)
    (e2 : loopS [] (gN 3) (law_v13_l1 c) (upD 0 q.toNat) [some sc, some (.tup [.str (Str.ofString "at"), .int 0, .int 1]), v, none, none, none, none, none] S2 = .nx ρ S3) :
    b_law_v13 c [some sc, none, none, none, none, none, none, none] S = .rt (.bl true) S3 := by
  have a1 : lstAt S1 S.length = some first6 := by rw [← h1]; exact lstAt_new _ _
  have m16 : ∀ S, oMul (.tup [.tup [.str (Str.ofString "at"), .int 0, .int 1]]) (.int 16) S = .ok (.tup (List.replicate 16 (.tup [.str (Str.ofString "at"), .int 0, .int 1]))) S := fun S => oMul_one _ 16 S (by decide) (by decide)
  have m17 : ∀ S, oMul (.tup [.tup [.str (Str.ofString "at"), .int 0, .int 1]]) (.int 17) S = .ok (.tup (List.replicate 17 (.tup [.str (Str.ofString "at"), .int 0, .int 1]))) S := fun S => oMul_one _ 17 S (by decide) (by decide)
  generalize h16 : List.replicate 16 (D.tup [.str (Str.ofString "at"), .int 0, .int 1]) = L16 at *
  generalize h17 : List.replicate 17 (D.tup [.str (Str.ofString "at"), .int 0, .int 1]) = L17 at *
  have f6 : first6 = [.tup [.str (Str.ofString "row"), .tup L16], .tup [.str (Str.ofString "row"), .tup L17], .tup [.str (Str.ofString "side"), .tup [.tup [.str (Str.ofString "at"), .int 0, .int 1]]], .tup [.str (Str.ofString "at"), .int 0, .int 1], .tup [.str (Str.ofString "at"), .int 1, .int 0], .tup [.str (Str.ofString "row"), .tup []]] := by
    unfold first6; rw [h16, h17]
  rw [f6] at h1 e a1
  simp [b_law_v13, m16, m17, h1, a1, e, hsc, hq, f2, e2]
end My
namespace My
open PySem L2
variable {cl : Nat → CLL}
structure HQ (cl : Nat → CLL) : Prop where
  st : Hs_law_state cl
  ce : Hs_law_cell_at cl
  ta : Hs_law_take cl
  tr : Hs_law_tree cl
  sa : Hs_law_same cl
  co : Hs_contacts_of cl
  le : Hs_law_leaves cl
  od : Hs_law_odd_v3 cl
  be : Hs_law_bent_v4 cl
theorem row41 (hr : Hs_law_right_v5 cl) (H : HT cl) (Q : HQ cl) (n : Nat) (ns : List Int) {sc : D} (hsc : D.rol (ns.map D.int) = sc) (jj : Int) (hj : 0 ≤ jj) (S : Store) (v1 v2 w4 w5 w6 w7 : Option D) :
    ∃ u4 u5 u6 u7 S', law_v13_l1 (cl (n + 29)) [some sc, v1, v2, some (.int jj), w4, w5, w6, w7] S = .nx [some sc, v1, v2, some (.int jj), u4, u5, u6, u7] S' := by
  obtain ⟨S1, e1, x1, st1⟩ := state_spec Q.st Q.ce (n + 27) ns jj hj S
  rw [hsc] at e1
  obtain ⟨i0, hi0⟩ : ∃ i0, S.length = i0 := ⟨_, rfl⟩
  rw [hi0] at e1 st1
  obtain ⟨r1, S2, e2, a1, a2, k2, n2, st2⟩ := take_spec Q.ta (n + 28) st1 (m := 4) (by decide) (by decide)
  obtain ⟨sw, hsw⟩ : ∃ sw, 1 + r1 = sw := ⟨_, rfl⟩
  have x3 := ex_app S2 [.lst [.int 4, .int 9, .int 16]]
  obtain ⟨r2, S4, e4, b1, b2, k4, n4, st4⟩ := take_spec Q.ta (n + 28) (st2.ex x3) (m := 3) (by decide) (by decide)
  have l4 : lstAt S4 S2.length = some [.int 4, .int 9, .int 16] := k4.lst (lstAt_new _ _) (by have := st2.lt; omega)
  obtain ⟨mo, em, mo1, mo2⟩ : ∃ mo, oIx (.lst S2.length) (.int r2) S4 = .ok (.int mo) S4 ∧ 1 ≤ mo ∧ mo ≤ 16 := by
    have e := oIx_lst l4 r2
    have : r2 = 0 ∨ r2 = 1 ∨ r2 = 2 := by omega
    rcases this with rfl | rfl | rfl
    · exact ⟨4, by rw [e]; rfl, by decide, by decide⟩
    · exact ⟨9, by rw [e]; rfl, by decide, by decide⟩
    · exact ⟨16, by rw [e]; rfl, by decide, by decide⟩
  obtain ⟨t, S5, e5, wf, lv, hh, k5, st5⟩ := law_tree_spec Q.tr Q.ta (sw := sw) (by omega) (by omega) 15 mo mo1 (by omega) (by decide) (n + 12) S4 i0 st4
  have sz : t.sz ≤ 1000 := by have := sz_lv t wf; omega
  obtain ⟨S6, e6, x6⟩ := contacts_of_spec Q.co 15 t hh sz (n + 13) S5
  obtain ⟨k, ls, S7, e7, lk, ll, kk, x7⟩ := law_leaves_spec Q.le 15 t hh sz (n + 13) S6
  have f7 := fLen_lst lk
  rw [ll] at f7
  have e8 := same_int Q.sa (n + 28) (t.lv : Int) S7 (by omega)
  have st7 := (st5.ex x6).ex x7
  obtain ⟨od, S9, e9, god, k9, st9⟩ := law_odd_spec Q.od Q.ta (n + 27) st7
  obtain ⟨S10, h10⟩ : ∃ S10, S9 ++ [O.lst [t.d, od]] = S10 := ⟨_, rfl⟩
  have x10 : Ex S9 S10 := by rw [← h10]; exact ex_app _ _
  obtain ⟨ds, S11, e11, ld, gds, god2, k11, st11⟩ := bents Q.be Q.ta (n + 12) wf hh sz (st9.ex x10) (god.kd (kd_ex x10))
  obtain ⟨S12, h12⟩ : ∃ S12, S11 ++ [O.lst ds] = S12 := ⟨_, rfl⟩
  have x12 : Ex S11 S12 := by rw [← h12]; exact ex_app _ _
  have la : lstAt S12 S9.length = some [t.d, od] := x12.lst (k11.lst (show lstAt S10 S9.length = _ by rw [← h10]; exact lstAt_new _ _) (by have := st9.lt; omega)) fun z => z
  have lb : lstAt S12 S11.length = some ds := by rw [← h12]; exact lstAt_new _ _
  have e13 := oAdd_lst la lb (by rw [lim_eq, ld]; show 2 + 4 ≤ 1048576; decide)
  obtain ⟨S13, h13⟩ : ∃ S13, S12 ++ [O.lst ([t.d, od] ++ ds)] = S13 := ⟨_, rfl⟩
  rw [h13] at e13
  have x13 : Ex S12 S13 := by rw [← h13]; exact ex_app _ _
  have hq : lstAt S13 S12.length = some ([t.d, od] ++ ds) := by rw [← h13]; exact lstAt_new _ _
  have hl : ([t.d, od] ++ ds).length < lim := by rw [List.length_append, ld, lim_eq]; show 2 + 4 < 1048576; decide
  have kd13 : Kd S11 S13 := kd_ex (x12.trans x13)
  obtain ⟨S14, e14, x14⟩ := rights hr H (n + 6) sw hq (fun d hd => by
    rcases List.mem_append.mp hd with hd | hd
    · simp only [List.mem_cons, List.not_mem_nil, or_false] at hd
      rcases hd with rfl | rfl
      · exact (gd_tr S13 15 t hh sz).le (by decide)
      · exact (god2.kd kd13).le (by decide)
    · exact (gds d hd).kd kd13)
  obtain ⟨S15, h15⟩ : ∃ S15, S14 ++ [O.lst (([t.d, od] ++ ds).map fun _ => .bl true)] = S15 := ⟨_, rfl⟩
  have x15 : Ex S14 S15 := by rw [← h15]; exact ex_app _ _
  have e15 := all_true (S := S15) (n := S14.length) ([t.d, od] ++ ds) (by rw [← h15]; exact lstAt_new _ _)
  have st15 := (((st11.ex x12).ex x13).ex x14).ex x15
  obtain ⟨r3, S16, e16, c1, c2, k16, n16, st16⟩ := take_spec Q.ta (n + 28) st15 (m := 4) (by decide) (by decide)
  obtain ⟨S17, e17, x17⟩ := right41 hr H (n + 8) 16 (1 + r3) (gd_tr S16 15 t hh sz)
  exact ⟨_, _, _, _, S17, l41_run _ e1 e2 hsw rfl e4 em e5 e6 e7 f7 e8 e9 h10 e11 h12 e13 hq hl e14 h15 e15 e16 e17⟩
theorem law41 (h : Hs_law_v13 cl) (hr : Hs_law_right_v5 cl) (H : HT cl) (Q : HQ cl) (n : Nat) (ns : List Int) : ∃ S', cl (n + 30) "law" [.rol (ns.map D.int)] [] = .ok (.bl true) S' := by
  rw [show n + 30 = (n + 29) + 1 from rfl, h]
  generalize hsc : D.rol (ns.map D.int) = sc
  have hm : ∃ q : Int, (if (if (10 : Int) < (ns.length : Int) then 10 else (ns.length : Int)) > 1 then (if (10 : Int) < (ns.length : Int) then 10 else (ns.length : Int)) else 1) = q ∧ 0 ≤ q ∧ q ≤ 10 := ⟨_, rfl, by split <;> (try split) <;> omega, by split <;> (try split) <;> omega⟩
  obtain ⟨q, hq, q0, q6⟩ := hm
  obtain ⟨lf, hlf⟩ : ∃ lf, D.tup [.str (Str.ofString "at"), .int 0, .int 1] = lf := ⟨_, rfl⟩
  obtain ⟨S1, h1⟩ : ∃ S1, ([] : Store) ++ [O.lst first6] = S1 := ⟨_, rfl⟩
  have a1 : lstAt S1 ([] : Store).length = some first6 := by rw [← h1]; exact lstAt_new _ _
  obtain ⟨ρ1, S2, e1, v, rfl, x2⟩ := loop_inv (w := [(([] : Store).length, first6)]) (g := gN 2) (b := law_v13_l2 (cl (n + 29))) (items := first6)
    (fun j ρ S' => ∃ v, ρ = [some sc, some lf, v, none, none, none, none, none] ∧ Ex S1 S') (ρ := [some sc, some lf, none, none, none, none, none, none]) (S := S1)
    (fun j ρ S' hp => by obtain ⟨v, _, x⟩ := hp; exact okW_one (x.lst a1 fun z => z)) ⟨none, rfl, Kp.refl _ _⟩
    (fun j d ρ S' hd hp => by
      obtain ⟨v, rfl, x⟩ := hp
      obtain ⟨S3, e3, x3⟩ := right41 hr H (n + 22) 2 1 (first6_ok S' d (List.mem_of_getElem? hd))
      refine ⟨_, _, rfl, [some sc, some lf, some d, none, none, none, none, none], S3, .inl ?_, some d, rfl, x.trans x3⟩
      simp only [List.set_cons_succ, List.set_cons_zero]
      simp [law_v13_l2, e3])
  obtain ⟨ρ', S3, e3, w1, w2, w3, w4, w5, w6, w7, rfl⟩ := loop_inv (w := []) (g := gN 3) (b := law_v13_l1 (cl (n + 29))) (items := upD 0 q.toNat)
    (fun j ρ S => ∃ w1 w2 w3 w4 w5 w6 w7, ρ = [some sc, w1, w2, w3, w4, w5, w6, w7]) (ρ := [some sc, some lf, v, none, none, none, none, none]) (S := S2)
    (fun j ρ S hp => okW_nil _) ⟨_, _, _, _, _, _, _, rfl⟩
    (fun j d ρ S hd hp => by
      obtain ⟨w1, w2, w3, w4, w5, w6, w7, rfl⟩ := hp
      rw [upD_get] at hd
      obtain ⟨hj, rfl⟩ := hd
      obtain ⟨u4, u5, u6, u7, S', e⟩ := row41 hr H Q n ns hsc (0 + (j : Int)) (by omega) S w1 w2 w4 w5 w6 w7
      exact ⟨_, _, rfl, _, S', .inl e, _, _, _, _, _, _, _, rfl⟩)
  refine ⟨S3, run_rt rfl ?_⟩
  have f2 : -4611686018427387904 ≤ q ∧ q < 4611686018427387904 := by omega
  have hl : fLen [sc] S2 = .ok (.int (ns.length : Nat)) S2 := by rw [← hsc, fLen_rol, List.length_map]
  subst hlf
  exact first_run _ h1 e1 hl hq f2 e3
end My
set_option maxHeartbeats 4000000
namespace My
open PySem L2
noncomputable def tbl : Tbl := [(("is_whole" : Str), (1, 1, b_is_whole)),
  (("is_bit" : Str), (1, 1, b_is_bit)),
  (("is_lone" : Str), (2, 2, b_is_lone)),
  (("has_parts" : Str), (1, 1, b_has_parts)),
  (("is_tree" : Str), (2, 5, b_is_tree)),
  (("contacts_of" : Str), (1, 1, b_contacts_of)),
  (("_law_cell_at" : Str), (2, 2, b_law_cell_at)),
  (("_law_state" : Str), (2, 3, b_law_state)),
  (("_law_take" : Str), (2, 4, b_law_take)),
  (("_law_whole" : Str), (3, 3, b_law_whole)),
  (("_law_tree" : Str), (3, 6, b_law_tree)),
  (("_law_leaves" : Str), (1, 3, b_law_leaves)),
  (("_law_counted" : Str), (2, 6, b_law_counted)),
  (("_law_odd" : Str), (1, 2, b_law_odd_v3)),
  (("_law_same" : Str), (2, 2, b_law_same)),
  (("_law_right" : Str), (2, 4, b_law_right_v5)),
  (("_law_bent" : Str), (2, 5, b_law_bent_v4)),
  (("law" : Str), (1, 8, b_law_v13))]
def top (i : Nat) : Stmt := PySem.Challenge.pw_contactnets_k41_trees_looked_at.main.body.getD i (.Pass ⟨0, 0, 0, 0⟩)
abbrev s_is_whole : Stmt := top 1
abbrev s_is_bit : Stmt := top 2
abbrev s_is_lone : Stmt := top 4
abbrev s_has_parts : Stmt := top 5
abbrev s_is_tree : Stmt := top 6
abbrev s_contacts_of : Stmt := top 7
abbrev s_law_cell_at : Stmt := top 9
abbrev s_law_state : Stmt := top 10
abbrev s_law_take : Stmt := top 11
abbrev s_law_whole : Stmt := top 12
abbrev s_law_tree : Stmt := top 13
abbrev s_law_leaves : Stmt := top 14
abbrev s_law_counted : Stmt := top 15
abbrev s_law_odd : Stmt := top 16
abbrev s_law_same : Stmt := top 17
abbrev s_law_right : Stmt := top 18
abbrev s_law_bent : Stmt := top 19
abbrev s_law : Stmt := top 20
theorem fk_is_whole : fnOk ["thing"] ["thing"] (defScope s_is_whole) = true := by decide +kernel
theorem hs_is_whole : Hs_is_whole (callT tbl) := fun n => congrFun (show (fun n => callT tbl (n + 1) "is_whole") = fun n => runF 1 1 (b_is_whole (callT tbl n)) by kernel_rfl) n
theorem ck_is_whole : (fun cl : CLL => cSts (arT tbl) cl 60 ⟨["thing"], (defScope s_is_whole).names, true⟩ (defBody s_is_whole)) = fun cl => some (b_is_whole cl) := by kernel_rfl
theorem fk_is_bit : fnOk ["thing"] ["thing"] (defScope s_is_bit) = true := by decide +kernel
theorem hs_is_bit : Hs_is_bit (callT tbl) := fun n => congrFun (show (fun n => callT tbl (n + 1) "is_bit") = fun n => runF 1 1 (b_is_bit (callT tbl n)) by kernel_rfl) n
theorem ck_is_bit : (fun cl : CLL => cSts (arT tbl) cl 60 ⟨["thing"], (defScope s_is_bit).names, true⟩ (defBody s_is_bit)) = fun cl => some (b_is_bit cl) := by kernel_rfl
theorem fk_is_lone : fnOk ["switches", "thing"] ["switches", "thing"] (defScope s_is_lone) = true := by decide +kernel
theorem hs_is_lone : Hs_is_lone (callT tbl) := fun n => congrFun (show (fun n => callT tbl (n + 1) "is_lone") = fun n => runF 2 2 (b_is_lone (callT tbl n)) by kernel_rfl) n
theorem ck_is_lone : (fun cl : CLL => cSts (arT tbl) cl 60 ⟨["switches", "thing"], (defScope s_is_lone).names, true⟩ (defBody s_is_lone)) = fun cl => some (b_is_lone cl) := by kernel_rfl
theorem fk_has_parts : fnOk ["thing"] ["thing"] (defScope s_has_parts) = true := by decide +kernel
theorem hs_has_parts : Hs_has_parts (callT tbl) := fun n => congrFun (show (fun n => callT tbl (n + 1) "has_parts") = fun n => runF 1 1 (b_has_parts (callT tbl n)) by kernel_rfl) n
theorem ck_has_parts : (fun cl : CLL => cSts (arT tbl) cl 60 ⟨["thing"], (defScope s_has_parts).names, true⟩ (defBody s_has_parts)) = fun cl => some (b_has_parts cl) := by kernel_rfl
theorem fk_is_tree : fnOk ["switches", "thing", "waiting", "contacts", "part"] ["switches", "thing"] (defScope s_is_tree) = true := by decide +kernel
theorem hs_is_tree : Hs_is_tree (callT tbl) := fun n => congrFun (show (fun n => callT tbl (n + 1) "is_tree") = fun n => runF 2 5 (b_is_tree (callT tbl n)) by kernel_rfl) n
theorem ck_is_tree : (fun cl : CLL => cSts (arT tbl) cl 60 ⟨["switches", "thing", "waiting", "contacts", "part"], (defScope s_is_tree).names, true⟩ (defBody s_is_tree)) = fun cl => some (b_is_tree cl) := by kernel_rfl
theorem fk_contacts_of : fnOk ["tree"] ["tree"] (defScope s_contacts_of) = true := by decide +kernel
theorem hs_contacts_of : Hs_contacts_of (callT tbl) := fun n => congrFun (show (fun n => callT tbl (n + 1) "contacts_of") = fun n => runF 1 1 (b_contacts_of (callT tbl n)) by kernel_rfl) n
theorem ck_contacts_of : (fun cl : CLL => cSts (arT tbl) cl 60 ⟨["tree"], (defScope s_contacts_of).names, true⟩ (defBody s_contacts_of)) = fun cl => some (b_contacts_of cl) := by kernel_rfl
theorem fk_law_cell_at : fnOk ["_law_script", "_law_k"] ["_law_script", "_law_k"] (defScope s_law_cell_at) = true := by decide +kernel
theorem hs_law_cell_at : Hs_law_cell_at (callT tbl) := fun n => congrFun (show (fun n => callT tbl (n + 1) "_law_cell_at") = fun n => runF 2 2 (b_law_cell_at (callT tbl n)) by kernel_rfl) n
theorem ck_law_cell_at : (fun cl : CLL => cSts (arT tbl) cl 60 ⟨["_law_script", "_law_k"], (defScope s_law_cell_at).names, true⟩ (defBody s_law_cell_at)) = fun cl => some (b_law_cell_at cl) := by kernel_rfl
theorem fk_law_state : fnOk ["_law_script", "_law_k", "_law_cell"] ["_law_script", "_law_k"] (defScope s_law_state) = true := by decide +kernel
theorem hs_law_state : Hs_law_state (callT tbl) := fun n => congrFun (show (fun n => callT tbl (n + 1) "_law_state") = fun n => runF 2 3 (b_law_state (callT tbl n)) by kernel_rfl) n
theorem ck_law_state : (fun cl : CLL => cSts (arT tbl) cl 60 ⟨["_law_script", "_law_k", "_law_cell"], (defScope s_law_state).names, true⟩ (defBody s_law_state)) = fun cl => some (b_law_state cl) := by kernel_rfl
theorem fk_law_take : fnOk ["_law_state_here", "_law_many", "_law_found", "_law_mixed"] ["_law_state_here", "_law_many"] (defScope s_law_take) = true := by decide +kernel
theorem hs_law_take : Hs_law_take (callT tbl) := fun n => congrFun (show (fun n => callT tbl (n + 1) "_law_take") = fun n => runF 2 4 (b_law_take (callT tbl n)) by kernel_rfl) n
theorem ck_law_take : (fun cl : CLL => cSts (arT tbl) cl 60 ⟨["_law_state_here", "_law_many", "_law_found", "_law_mixed"], (defScope s_law_take).names, true⟩ (defBody s_law_take)) = fun cl => some (b_law_take cl) := by kernel_rfl
theorem fk_law_whole : fnOk ["_law_thing", "_law_least", "_law_below"] ["_law_thing", "_law_least", "_law_below"] (defScope s_law_whole) = true := by decide +kernel
theorem hs_law_whole : Hs_law_whole (callT tbl) := fun n => congrFun (show (fun n => callT tbl (n + 1) "_law_whole") = fun n => runF 3 3 (b_law_whole (callT tbl n)) by kernel_rfl) n
theorem ck_law_whole : (fun cl : CLL => cSts (arT tbl) cl 60 ⟨["_law_thing", "_law_least", "_law_below"], (defScope s_law_whole).names, true⟩ (defBody s_law_whole)) = fun cl => some (b_law_whole cl) := by kernel_rfl
theorem fk_law_tree : fnOk ["_law_state_here", "_law_switches", "_law_most", "_law_few", "_law_parts", "_law_less"] ["_law_state_here", "_law_switches", "_law_most"] (defScope s_law_tree) = true := by decide +kernel
theorem hs_law_tree : Hs_law_tree (callT tbl) := fun n => congrFun (show (fun n => callT tbl (n + 1) "_law_tree") = fun n => runF 3 6 (b_law_tree (callT tbl n)) by kernel_rfl) n
theorem ck_law_tree : (fun cl : CLL => cSts (arT tbl) cl 60 ⟨["_law_state_here", "_law_switches", "_law_most", "_law_few", "_law_parts", "_law_less"], (defScope s_law_tree).names, true⟩ (defBody s_law_tree)) = fun cl => some (b_law_tree cl) := by kernel_rfl
theorem fk_law_leaves : fnOk ["_law_tree_here", "_law_found", "_law_one"] ["_law_tree_here"] (defScope s_law_leaves) = true := by decide +kernel
theorem hs_law_leaves : Hs_law_leaves (callT tbl) := fun n => congrFun (show (fun n => callT tbl (n + 1) "_law_leaves") = fun n => runF 1 3 (b_law_leaves (callT tbl n)) by kernel_rfl) n
theorem ck_law_leaves : (fun cl : CLL => cSts (arT tbl) cl 60 ⟨["_law_tree_here", "_law_found", "_law_one"], (defScope s_law_leaves).names, true⟩ (defBody s_law_leaves)) = fun cl => some (b_law_leaves cl) := by kernel_rfl
theorem fk_law_counted : fnOk ["_law_switches", "_law_thing", "_law_good", "_law_total", "_law_one", "_law_many"] ["_law_switches", "_law_thing"] (defScope s_law_counted) = true := by decide +kernel
theorem hs_law_counted : Hs_law_counted (callT tbl) := fun n => congrFun (show (fun n => callT tbl (n + 1) "_law_counted") = fun n => runF 2 6 (b_law_counted (callT tbl n)) by kernel_rfl) n
theorem ck_law_counted : (fun cl : CLL => cSts (arT tbl) cl 60 ⟨["_law_switches", "_law_thing", "_law_good", "_law_total", "_law_one", "_law_many"], (defScope s_law_counted).names, true⟩ (defBody s_law_counted)) = fun cl => some (b_law_counted cl) := by kernel_rfl
theorem fk_law_odd : fnOk ["_law_state_here", "_law_some"] ["_law_state_here"] (defScope s_law_odd) = true := by decide +kernel
theorem hs_law_odd : Hs_law_odd_v3 (callT tbl) := fun n => congrFun (show (fun n => callT tbl (n + 1) "_law_odd") = fun n => runF 1 2 (b_law_odd_v3 (callT tbl n)) by kernel_rfl) n
theorem ck_law_odd : (fun cl : CLL => cSts (arT tbl) cl 60 ⟨["_law_state_here", "_law_some"], (defScope s_law_odd).names, true⟩ (defBody s_law_odd)) = fun cl => some (b_law_odd_v3 cl) := by kernel_rfl
theorem fk_law_same : fnOk ["_law_found", "_law_due"] ["_law_found", "_law_due"] (defScope s_law_same) = true := by decide +kernel
theorem hs_law_same : Hs_law_same (callT tbl) := fun n => congrFun (show (fun n => callT tbl (n + 1) "_law_same") = fun n => runF 2 2 (b_law_same (callT tbl n)) by kernel_rfl) n
theorem ck_law_same : (fun cl : CLL => cSts (arT tbl) cl 60 ⟨["_law_found", "_law_due"], (defScope s_law_same).names, true⟩ (defBody s_law_same)) = fun cl => some (b_law_same cl) := by kernel_rfl
theorem fk_law_right : fnOk ["_law_switches", "_law_thing", "_law_found", "_law_due"] ["_law_switches", "_law_thing"] (defScope s_law_right) = true := by decide +kernel
theorem hs_law_right : Hs_law_right_v5 (callT tbl) := fun n => congrFun (show (fun n => callT tbl (n + 1) "_law_right") = fun n => runF 2 4 (b_law_right_v5 (callT tbl n)) by kernel_rfl) n
theorem ck_law_right : (fun cl : CLL => cSts (arT tbl) cl 60 ⟨["_law_switches", "_law_thing", "_law_found", "_law_due"], (defScope s_law_right).names, true⟩ (defBody s_law_right)) = fun cl => some (b_law_right_v5 cl) := by kernel_rfl
theorem fk_law_bent : fnOk ["_law_state_here", "_law_tree_here", "_law_at", "_law_odd_here", "_law_some"] ["_law_state_here", "_law_tree_here"] (defScope s_law_bent) = true := by decide +kernel
theorem hs_law_bent : Hs_law_bent_v4 (callT tbl) := fun n => congrFun (show (fun n => callT tbl (n + 1) "_law_bent") = fun n => runF 2 5 (b_law_bent_v4 (callT tbl n)) by kernel_rfl) n
theorem ck_law_bent : (fun cl : CLL => cSts (arT tbl) cl 60 ⟨["_law_state_here", "_law_tree_here", "_law_at", "_law_odd_here", "_law_some"], (defScope s_law_bent).names, true⟩ (defBody s_law_bent)) = fun cl => some (b_law_bent_v4 cl) := by kernel_rfl
theorem fk_law : fnOk ["_law_script", "_law_leaf", "_law_thing", "_law_k", "_law_state_here", "_law_switches", "_law_tree_here", "_law_things"] ["_law_script"] (defScope s_law) = true := by decide +kernel
theorem hs_law : Hs_law_v13 (callT tbl) := fun n => congrFun (show (fun n => callT tbl (n + 1) "law") = fun n => runF 1 8 (b_law_v13 (callT tbl n)) by kernel_rfl) n
theorem ck_law : (fun cl : CLL => cSts (arT tbl) cl 60 ⟨["_law_script", "_law_leaf", "_law_thing", "_law_k", "_law_state_here", "_law_switches", "_law_tree_here", "_law_things"], (defScope s_law).names, true⟩ (defBody s_law)) = fun cl => some (b_law_v13 cl) := by kernel_rfl
theorem law_true (ns : List Int) (h : ns.length ≤ 63) : ∃ S', callT tbl 100 "law" [.rol (ns.map D.int)] [] = .ok (.bl true) S' := law41 hs_law hs_law_right ⟨hs_is_tree, hs_is_lone, hs_has_parts, hs_is_whole, hs_is_bit, hs_law_counted, hs_law_whole⟩ ⟨hs_law_state, hs_law_cell_at, hs_law_take, hs_law_tree, hs_law_same, hs_contacts_of, hs_law_leaves, hs_law_odd, hs_law_bent⟩ 70 ns
def DF (K : PySem.W.Frag) (n : Str) (st : Stmt) : Prop := ∃ (f : Addr) (od an : Option Addr) (sl : Array (Option Value)) (oc kV dc pm cd ct : Value), PySem.W.nsIn K mainGlobals n = some (some (.ref f)) ∧ K.lookup f = some ⟨oc, od, .func (PySem.W.fnOf n n (defArgs st) (defBody st) (defScope st) .none kV dc pm an cd ct), sl⟩ ∧ PySem.W.codeIn K cd n = true ∧ PySem.W.keepIn K (.ref f) = true
theorem mkDF {K : PySem.W.Frag} {n : Str} {st : Stmt} {f : Addr} {od an : Option Addr} {sl : Array (Option Value)} {oc kV dc pm cd ct : Value} (a : PySem.W.nsIn K mainGlobals n = some (some (.ref f))) (l : K.lookup f = some ⟨oc, od, .func (PySem.W.fnOf n n (defArgs st) (defBody st) (defScope st) .none kV dc pm an cd ct), sl⟩) (c : PySem.W.codeIn K cd n = true) (k : PySem.W.keepIn K (.ref f) = true) : DF K n st := ⟨f, od, an, sl, oc, kV, dc, pm, cd, ct, a, l, c, k⟩
theorem DF.in {K : PySem.W.Frag} {h : Heap} {mg : Str → Option Value} {n : Str} {st : Stmt} (d : DF K n st) (X : K.In h) (G : h.Ns mainGlobals mg) : ∃ (f : Addr) (kV dc pm : Value) (an : Option Addr) (cd ct : Value), mg n = some (.ref f) ∧ Fun K n n st f (PySem.W.fnOf n n (defArgs st) (defBody st) (defScope st) .none kV dc pm an cd ct) := by
  obtain ⟨f, od, an, sl, oc, kV, dc, pm, cd, ct, a, l, c, k⟩ := d
  exact ⟨f, kV, dc, pm, an, cd, ct, PySem.W.mg_of X G a, fun_mk l c k⟩
def ZN (K : PySem.W.Frag) : List Str → Prop
  | [] => True
  | x :: r => PySem.W.nsIn K mainGlobals x = some none ∧ ZN K r
theorem ZN.none {K : PySem.W.Frag} {h : Heap} {mg : Str → Option Value} (X : K.In h) (G : h.Ns mainGlobals mg) : ∀ {l : List Str}, ZN K l → AllNone mg l
  | [], _ => True.intro
  | _ :: _, z => ⟨PySem.W.mg_none_of X G z.1, z.2.none X G⟩
theorem all_mk {l : PySem.W.OpenLaw} {w : World} {K : PySem.W.Frag} {h : Heap} {mg : Str → Option Value} {fa : Addr} (X : K.In h) (G : h.Ns mainGlobals mg) (hfa : mg "law" = some (.ref fa))
    (d1 : DF K "is_whole" s_is_whole) (d2 : DF K "is_bit" s_is_bit) (d3 : DF K "is_lone" s_is_lone) (d4 : DF K "has_parts" s_has_parts) (d5 : DF K "is_tree" s_is_tree) (d6 : DF K "contacts_of" s_contacts_of) (d7 : DF K "_law_cell_at" s_law_cell_at) (d8 : DF K "_law_state" s_law_state) (d9 : DF K "_law_take" s_law_take) (d10 : DF K "_law_whole" s_law_whole) (d11 : DF K "_law_tree" s_law_tree) (d12 : DF K "_law_leaves" s_law_leaves) (d13 : DF K "_law_counted" s_law_counted) (d14 : DF K "_law_odd" s_law_odd) (d15 : DF K "_law_same" s_law_same) (d16 : DF K "_law_right" s_law_right) (d17 : DF K "_law_bent" s_law_bent) (d18 : DF K "law" s_law) (z : ZN K bltL) :
    ∃ fd : FuncData, (∀ (s : Shared) (v : Value), BindsTo s fd ⟨[v], []⟩ [("_law_script", v)]) ∧ ∀ base : Heap, K.In base → base.Ns mainGlobals mg → FnOk l.prog w K mg base CX0 100 fa fd ["_law_script"] (spL K) := by
  obtain ⟨_, _, _, _, _, _, _, m1, F1⟩ := d1.in X G
  have D1 : DefIn K mg (arT tbl) "is_whole" (1, 1, b_is_whole) := def_in F1 m1 (F1.binds (ps := ["thing"]) fun _ _ _ _ _ _ us hl => match us, hl with | [_], _ => rfl) fk_is_whole ck_is_whole
  obtain ⟨_, _, _, _, _, _, _, m2, F2⟩ := d2.in X G
  have D2 : DefIn K mg (arT tbl) "is_bit" (1, 1, b_is_bit) := def_in F2 m2 (F2.binds (ps := ["thing"]) fun _ _ _ _ _ _ us hl => match us, hl with | [_], _ => rfl) fk_is_bit ck_is_bit
  obtain ⟨_, _, _, _, _, _, _, m3, F3⟩ := d3.in X G
  have D3 : DefIn K mg (arT tbl) "is_lone" (2, 2, b_is_lone) := def_in F3 m3 (F3.binds (ps := ["switches", "thing"]) fun _ _ _ _ _ _ us hl => match us, hl with | [_, _], _ => rfl) fk_is_lone ck_is_lone
  obtain ⟨_, _, _, _, _, _, _, m4, F4⟩ := d4.in X G
  have D4 : DefIn K mg (arT tbl) "has_parts" (1, 1, b_has_parts) := def_in F4 m4 (F4.binds (ps := ["thing"]) fun _ _ _ _ _ _ us hl => match us, hl with | [_], _ => rfl) fk_has_parts ck_has_parts
  obtain ⟨_, _, _, _, _, _, _, m5, F5⟩ := d5.in X G
  have D5 : DefIn K mg (arT tbl) "is_tree" (2, 5, b_is_tree) := def_in F5 m5 (F5.binds (ps := ["switches", "thing"]) fun _ _ _ _ _ _ us hl => match us, hl with | [_, _], _ => rfl) fk_is_tree ck_is_tree
  obtain ⟨_, _, _, _, _, _, _, m6, F6⟩ := d6.in X G
  have D6 : DefIn K mg (arT tbl) "contacts_of" (1, 1, b_contacts_of) := def_in F6 m6 (F6.binds (ps := ["tree"]) fun _ _ _ _ _ _ us hl => match us, hl with | [_], _ => rfl) fk_contacts_of ck_contacts_of
  obtain ⟨_, _, _, _, _, _, _, m7, F7⟩ := d7.in X G
  have D7 : DefIn K mg (arT tbl) "_law_cell_at" (2, 2, b_law_cell_at) := def_in F7 m7 (F7.binds (ps := ["_law_script", "_law_k"]) fun _ _ _ _ _ _ us hl => match us, hl with | [_, _], _ => rfl) fk_law_cell_at ck_law_cell_at
  obtain ⟨_, _, _, _, _, _, _, m8, F8⟩ := d8.in X G
  have D8 : DefIn K mg (arT tbl) "_law_state" (2, 3, b_law_state) := def_in F8 m8 (F8.binds (ps := ["_law_script", "_law_k"]) fun _ _ _ _ _ _ us hl => match us, hl with | [_, _], _ => rfl) fk_law_state ck_law_state
  obtain ⟨_, _, _, _, _, _, _, m9, F9⟩ := d9.in X G
  have D9 : DefIn K mg (arT tbl) "_law_take" (2, 4, b_law_take) := def_in F9 m9 (F9.binds (ps := ["_law_state_here", "_law_many"]) fun _ _ _ _ _ _ us hl => match us, hl with | [_, _], _ => rfl) fk_law_take ck_law_take
  obtain ⟨_, _, _, _, _, _, _, m10, F10⟩ := d10.in X G
  have D10 : DefIn K mg (arT tbl) "_law_whole" (3, 3, b_law_whole) := def_in F10 m10 (F10.binds (ps := ["_law_thing", "_law_least", "_law_below"]) fun _ _ _ _ _ _ us hl => match us, hl with | [_, _, _], _ => rfl) fk_law_whole ck_law_whole
  obtain ⟨_, _, _, _, _, _, _, m11, F11⟩ := d11.in X G
  have D11 : DefIn K mg (arT tbl) "_law_tree" (3, 6, b_law_tree) := def_in F11 m11 (F11.binds (ps := ["_law_state_here", "_law_switches", "_law_most"]) fun _ _ _ _ _ _ us hl => match us, hl with | [_, _, _], _ => rfl) fk_law_tree ck_law_tree
  obtain ⟨_, _, _, _, _, _, _, m12, F12⟩ := d12.in X G
  have D12 : DefIn K mg (arT tbl) "_law_leaves" (1, 3, b_law_leaves) := def_in F12 m12 (F12.binds (ps := ["_law_tree_here"]) fun _ _ _ _ _ _ us hl => match us, hl with | [_], _ => rfl) fk_law_leaves ck_law_leaves
  obtain ⟨_, _, _, _, _, _, _, m13, F13⟩ := d13.in X G
  have D13 : DefIn K mg (arT tbl) "_law_counted" (2, 6, b_law_counted) := def_in F13 m13 (F13.binds (ps := ["_law_switches", "_law_thing"]) fun _ _ _ _ _ _ us hl => match us, hl with | [_, _], _ => rfl) fk_law_counted ck_law_counted
  obtain ⟨_, _, _, _, _, _, _, m14, F14⟩ := d14.in X G
  have D14 : DefIn K mg (arT tbl) "_law_odd" (1, 2, b_law_odd_v3) := def_in F14 m14 (F14.binds (ps := ["_law_state_here"]) fun _ _ _ _ _ _ us hl => match us, hl with | [_], _ => rfl) fk_law_odd ck_law_odd
  obtain ⟨_, _, _, _, _, _, _, m15, F15⟩ := d15.in X G
  have D15 : DefIn K mg (arT tbl) "_law_same" (2, 2, b_law_same) := def_in F15 m15 (F15.binds (ps := ["_law_found", "_law_due"]) fun _ _ _ _ _ _ us hl => match us, hl with | [_, _], _ => rfl) fk_law_same ck_law_same
  obtain ⟨_, _, _, _, _, _, _, m16, F16⟩ := d16.in X G
  have D16 : DefIn K mg (arT tbl) "_law_right" (2, 4, b_law_right_v5) := def_in F16 m16 (F16.binds (ps := ["_law_switches", "_law_thing"]) fun _ _ _ _ _ _ us hl => match us, hl with | [_, _], _ => rfl) fk_law_right ck_law_right
  obtain ⟨_, _, _, _, _, _, _, m17, F17⟩ := d17.in X G
  have D17 : DefIn K mg (arT tbl) "_law_bent" (2, 5, b_law_bent_v4) := def_in F17 m17 (F17.binds (ps := ["_law_state_here", "_law_tree_here"]) fun _ _ _ _ _ _ us hl => match us, hl with | [_, _], _ => rfl) fk_law_bent ck_law_bent
  obtain ⟨_, kV, dc, pm, an, cd, ct, m18, F18⟩ := d18.in X G
  have D18 : DefIn K mg (arT tbl) "law" (1, 8, b_law_v13) := def_in F18 m18 (F18.binds (ps := ["_law_script"]) fun _ _ _ _ _ _ us hl => match us, hl with | [_], _ => rfl) fk_law ck_law
  have e := hfa.symm.trans m18
  cases e
  have A : AllIn K mg (arT tbl) tbl := And.intro D1 (And.intro D2 (And.intro D3 (And.intro D4 (And.intro D5 (And.intro D6 (And.intro D7 (And.intro D8 (And.intro D9 (And.intro D10 (And.intro D11 (And.intro D12 (And.intro D13 (And.intro D14 (And.intro D15 (And.intro D16 (And.intro D17 (And.intro D18 (True.intro))))))))))))))))))
  refine ⟨PySem.W.fnOf "law" "law" (defArgs s_law) (defBody s_law) (defScope s_law) .none kV dc pm an cd ct, fun s v => .of_eq rfl, fun base _ _ => ?_⟩
  exact law_ok (L := 99) (fun x p e => A.look x p e) (fun y hy _ => (z.none X G).mem y hy) (by kernel_rfl) F18 fk_law rfl (fun cl => congrFun ck_law cl) (fun ns h => law_true ns h)
end My
open PySem PySem.W PyProof.Rows
set_option maxRecDepth 100000 in
set_option maxHeartbeats 0 in
theorem PySem.Challenge.cw_contactnets_k41_trees_looked_at_holds : PySem.Challenge.rw_contactnets_k41_trees_looked_at.Holds := by
  w_on; o_law; k_head; (case hw => w_witness2)
  k_fill
  refine L2.walk_ev (L := 100) (l := PySem.Challenge.rw_contactnets_k41_trees_looked_at) rfl rfl ⟨rfl, by decide, by decide, rfl⟩ (fun w h Y => PySem.W.kIn_of Y) ?F
  case F =>
    intro w mg fa h KX G hmg
    refine' My.all_mk KX G hmg (My.mkDF ?a1 ?l1 ?c1 ?k1) (My.mkDF ?a2 ?l2 ?c2 ?k2) (My.mkDF ?a3 ?l3 ?c3 ?k3) (My.mkDF ?a4 ?l4 ?c4 ?k4) (My.mkDF ?a5 ?l5 ?c5 ?k5) (My.mkDF ?a6 ?l6 ?c6 ?k6) (My.mkDF ?a7 ?l7 ?c7 ?k7) (My.mkDF ?a8 ?l8 ?c8 ?k8) (My.mkDF ?a9 ?l9 ?c9 ?k9) (My.mkDF ?a10 ?l10 ?c10 ?k10) (My.mkDF ?a11 ?l11 ?c11 ?k11) (My.mkDF ?a12 ?l12 ?c12 ?k12) (My.mkDF ?a13 ?l13 ?c13 ?k13) (My.mkDF ?a14 ?l14 ?c14 ?k14) (My.mkDF ?a15 ?l15 ?c15 ?k15) (My.mkDF ?a16 ?l16 ?c16 ?k16) (My.mkDF ?a17 ?l17 ?c17 ?k17) (My.mkDF ?a18 ?l18 ?c18 ?k18) ⟨?z1, ?z2, ?z3, ?z4, ?z5, ?z6, ?z7, ?z8, ?z9, ?z10, ?z11, ?z12, ?z13, ?z14, ?z15, ?z16, ?z17, ?z18, ?z19, ?z20, True.intro⟩
    (case a1 => k_is)
    (case l1 => k_is)
    (case c1 => k_is)
    (case k1 => k_is)
    (case a2 => k_is)
    (case l2 => k_is)
    (case c2 => k_is)
    (case k2 => k_is)
    (case a3 => k_is)
    (case l3 => k_is)
    (case c3 => k_is)
    (case k3 => k_is)
    (case a4 => k_is)
    (case l4 => k_is)
    (case c4 => k_is)
    (case k4 => k_is)
    (case a5 => k_is)
    (case l5 => k_is)
    (case c5 => k_is)
    (case k5 => k_is)
    (case a6 => k_is)
    (case l6 => k_is)
    (case c6 => k_is)
    (case k6 => k_is)
    (case a7 => k_is)
    (case l7 => k_is)
    (case c7 => k_is)
    (case k7 => k_is)
    (case a8 => k_is)
    (case l8 => k_is)
    (case c8 => k_is)
    (case k8 => k_is)
    (case a9 => k_is)
    (case l9 => k_is)
    (case c9 => k_is)
    (case k9 => k_is)
    (case a10 => k_is)
    (case l10 => k_is)
    (case c10 => k_is)
    (case k10 => k_is)
    (case a11 => k_is)
    (case l11 => k_is)
    (case c11 => k_is)
    (case k11 => k_is)
    (case a12 => k_is)
    (case l12 => k_is)
    (case c12 => k_is)
    (case k12 => k_is)
    (case a13 => k_is)
    (case l13 => k_is)
    (case c13 => k_is)
    (case k13 => k_is)
    (case a14 => k_is)
    (case l14 => k_is)
    (case c14 => k_is)
    (case k14 => k_is)
    (case a15 => k_is)
    (case l15 => k_is)
    (case c15 => k_is)
    (case k15 => k_is)
    (case a16 => k_is)
    (case l16 => k_is)
    (case c16 => k_is)
    (case k16 => k_is)
    (case a17 => k_is)
    (case l17 => k_is)
    (case c17 => k_is)
    (case k17 => k_is)
    (case a18 => k_is)
    (case l18 => k_is)
    (case c18 => k_is)
    (case k18 => k_is)
    (case z1 => k_is)
    (case z2 => k_is)
    (case z3 => k_is)
    (case z4 => k_is)
    (case z5 => k_is)
    (case z6 => k_is)
    (case z7 => k_is)
    (case z8 => k_is)
    (case z9 => k_is)
    (case z10 => k_is)
    (case z11 => k_is)
    (case z12 => k_is)
    (case z13 => k_is)
    (case z14 => k_is)
    (case z15 => k_is)
    (case z16 => k_is)
    (case z17 => k_is)
    (case z18 => k_is)
    (case z19 => k_is)
    (case z20 => k_is)
