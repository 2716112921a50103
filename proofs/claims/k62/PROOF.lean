import PyProof.Rows.All
import Wide.All
import OpenK.AllK
import Wide.FinOn
import Lean
import PyProof.EqAt
import PyProof.EqKinds
import PyProof.TupleCall
import PySem.SetOps
import KE.KDictSum
import KE.KDictList
import PyProof.ZipIter
import KE.KFind
import PyProof.MaxThree
import PyProof.Rows.IntMath
import PyProof.EnumMake
import PyProof.Rows.EnumRows
import PyProof.DictWalks
import PyProof.Rows.SortRuns
import KE.KSortKey
import PySem.Challenge.RW_hookrail_k62_ring_lacks
set_option Elab.async false
set_option linter.all false
set_option maxRecDepth 100000
namespace L2
open PySem PySem.Spec PyProof.Rows
abbrev Key := Sum Int Str
def keyIs : Key → Value → Bool
  | .inl k, v => Value.isInt k v
  | .inr x, v => Value.isStrOf x v
def keyH (w : World) : Key → Int
  | .inl k => hashInt k
  | .inr x => hashStr w x
theorem keyIs_shape : ∀ {k : Key} {v : Value}, keyIs k v = true → (∃ i t, k = Sum.inl i ∧ v = Value.int i t) ∨ (∃ x t, k = Sum.inr x ∧ v = Value.str x t)
  | .inl i, v, h => by
    obtain ⟨t, e⟩ := Value.isInt_shape (k := i) (v := v) h
    exact .inl ⟨i, t, rfl, e⟩
  | .inr x, v, h => by
    obtain ⟨t, e⟩ := Value.isStrOf_shape (x := x) (v := v) h
    exact .inr ⟨x, t, rfl, e⟩
theorem key_ll (a b : Int) : decide ((Sum.inl a : Key) = Sum.inl b) = (a == b) := by
  by_cases e : a = b
  · subst e; simp
  · have h : ¬ (Sum.inl a : Key) = Sum.inl b := fun q => e (Sum.inl.inj q)
    rw [decide_eq_false h]
    exact (beq_eq_false_iff_ne.mpr e).symm
theorem key_rr (a b : Str) : decide ((Sum.inr a : Key) = Sum.inr b) = decide (a = b) := by
  by_cases e : a = b
  · subst e; simp
  · have h : ¬ (Sum.inr a : Key) = Sum.inr b := fun q => e (Sum.inr.inj q)
    rw [decide_eq_false h, decide_eq_false e]
theorem key_lr (a : Int) (b : Str) : decide ((Sum.inl a : Key) = Sum.inr b) = false := decide_eq_false (fun q => nomatch q)
theorem key_rl (a : Str) (b : Int) : decide ((Sum.inr a : Key) = Sum.inl b) = false := decide_eq_false (fun q => nomatch q)
def mixKind (prog : Program) (w : World) : PySem.KeyKind prog w Key where
  is := keyIs
  hash := keyH w
  inj := fun v a b ha hb => by
    rcases keyIs_shape ha with ⟨i, t, rfl, rfl⟩ | ⟨x, t, rfl, rfl⟩
    · rcases keyIs_shape hb with ⟨j, u, rfl, e⟩ | ⟨y, u, rfl, e⟩
      · injection e with e1 _; rw [e1]
      · exact nomatch e
    · rcases keyIs_shape hb with ⟨j, u, rfl, e⟩ | ⟨y, u, rfl, e⟩
      · exact nomatch e
      · injection e with e1 _; rw [e1]
  byValue := fun k v h => by
    rcases keyIs_shape h with ⟨i, t, rfl, rfl⟩ | ⟨x, t, rfl, rfl⟩ <;> rfl
  pyHash := fun hv h => by
    rcases keyIs_shape hv with ⟨i, t, rfl, rfl⟩ | ⟨x, t, rfl, rfl⟩
    · exact wpAny_pyHash_int h
    · exact wpAny_pyHash_str h
  eqBool := fun hu hv h => by
    rcases keyIs_shape hu with ⟨i, t, rfl, rfl⟩ | ⟨x, t, rfl, rfl⟩
    · rcases keyIs_shape hv with ⟨j, u, rfl, rfl⟩ | ⟨y, u, rfl, rfl⟩
      · rw [key_ll] at h; exact wpAny_eqBool_int h
      · rw [key_lr] at h; exact SeqAt.EqAt.int_str i t y u _ _ _ _ h
    · rcases keyIs_shape hv with ⟨j, u, rfl, rfl⟩ | ⟨y, u, rfl, rfl⟩
      · rw [key_rl] at h; exact SeqAt.EqAt.str_int x t j u _ _ _ _ h
      · rw [key_rr] at h; exact wpAny_eqBool_str h
  «strs» := fun k x t v h => by
    rcases keyIs_shape h with ⟨i, u, rfl, e⟩ | ⟨y, u, rfl, e⟩
    · exact nomatch e
    · injection e with e1 _
      subst e1
      cases v <;> rfl
end L2
namespace L2
open PySem PySem.Spec PyProof.Rows
inductive V where
  | non | bl (b : Bool) | int (i : Int) | str (x : Str) | byt (b : Array UInt8) | flt (b : UInt64) | ref (a : Addr) | ty (n : String)
  deriving DecidableEq
def RelV : V → Value → Prop
  | .non, u => u = Value.none
  | .bl b, u => u = Value.bool b
  | .int i, u => ∃ t, u = Value.int i t
  | .str x, u => ∃ t, u = Value.str x t
  | .byt b, u => ∃ t, u = Value.bytes b t
  | .flt b, u => ∃ t, u = Value.float b t
  | .ref a, u => u = Value.ref a
  | .ty n, u => u = Value.type n
abbrev Vals : List V → List Value → Prop := Paired RelV
theorem Vals.length {xs : List V} {us : List Value} (r : Vals xs us) : xs.length = us.length := Paired.length r
theorem Vals.get : ∀ {xs : List V} {us : List Value} {i : Nat} {x : V}, Vals xs us → xs[i]? = some x → ∃ u, us[i]? = some u ∧ RelV x u
  | _, _, _, _, .nil, e => by simp at e
  | _, _, 0, _, .cons r _, e => by simp at e; subst e; exact ⟨_, rfl, r⟩
  | _, _, i + 1, x, .cons _ t, e => by
    obtain ⟨u, h1, h2⟩ := Vals.get (i := i) (x := x) t (by simpa using e)
    exact ⟨u, by simpa using h1, h2⟩
theorem Vals.set {x : V} {u : Value} (r : RelV x u) : ∀ {xs : List V} {us : List Value} (i : Nat), Vals xs us → Vals (xs.set i x) (us.set i u)
  | _, _, _, .nil => .nil
  | _, _, 0, .cons _ t => .cons r t
  | _, _, i + 1, .cons q t => .cons q (Vals.set r i t)
theorem Vals.append : ∀ {xs ys : List V} {us ws : List Value}, Vals xs us → Vals ys ws → Vals (xs ++ ys) (us ++ ws)
  | _, _, _, _, .nil, s => s
  | _, _, _, _, .cons r t, s => .cons r (Vals.append t s)
theorem Vals.take : ∀ {xs : List V} {us : List Value} (n : Nat), Vals xs us → Vals (xs.take n) (us.take n)
  | _, _, 0, _ => .nil
  | _, _, _ + 1, .nil => .nil
  | _, _, n + 1, .cons r t => .cons r (Vals.take n t)
theorem Vals.drop : ∀ {xs : List V} {us : List Value} (n : Nat), Vals xs us → Vals (xs.drop n) (us.drop n)
  | _, _, 0, r => r
  | _, _, _ + 1, .nil => .nil
  | _, _, n + 1, .cons _ t => Vals.drop n t
def RelO : Option V → Option Value → Prop
  | some v, some u => RelV v u
  | none, none => True
  | _, _ => False
def KV {κ : Type} : List (κ × V) → List (κ × Value) → Prop := Paired fun (p : κ × V) (q : κ × Value) => p.1 = q.1 ∧ RelV p.2 q.2
def kV : Key → V
  | .inl i => .int i
  | .inr x => .str x
inductive HO where
  /-- a list -/
  | lst (xs : List V)
  /-- a tuple (never changes) -/
  | tup (xs : List V)
  /-- a dict whose keys are ints and texts; one whose keys are tuples of ints and texts (the empty one is both) -/
  | dK (kvs : List (Key × V)) | dT (kvs : List (List Key × V))
  /-- a set of ints: its members, its size -/
  | set (S : Int → Bool) (n : Nat)
  /-- an instance of the class at C, its dict at dx, its attributes -/
  | ins (C dx : Addr) (fs : List (Str × V))
  /-- the dict of the instance at x -/
  | own (x : Addr)
  /-- the dict of an exception -/
  | xd (fs : List (Str × V))
  /-- a bound method, f of x -/
  | met (f x : Addr)
  /-- a range object lo, lo + 1, .. below hi -/
  | rng (lo hi : Int)
  /-- a thing that is known to the object (the script; a dict while a loop walks it): read, never written while it is so -/
  | frz (o : Obj) (u : HO)
  /-- a code object's table -/
  | tbl (ps : Array Value)
  /-- any other thing, by what is true of its one object (a def of one's own: SetO a S n := HO.ext fun h => ..) -/
  | ext (φ : Heap → Prop)
abbrev Hp := Addr → Option HO
def upd (H : Hp) (a : Addr) (o : HO) : Hp := fun b => if b = a then some o else H b
theorem upd_same {H : Hp} {a : Addr} {o : HO} : upd H a o a = some o := by unfold upd; rw [if_pos rfl]
theorem upd_ne {H : Hp} {a b : Addr} {o : HO} (h : b ≠ a) : upd H a o b = H b := by unfold upd; rw [if_neg h]
theorem ne_of_none {H : Hp} {a b : Addr} {o : HO} (h : H a = some o) (h' : H b = none) : a ≠ b := by
  intro e; subst e; rw [h] at h'; cases h'
section
variable (P : Program) (w : World)
def ObjOk (H : Hp) (h : Heap) (a : Addr) : HO → Prop
  | .lst xs => xs.length ≤ sizeLine ∧ ∃ (its : List Value) (n : Nat), Vals xs its ∧ h.get? a = some { cls := .type "list", data := .seq its.toArray n }
  | .tup xs => xs.length ≤ sizeLine ∧ ∃ its : List Value, Vals xs its ∧ IsTup h a its.toArray
  | .dK kvs => kvs.length ≤ sizeLine ∧ (a == sysModules) = false ∧ ∃ vs, KV kvs vs ∧ h.DictOf (mixKind P w) a vs
  | .dT kvs => kvs.length ≤ sizeLine ∧ (a == sysModules) = false ∧ ∃ xs : List (List Key × Addr × Value),
      Paired (fun (p : List Key × V) (q : List Key × Addr × Value) => p.1 = q.1 ∧ H q.2.1 = some (.tup (p.1.map kV)) ∧ RelV p.2 q.2.2) kvs xs ∧
      ∃ o es ep, h.get? a = some o ∧ o.ExactDict ∧ o.data = .dict es ep ∧ es.toList = xs.map (entryOfKey (tupleKind (mixKind P w))) ∧ (xs.map (·.1)).Nodup
  | .set S n => h.SetOf (intKind P w) a S n
  | .ins C dx fs => H dx = some (.own a) ∧ fs.length ≤ 1000 ∧ dx ≠ a ∧ h.get? a = some (PySem.W.instObj C dx) ∧
      ∃ mA, h.Ns1 dx mA ∧ (∀ f, RelO (fs.lookup f) (mA f)) ∧ PySem.Within mA (fs.map (·.1))
  | .own _ => ∃ o, h.get? a = some o
  | .xd fs => ∃ mA, h.Ns1 a mA ∧ ∀ f, RelO (fs.lookup f) (mA f)
  | .rng lo hi => ∃ t u v, h.get? a = some { cls := .type "range", data := .fields #[.int lo t, .int hi u, .int 1 v] }
  | .frz o u => h.get? a = some o ∧ ObjOk H h a u
  | .tbl ps => h.get? a = some { cls := .none, data := .fields ps }
  | .met f x => h.get? a = some (PySem.W.methodObj (.ref f) (.ref x))
  | .ext φ => φ h ∧ (∃ o, h.get? a = some o) ∧ ∀ h1 h2 : Heap, φ h1 → (∀ o, h1.get? a = some o → h2.get? a = some o) → φ h2
def HOk (H : Hp) (h : Heap) : Prop := ∀ a o, H a = some o → ObjOk P w H h a o
end
section
variable {P : Program} {w : World} {H H' : Hp} {h h' : Heap} {a : Addr} {o : HO}
theorem ObjOk.lt (x : ObjOk P w H h a o) : a < h.objs.size := by
  cases o with
  | lst xs => obtain ⟨_, _, _, _, e⟩ := x; exact Heap.lt_size e
  | tup xs => obtain ⟨_, _, _, p⟩ := x; exact p.lt
  | dK kvs => obtain ⟨_, _, _, _, o, _, _, e, _⟩ := x; exact Heap.lt_size e
  | dT kvs => obtain ⟨_, _, _, _, o, _, _, e, _⟩ := x; exact Heap.lt_size e
  | set S n => obtain ⟨o, _, _, _, e, _⟩ := x; exact Heap.lt_size e
  | ins C dx fs => obtain ⟨_, _, _, e, _⟩ := x; exact Heap.lt_size e
  | own y => obtain ⟨_, e⟩ := x; exact Heap.lt_size e
  | xd fs => obtain ⟨_, ⟨_, _, _, e, _⟩, _⟩ := x; exact Heap.lt_size e
  | rng lo hi => obtain ⟨_, _, _, e⟩ := x; exact Heap.lt_size e
  | frz ob u => obtain ⟨e, _⟩ := x; exact Heap.lt_size e
  | tbl ps => exact Heap.lt_size (show h.get? a = some _ from x)
  | met f y => exact Heap.lt_size (show h.get? a = some _ from x)
  | ext φ => obtain ⟨_, ⟨_, e⟩, _⟩ := x; exact Heap.lt_size e
theorem Paired.mapP {α β : Type} {F G : α → β → Prop} : ∀ {l₁ : List α} {l₂ : List β}, Paired F l₁ l₂ → (∀ a b, F a b → G a b) → Paired G l₁ l₂
  | _, _, .nil, _ => .nil
  | _, _, .cons r t, f => .cons (f _ _ r) (Paired.mapP t f)
theorem ObjOk.stay (x : ObjOk P w H h a o) (k : ∀ b u, (b = a ∨ H b = some (.own a)) → h.get? b = some u → h'.get? b = some u)
    (ho : ∀ b, H b = some (.own a) → H' b = some (.own a)) (ht : ∀ b xs, H b = some (.tup xs) → H' b = some (.tup xs)) : ObjOk P w H' h' a o := by
  induction o with
  | lst xs => obtain ⟨z, its, n, r, e⟩ := x; exact ⟨z, its, n, r, k _ _ (.inl rfl) e⟩
  | tup xs => obtain ⟨z, its, r, ob, e, c⟩ := x; exact ⟨z, its, r, ob, k _ _ (.inl rfl) e, c⟩
  | dK kvs => obtain ⟨z, y, vs, r, ob, es, ep, e, c⟩ := x; exact ⟨z, y, vs, r, ob, es, ep, k _ _ (.inl rfl) e, c⟩
  | dT kvs =>
    obtain ⟨z, y, xs, r, ob, es, ep, e, c⟩ := x
    exact ⟨z, y, xs, Paired.mapP r fun p q z => ⟨z.1, ht _ _ z.2.1, z.2.2⟩, ob, es, ep, k _ _ (.inl rfl) e, c⟩
  | set S n => obtain ⟨ob, es, ep, t, e, c⟩ := x; exact ⟨ob, es, ep, t, k _ _ (.inl rfl) e, c⟩
  | ins C dx fs =>
    obtain ⟨d, z, ne, e, mA, ⟨od, es, ep, e2, c⟩, r⟩ := x
    exact ⟨ho _ d, z, ne, k _ _ (.inl rfl) e, mA, ⟨od, es, ep, k _ _ (.inr d) e2, c⟩, r⟩
  | own y => obtain ⟨ob, e⟩ := x; exact ⟨ob, k _ _ (.inl rfl) e⟩
  | xd fs => obtain ⟨mA, ⟨od, es, ep, e, c⟩, r⟩ := x; exact ⟨mA, ⟨od, es, ep, k _ _ (.inl rfl) e, c⟩, r⟩
  | rng lo hi => obtain ⟨t, u, v, e⟩ := x; exact ⟨t, u, v, k _ _ (.inl rfl) e⟩
  | frz ob u ih => obtain ⟨e, q⟩ := x; exact ⟨k _ _ (.inl rfl) e, ih q⟩
  | tbl ps =>
    have e : h.get? a = some { cls := .none, data := .fields ps } := x
    show h'.get? a = some { cls := .none, data := .fields ps }
    exact k a _ (.inl rfl) e
  | met f y =>
    have e : h.get? a = some (PySem.W.methodObj (.ref f) (.ref y)) := x
    show h'.get? a = some (PySem.W.methodObj (.ref f) (.ref y))
    exact k a _ (.inl rfl) e
  | ext φ => obtain ⟨p, ⟨o, e⟩, st⟩ := x; exact ⟨st _ _ p fun o q => k _ _ (.inl rfl) q, ⟨o, k _ _ (.inl rfl) e⟩, st⟩
theorem HOk.lt (x : HOk P w H h) (e : H a = some o) : a < h.objs.size := (x a o e).lt
theorem HOk.fresh (x : HOk P w H h) (e : h.objs.size ≤ a) : H a = none := by
  cases q : H a with
  | none => rfl
  | some u => exact absurd (Nat.lt_of_lt_of_le (x.lt q) e) (Nat.lt_irrefl _)
theorem HOk.kept (x : HOk P w H h) (k : ∀ b u, h.get? b = some u → h'.get? b = some u) : HOk P w H h' := fun a o e =>
  (x a o e).stay (fun b u _ q => k b u q) (fun _ q => q) fun _ _ q => q
theorem HOk.laid (x : HOk P w H h) (k : ∀ b u, h.get? b = some u → h'.get? b = some u) (hp : h.objs.size ≤ a) (new : ObjOk P w (upd H a o) h' a o) : HOk P w (upd H a o) h' := fun b u e => by
  have hn := x.fresh hp
  by_cases hb : b = a
  · subst hb; rw [upd_same] at e; cases e; exact new
  · rw [upd_ne hb] at e
    exact (x b u e).stay (fun c v _ q => k c v q) (fun c q => by rw [upd_ne (ne_of_none q hn)]; exact q) fun c xs q => by rw [upd_ne (ne_of_none q hn)]; exact q
end
def Rd (H : Hp) (a : Addr) (u : HO) : Prop := H a = some u ∨ ∃ o, H a = some (.frz o u)
theorem Rd.of {H : Hp} {a : Addr} {u : HO} (h : H a = some u) : Rd H a u := .inl h
theorem Rd.ok {P : Program} {w : World} {H : Hp} {h : Heap} {a : Addr} {u : HO} (r : Rd H a u) (x : HOk P w H h) : ObjOk P w H h a u := by
  rcases r with r | ⟨o, r⟩
  · exact x a u r
  · obtain ⟨_, q⟩ := x a _ r
    exact q
def Mut : Option HO → Prop
  | some (.lst _) => True
  | some (.dK _) => True
  | some (.dT _) => True
  | some (.set _ _) => True
  | some (.ins _ _ _) => True
  | some (.ext _) => True
  | _ => False
section
variable {P : Program} {w : World} {H : Hp} {h h' : Heap} {x e : Addr} {o' : HO}
theorem HOk.write (ok : HOk P w H h) (mu : Mut (H x)) (he : e = x ∨ H e = some (.own x)) (k : ∀ b u, b ≠ e → h.get? b = some u → h'.get? b = some u) (heo : ∃ u, h'.get? e = some u)
    (new : ObjOk P w (upd H x o') h' x o') : HOk P w (upd H x o') h' := fun b u q => by
  have nown : ∀ c y, H c = some (.own y) → c ≠ x := fun c y r z => by subst z; rw [r] at mu; exact mu
  have ntup : ∀ c xs, H c = some (.tup xs) → c ≠ x := fun c xs r z => by subst z; rw [r] at mu; exact mu
  by_cases hb : b = x
  · subst hb; rw [upd_same] at q; cases q; exact new
  · rw [upd_ne hb] at q
    by_cases hbe : b = e
    · have q' : H b = some (.own x) := by
        rcases he with z | z
        · exact absurd (hbe.trans z) hb
        · rw [hbe]; exact z
      rw [q] at q'; cases q'
      obtain ⟨v, hv⟩ := heo
      exact ⟨v, by rw [hbe]; exact hv⟩
    · refine (ok b u q).stay (fun c v hc r => k c v ?_ r) (fun c r => by rw [upd_ne (nown c b r)]; exact r) fun c xs r => by rw [upd_ne (ntup c xs r)]; exact r
      rcases hc with rfl | hc
      · exact hbe
      · rintro rfl
        rcases he with z | z
        · exact nown c b hc z
        · rw [hc] at z; cases z; exact hb rfl
end
structure Un (fs ex : List Addr) (H H' : Hp) (h h' : Heap) : Prop where
  keep : ∀ b o, h.get? b = some o → H b = none → b ∉ fs → b ∉ ex → h'.get? b = some o
  slot : ∀ b o, h.get? b = some o → H b = none → b ∈ fs → b ∉ ex → ∃ sl, h'.get? b = some { o with slots := sl }
  free : ∀ b o, h.get? b = some o → H b = none → b ∉ ex → H' b = none
  there : ∀ b o, h.get? b = some o → b ∉ ex → ∃ o', h'.get? b = some o'
  tups : ∀ b xs, H b = some (.tup xs) → H' b = some (.tup xs)
  frzs : ∀ b o u, H b = some (.frz o u) → H' b = some (.frz o u)
  tbls : ∀ b ps, H b = some (.tbl ps) → ∃ more, H' b = some (.tbl (ps ++ more))
section
variable {fs fs' ex ex' : List Addr} {H H1 H2 : Hp} {h h1 h2 h' : Heap} {a x e : Addr} {o : HO}
theorem Un.any (u : Un fs ex H H1 h h1) {b : Addr} {ob : Obj} (q : h.get? b = some ob) (n : H b = none) (hx : b ∉ ex) : ∃ sl, h1.get? b = some { ob with slots := sl } := by
  by_cases hb : b ∈ fs
  · exact u.slot b ob q n hb hx
  · exact ⟨ob.slots, u.keep b ob q n hb hx⟩
theorem Un.trans (a : Un fs ex H H1 h h1) (b : Un fs ex H1 H2 h1 h2) : Un fs ex H H2 h h2 where
  keep := fun c ob q n hc hx => b.keep c ob (a.keep c ob q n hc hx) (a.free c ob q n hx) hc hx
  slot := fun c ob q n hc hx => by
    obtain ⟨sl, e1⟩ := a.slot c ob q n hc hx
    obtain ⟨sl', e2⟩ := b.slot c _ e1 (a.free c ob q n hx) hc hx
    exact ⟨sl', e2⟩
  free := fun c ob q n hx => by
    obtain ⟨o', e1⟩ := a.there c ob q hx
    exact b.free c o' e1 (a.free c ob q n hx) hx
  there := fun c ob q hx => by
    obtain ⟨o', e1⟩ := a.there c ob q hx
    exact b.there c o' e1 hx
  tups := fun c xs q => b.tups c xs (a.tups c xs q)
  frzs := fun c ob xs q => b.frzs c ob xs (a.frzs c ob xs q)
  tbls := fun c ps q => by
    obtain ⟨m1, e1⟩ := a.tbls c ps q
    obtain ⟨m2, e2⟩ := b.tbls c _ e1
    exact ⟨m1 ++ m2, by rw [e2, Array.append_assoc]⟩
theorem Un.kept (k : ∀ b u, h.get? b = some u → h'.get? b = some u) : Un fs ex H H h h' :=
  ⟨fun b ob q _ _ _ => k b ob q, fun b ob q _ _ _ => ⟨ob.slots, k b ob q⟩, fun _ _ _ n _ => n, fun b ob q _ => ⟨ob, k b ob q⟩, fun _ _ q => q, fun _ _ _ q => q, fun _ ps q => ⟨#[], by rw [q]; simp⟩⟩
theorem Un.refl : Un fs ex H H h h := Un.kept fun _ _ q => q
theorem Un.laid (k : ∀ b u, h.get? b = some u → h'.get? b = some u) (hp : h.objs.size ≤ a) (hn : H a = none) : Un fs ex H (upd H a o) h h' where
  keep := fun b u q _ _ _ => k b u q
  slot := fun b u q _ _ _ => ⟨u.slots, k b u q⟩
  free := fun b u q n _ => by rw [upd_ne (Nat.ne_of_lt (Nat.lt_of_lt_of_le (Heap.lt_size q) hp))]; exact n
  there := fun b u q _ => ⟨u, k b u q⟩
  tups := fun b xs q => by rw [upd_ne (ne_of_none q hn)]; exact q
  frzs := fun b u xs q => by rw [upd_ne (ne_of_none q hn)]; exact q
  tbls := fun b ps q => ⟨#[], by rw [upd_ne (ne_of_none q hn), q]; simp⟩
theorem Un.write (mu : Mut (H x)) (he : e = x ∨ H e = some (.own x)) (k : ∀ b u, b ≠ e → h.get? b = some u → h'.get? b = some u) (heo : ∃ u, h'.get? e = some u) : Un fs ex H (upd H x o) h h' := by
  have hx : ∀ b, H b = none → b ≠ x := fun b n z => by subst z; rw [n] at mu; exact mu
  have hb : ∀ b, H b = none → b ≠ e := fun b n z => by
    subst z
    rcases he with r | r
    · exact hx b n r
    · rw [n] at r; cases r
  have hm : ∀ b u, H b = some u → ¬ Mut (some u) → b ≠ x := fun b u q nm z => by subst z; rw [q] at mu; exact nm mu
  refine ⟨fun b u q n _ _ => k b u (hb b n) q, fun b u q n _ _ => ⟨u.slots, k b u (hb b n) q⟩, fun b u q n _ => by rw [upd_ne (hx b n)]; exact n, fun b u q _ => ?_,
    fun b xs q => by rw [upd_ne (hm b _ q fun z => z)]; exact q, fun b u xs q => by rw [upd_ne (hm b _ q fun z => z)]; exact q, fun b ps q => ⟨#[], by rw [upd_ne (hm b _ q fun z => z), q]; simp⟩⟩
  by_cases hbe : b = e
  · subst hbe; exact heo
  · exact ⟨u, k b u hbe q⟩
theorem Un.mono (u : Un fs ex H H1 h h1) (hs : ∀ b ∈ fs, b ∈ fs') (hx : ∀ b ∈ ex, b ∈ ex') : Un fs' ex' H H1 h h1 :=
  ⟨fun b ob q n hb he => u.keep b ob q n (fun z => hb (hs b z)) fun z => he (hx b z), fun _ _ q n _ he => u.any q n fun z => he (hx _ z), fun b ob q n he => u.free b ob q n fun z => he (hx b z), fun b ob q he => u.there b ob q fun z => he (hx b z), u.tups, u.frzs, u.tbls⟩
end
def trk (h : Heap) (H : Hp) : List Addr := (List.range h.objs.size).filter fun a => (H a).isSome
def hidT (h : Heap) (H : Hp) : Heap := PySem.W.hideAll h (trk h H)
theorem hidT_size (h : Heap) (H : Hp) : (hidT h H).objs.size = h.objs.size := PySem.W.hideAll_size _ _
theorem hidT_get {h : Heap} {H : Hp} {b : Addr} {o : Obj} (e : h.get? b = some o) (n : H b = none) : (hidT h H).get? b = some o :=
  PySem.W.hideAll_get _ e fun hm => by
    have q : (H b).isSome = true := (List.mem_filter.mp hm).2
    rw [n] at q; simp at q
theorem of_hidT {h : Heap} {H : Hp} {b : Addr} {o : Obj} (e : (hidT h H).get? b = some o) : h.get? b = some o ∧ H b = none := by
  have e' : h.get? b = some o := PySem.W.of_hideAll (trk h H) e
  refine ⟨e', ?_⟩
  cases q : H b with
  | none => rfl
  | some x =>
    have hm : b ∈ trk h H := List.mem_filter.mpr ⟨List.mem_range.mpr (Heap.lt_size e'), by simp [q]⟩
    have z : (hidT h H).get? b = none := PySem.W.hideAll_none (trk h H) hm
    rw [z] at e; cases e
def allNews (g h : Heap) (L : Addr) : List (Addr × Obj) := (List.range h.objs.size).filterMap fun a => if a = L ∨ (g.get? a).isSome = true then none else (h.get? a).map fun o => (a, o)
def rest (g h : Heap) (L d : Addr) : List (Addr × Obj) := (allNews g h L).filter fun p => decide (p.1 ≠ d)
end L2
namespace L2
open PySem PySem.Spec PyProof.Rows
structure Mod (K : PySem.W.Frag) (mg : Str → Option Value) (base : Heap) : Prop where
  kin : K.In base
  glob : base.Ns mainGlobals mg
  blt : ∃ mb, base.Ns builtinsNs mb ∧ ∀ x : Str, x ≠ "__name__" → mb x = bootBuiltins x
  nolimit : base.NoLimit
structure Cx where
  prog : Program
  w : World
  K : PySem.W.Frag
  mg : Str → Option Value
  base : Heap
  A : Around
  N : List Str
  s₀ : Shared
  H₀ : Hp
  env : Env
  outer : List Env
  stack : List Env
  ex : List Addr
  fn : Str → Bool
  calm : Bool
  pn : List (Addr × Obj)
  xe : Value → Shared → Prop
def frs (l : List Env) : List Addr := l.filterMap (·.frame)
abbrev Cx.fs (X : Cx) : List Addr := frs X.outer
def Vis (sc : Scope) (x : Str) : Prop := sc.names.lookup x = some .local ∨ sc.names.lookup x = some .cell ∨ sc.names.lookup x = some .free
def Loc (sc : Scope) (x : Str) : Prop := sc.names.lookup x = some .local ∨ sc.names.lookup x = some .cell
def Look (env : Env) (h : Heap) (m : Str → Option Value) (x : Str) (u : Value) : Prop :=
  (env.kindOf x = some .local ∧ m x = some u) ∨ ((env.kindOf x = some .cell ∨ env.kindOf x = some .free) ∧ ∃ c, env.cells.lookup x = some c ∧ h.IsCell c (some u))
structure Cx.Ok (X : Cx) : Prop where
  mod : Mod X.K X.mg X.base
  kind : X.env.scope.kind = .function
  glob : X.env.globals = mainGlobals
  blt : X.env.builtins = builtinsNs
  above : X.s₀.heap.objs.size ≤ X.env.locals
  inj : ∀ x y c, X.env.cells.lookup x = some c → X.env.cells.lookup y = some c → x = y
  has : ∀ x, (X.env.kindOf x = some .cell ∨ X.env.kindOf x = some .free) → ∃ c, X.env.cells.lookup x = some c
  cab : ∀ x c, X.fn x = true → X.env.cells.lookup x = some c → X.s₀.heap.objs.size ≤ c
  hd : X.calm = true → X.A.handled = none
  frames : X.A.frames = some X.stack
  stk : X.stack = X.outer ∨ (X.stack = X.env :: X.outer ∧ X.env.frame = some X.env.locals)
  exf : ∀ b ∈ X.ex, b ≠ X.env.locals ∧ ∀ x c, X.env.cells.lookup x = some c → c ≠ b
  bs : ∀ b o, X.base.get? b = some o → X.s₀.heap.get? b = some o ∧ X.H₀ b = none
  bsz : X.base.objs.size ≤ X.s₀.heap.objs.size
  noex : ∀ b o, X.base.get? b = some o → b ∉ X.ex
  exfs : ∀ b ∈ X.ex, b ∉ X.fs
  funs : X.s₀.heap.FunFrames X.base X.outer
  frf : ∀ b ∈ X.fs, X.H₀ b = none
structure Inv (X : Cx) (pins : List (Addr × Obj)) (σ : List (Option V)) (H : Hp) (s : Shared) : Prop where
  ok : X.Ok
  os : s.os = X.s₀.os
  bare : AllBare s.gens
  base : Un X.fs X.ex X.H₀ H X.s₀.heap s.heap
  loc : ∃ m, s.heap.Ns X.env.locals m ∧ ∀ (i : Nat) (x : Str) (v : V), X.N[i]? = some x → σ[i]? = some (some v) → Vis X.env.scope x → ∃ u, RelV v u ∧ Look X.env s.heap m x u
  cell : ∀ x c, X.env.cells.lookup x = some c → ∃ v, s.heap.IsCell c v
  free : H X.env.locals = none
  freeC : ∀ x c, X.env.cells.lookup x = some c → H c = none
  pin : ∀ p ∈ X.pn ++ pins, s.heap.get? p.1 = some p.2 ∧ H p.1 = none ∧ p.1 ≠ X.env.locals ∧ p.1 ∉ X.fs ∧ ∀ v, p.2.data ≠ .cell v
  hok : HOk X.prog X.w H s.heap
  len : σ.length = X.N.length
section
variable {X : Cx} {pins : List (Addr × Obj)} {σ : List (Option V)} {H H' : Hp} {s : Shared} {h' : Heap}
theorem Cx.Ok.nofr (ok : X.Ok) {b : Addr} {o : Obj} (e : X.base.get? b = some o) : b ∉ X.fs := fun hb => by
  have := (ok.funs.mem hb).1
  rw [e] at this; cases this
theorem Inv.bs (I : Inv X pins σ H s) : ∀ b o, X.base.get? b = some o → s.heap.get? b = some o ∧ H b = none := fun b o e =>
  ⟨I.base.keep b o (I.ok.bs b o e).1 (I.ok.bs b o e).2 (I.ok.nofr e) (I.ok.noex b o e), I.base.free b o (I.ok.bs b o e).1 (I.ok.bs b o e).2 (I.ok.noex b o e)⟩
theorem Inv.bk (I : Inv X pins σ H s) : ∀ b o, X.base.get? b = some o → s.heap.get? b = some o := fun b o e => (I.bs b o e).1
theorem Inv.mod (I : Inv X pins σ H s) : Mod X.K X.mg X.base := I.ok.mod
theorem Inv.kIn (I : Inv X pins σ H s) : X.K.In s.heap := I.ok.mod.kin.keeps I.bk
theorem Inv.nolimit (I : Inv X pins σ H s) : s.heap.NoLimit := I.ok.mod.nolimit.keeps I.bk
theorem Inv.fr (I : Inv X pins σ H s) : ∃ m, Fr X.base X.env.locals s.heap m :=
  let ⟨m, hn, _⟩ := I.loc
  ⟨m, hn, I.bk, Nat.le_trans I.ok.bsz I.ok.above⟩
theorem Inv.lt (I : Inv X pins σ H s) : X.env.locals < s.heap.objs.size := let ⟨_, hn, _⟩ := I.loc; hn.lt
theorem Inv.sz (I : Inv X pins σ H s) : X.s₀.heap.objs.size ≤ s.heap.objs.size := Nat.le_trans I.ok.above (Nat.le_of_lt I.lt)
theorem Inv.nofs (I : Inv X pins σ H s) {a : Addr} (h : s.heap.objs.size ≤ a) : a ∉ X.fs := fun hb => by
  obtain ⟨_, o, ho, _⟩ := I.ok.funs.mem hb
  exact absurd (Nat.lt_of_lt_of_le (Heap.lt_size ho) (Nat.le_trans I.sz h)) (Nat.lt_irrefl _)
theorem Inv.cne (I : Inv X pins σ H s) : ∀ x c, X.env.cells.lookup x = some c → c ≠ X.env.locals := fun x c e z => by
  obtain ⟨v, o, ho, hd⟩ := I.cell x c e
  obtain ⟨m, ⟨o', es, ep, ho', hd', _⟩, _⟩ := I.loc
  rw [z, ho'] at ho; cases ho; rw [hd'] at hd; cases hd
theorem Inv.funs (I : Inv X pins σ H s) : s.heap.FunFrames X.base X.outer := by
  have all : ∀ (l : List Env), (∀ b ∈ frs l, b ∈ X.fs) → X.s₀.heap.FunFrames X.base l → s.heap.FunFrames X.base l := by
    intro l
    induction l with
    | nil => intro _ _; trivial
    | cons env r ih =>
      intro hs hl
      obtain ⟨hk, ⟨L, o, hf, hn, ho, hd⟩, hr⟩ := hl
      have hL : L ∈ X.fs := hs L (by unfold frs; rw [List.filterMap_cons, hf]; exact List.mem_cons_self)
      obtain ⟨sl, e⟩ := I.base.slot L o ho (I.ok.frf L hL) hL fun z => I.ok.exfs L z hL
      exact ⟨hk, ⟨L, _, hf, hn, e, hd⟩, ih (fun b hb => hs b (by unfold frs; rw [List.filterMap_cons, hf]; exact List.mem_cons_of_mem _ hb)) hr⟩
  exact all X.outer (fun _ hb => hb) I.ok.funs
theorem Inv.stack (I : Inv X pins σ H s) : s.heap.FunFrames X.base X.stack := by
  rcases I.ok.stk with e | ⟨e, hf⟩
  · rw [e]; exact I.funs
  · rw [e]
    obtain ⟨m, hn, _⟩ := I.loc
    refine .cons (by rw [I.ok.kind]; decide) hf hn ?_ I.funs
    exact Heap.get?_none_of_le (Nat.le_trans I.ok.bsz I.ok.above)
theorem Inv.stkSub (I : Inv X pins σ H s) : ∀ b ∈ frs X.stack, b ∈ X.env.locals :: X.fs := fun b hb => by
  rcases I.ok.stk with e | ⟨e, hf⟩
  · rw [e] at hb; exact List.mem_cons_of_mem _ hb
  · rw [e] at hb
    unfold frs at hb
    rw [List.filterMap_cons, hf] at hb
    exact hb
theorem Inv.stkFree (I : Inv X pins σ H s) : ∀ b ∈ frs X.stack, H b = none := fun b hb => by
  rcases List.mem_cons.mp (I.stkSub b hb) with e | hb
  · rw [e]; exact I.free
  · obtain ⟨_, o, ho, _⟩ := I.ok.funs.mem hb
    exact I.base.free b o ho (I.ok.frf b hb) fun z => I.ok.exfs b z hb
theorem Inv.step {g' : Array GenState} {t' : Nat} {d' : Drawn} {ch : List Addr} (I : Inv X pins σ H s)
    (hch : ∀ b ∈ ch, (b ∈ X.ex ∨ X.s₀.heap.objs.size ≤ b) ∧ b ≠ X.env.locals ∧ (∀ x c, X.env.cells.lookup x = some c → c ≠ b) ∧ ∀ p ∈ X.pn ++ pins, p.1 ≠ b)
    (keep : ∀ b o, b ≠ X.env.locals → b ∉ X.fs → b ∉ ch → s.heap.get? b = some o → H b = none → h'.get? b = some o)
    (slot : ∀ b o, b ≠ X.env.locals → b ∈ X.fs → b ∉ ch → s.heap.get? b = some o → H b = none → ∃ sl, h'.get? b = some { o with slots := sl }) (free : ∀ b o, b ∉ ch → s.heap.get? b = some o → H b = none → H' b = none)
    (there : ∀ b o, b ∉ ch → s.heap.get? b = some o → ∃ o', h'.get? b = some o')
    (tups : ∀ b xs, H b = some (.tup xs) → H' b = some (.tup xs)) (frzs : ∀ b o u, H b = some (.frz o u) → H' b = some (.frz o u)) (tbls : ∀ b ps, H b = some (.tbl ps) → ∃ more, H' b = some (.tbl (ps ++ more)))
    (ns : ∀ m, s.heap.Ns X.env.locals m → h'.Ns X.env.locals m) (hok : HOk X.prog X.w H' h') (hg : AllBare g') :
    Inv X pins σ H' { s with heap := h', gens := g', drawn := d', toks := t' } := by
  have neL : ∀ b o, X.s₀.heap.get? b = some o → b ≠ X.env.locals := fun b o e => Nat.ne_of_lt (Nat.lt_of_lt_of_le (Heap.lt_size e) I.ok.above)
  have neC : ∀ b o, X.s₀.heap.get? b = some o → b ∉ X.ex → b ∉ ch := fun b o e hx hb => by
    rcases (hch b hb).1 with z | z
    · exact hx z
    · exact absurd (Nat.lt_of_lt_of_le (Heap.lt_size e) z) (Nat.lt_irrefl _)
  have cellK : ∀ x c, X.env.cells.lookup x = some c → ∀ v, s.heap.IsCell c v → h'.IsCell c v := fun x c e v ⟨o, ho, hd⟩ => by
    have nch : c ∉ ch := fun z => (hch c z).2.2.1 x c e rfl
    by_cases hc : c ∈ X.fs
    · obtain ⟨sl, q⟩ := slot c o (I.cne x c e) hc nch ho (I.freeC x c e)
      exact ⟨_, q, hd⟩
    · exact ⟨o, keep c o (I.cne x c e) hc nch ho (I.freeC x c e), hd⟩
  refine ⟨I.ok, I.os, hg, ⟨fun b o e n hb hx => ?_, fun b o e n hb hx => ?_, fun b o e n hx => ?_, fun b o e hx => ?_, fun b xs e => tups b xs (I.base.tups b xs e), fun b o xs e => frzs b o xs (I.base.frzs b o xs e), fun b ps e => ?_⟩, ?_, fun x c e => ?_, ?_, fun x c e => ?_, fun p hp => ?_, hok, I.len⟩
  · exact keep b o (neL b o e) hb (neC b o e hx) (I.base.keep b o e n hb hx) (I.base.free b o e n hx)
  · obtain ⟨sl, e1⟩ := I.base.slot b o e n hb hx
    obtain ⟨sl', e2⟩ := slot b _ (neL b o e) hb (neC b o e hx) e1 (I.base.free b o e n hx)
    exact ⟨sl', e2⟩
  · obtain ⟨o', e1⟩ := I.base.there b o e hx
    exact free b o' (neC b o e hx) e1 (I.base.free b o e n hx)
  · obtain ⟨o', e1⟩ := I.base.there b o e hx
    exact there b o' (neC b o e hx) e1
  · obtain ⟨m1, e1⟩ := I.base.tbls b ps e
    obtain ⟨m2, e2⟩ := tbls b _ e1
    exact ⟨m1 ++ m2, by rw [e2, Array.append_assoc]⟩
  · obtain ⟨m, hn, hl⟩ := I.loc
    refine ⟨m, ns m hn, fun i x v e1 e2 e3 => ?_⟩
    obtain ⟨u, r, l⟩ := hl i x v e1 e2 e3
    refine ⟨u, r, ?_⟩
    rcases l with l | ⟨k, c, e, z⟩
    · exact .inl l
    · exact .inr ⟨k, c, e, cellK x c e _ z⟩
  · obtain ⟨v, z⟩ := I.cell x c e
    exact ⟨v, cellK x c e v z⟩
  · obtain ⟨m, ⟨o, _, _, ho, _⟩, _⟩ := I.loc
    exact free _ o (fun z => (hch _ z).2.1 rfl) ho I.free
  · obtain ⟨v, o, ho, hd⟩ := I.cell x c e
    exact free c o (fun z => (hch c z).2.2.1 x c e rfl) ho (I.freeC x c e)
  · obtain ⟨e, n, ne, nf, d⟩ := I.pin p hp
    have nch : p.1 ∉ ch := fun z => (hch p.1 z).2.2.2 p hp rfl
    exact ⟨keep p.1 p.2 ne nf nch e n, free p.1 p.2 nch e n, ne, nf, d⟩
theorem Inv.un {t' : Nat} (I : Inv X pins σ H s) (u : Un X.fs [] H H' s.heap h') (hok : HOk X.prog X.w H' h') : Inv X pins σ H' { s with heap := h', toks := t' } := by
  obtain ⟨m, ⟨o, es, ep, ho, r⟩, _⟩ := id I.loc
  obtain ⟨sl, hL⟩ := u.any ho I.free (by simp)
  exact I.step (g' := s.gens) (d' := s.drawn) (ch := []) (fun _ z => nomatch z) (fun b o _ hb _ e n => u.keep b o e n hb (by simp)) (fun b o _ hb _ e n => u.slot b o e n hb (by simp)) (fun b o _ e n => u.free b o e n (by simp)) (fun b o _ e => u.there b o e (by simp)) u.tups u.frzs u.tbls (fun m' hm => by
    obtain ⟨o', es', ep', ho', r'⟩ := hm
    rw [ho] at ho'; cases ho'
    exact ⟨_, es', ep', hL, r'⟩) hok I.bare
theorem Inv.call {g' : Array GenState} {t' : Nat} {d' : Drawn} {ch : List Addr} (I : Inv X pins σ H s) (u : Un (frs X.stack) ch H H' s.heap h') (hok : HOk X.prog X.w H' h') (hg : AllBare g')
    (hch : ∀ b ∈ ch, (b ∈ X.ex ∨ X.s₀.heap.objs.size ≤ b) ∧ b ≠ X.env.locals ∧ (∀ x c, X.env.cells.lookup x = some c → c ≠ b) ∧ ∀ p ∈ X.pn ++ pins, p.1 ≠ b) :
    Inv X pins σ H' { s with heap := h', gens := g', drawn := d', toks := t' } := by
  obtain ⟨m, ⟨o, es, ep, ho, r⟩, _⟩ := id I.loc
  obtain ⟨sl, hL⟩ := u.any ho I.free fun z => (hch _ z).2.1 rfl
  exact I.step (ch := ch) hch (fun b o hL hb hc e n => u.keep b o e n (fun z => (List.mem_cons.mp (I.stkSub b z)).elim hL hb) hc) (fun b o _ _ hc e n => u.any e n hc) (fun b o hc e n => u.free b o e n hc) (fun b o hc e => u.there b o e hc) u.tups u.frzs u.tbls (fun m' hm => by
    obtain ⟨o', es', ep', ho', r'⟩ := hm
    rw [ho] at ho'; cases ho'
    exact ⟨_, es', ep', hL, r'⟩) hok hg
theorem Inv.turned {t' : Nat} {it : Addr} (I : Inv X pins σ H s) (k : ∀ b o, b ≠ it → s.heap.get? b = some o → h'.get? b = some o) (hn : H it = none) (hL : it ≠ X.env.locals)
    (h1 : it ∈ X.ex ∨ X.s₀.heap.objs.size ≤ it) (h2 : ∀ x c, X.env.cells.lookup x = some c → c ≠ it) (h3 : ∀ p ∈ X.pn ++ pins, p.1 ≠ it) : Inv X pins σ H { s with heap := h', toks := t' } := by
  have nit : ∀ b u, H b = some u → b ≠ it := fun b u e z => by rw [z, hn] at e; cases e
  refine I.step (g' := s.gens) (d' := s.drawn) (ch := [it]) (fun b hb => ?_) (fun b o _ _ hc e _ => k b o (fun z => hc (by simp [z])) e) (fun b o _ _ hc e _ => ⟨o.slots, k b o (fun z => hc (by simp [z])) e⟩) (fun _ _ _ _ n => n)
    (fun b o hc e => ⟨o, k b o (fun z => hc (by simp [z])) e⟩) (fun _ _ e => e) (fun _ _ _ e => e) (fun b ps e => ⟨#[], by rw [e]; simp⟩) (fun m hm => ?_) (fun b u e => ?_) I.bare
  · have e : b = it := by simpa using hb
    subst e
    exact ⟨h1, hL, h2, h3⟩
  · obtain ⟨o, es, ep, ho, r⟩ := hm
    exact ⟨o, es, ep, k _ o (Ne.symm hL) ho, r⟩
  · refine (I.hok b u e).stay (fun c v hc q => k c v ?_ q) (fun _ q => q) fun _ _ q => q
    rcases hc with z | z
    · rw [z]; exact nit b u e
    · exact nit c _ z
theorem Inv.tok (I : Inv X pins σ H s) (t : Nat) : Inv X pins σ H { s with toks := t } := I.un (h' := s.heap) (t' := t) Un.refl I.hok
theorem Inv.kept {t' : Nat} (I : Inv X pins σ H s) (k : ∀ b u, s.heap.get? b = some u → h'.get? b = some u) : Inv X pins σ H { s with heap := h', toks := t' } := I.un (Un.kept k) (I.hok.kept k)
theorem Inv.laid {a : Addr} {o : HO} {t' : Nat} (I : Inv X pins σ H s) (k : ∀ b u, s.heap.get? b = some u → h'.get? b = some u) (hp : s.heap.objs.size ≤ a) (new : ObjOk X.prog X.w (upd H a o) h' a o) :
    Inv X pins σ (upd H a o) { s with heap := h', toks := t' } := I.un (Un.laid k hp (I.hok.fresh hp)) (I.hok.laid k hp new)
theorem Inv.write {x e : Addr} {o : HO} {t' : Nat} (I : Inv X pins σ H s) (mu : Mut (H x)) (he : e = x ∨ H e = some (.own x)) (k : ∀ b u, b ≠ e → s.heap.get? b = some u → h'.get? b = some u) (heo : ∃ u, h'.get? e = some u)
    (new : ObjOk X.prog X.w (upd H x o) h' x o) : Inv X pins σ (upd H x o) { s with heap := h', toks := t' } := I.un (Un.write mu he k heo) (I.hok.write mu he k heo new)
theorem Inv.pins_of {pins' : List (Addr × Obj)} (I : Inv X pins σ H s) (h : ∀ p ∈ pins', s.heap.get? p.1 = some p.2 ∧ H p.1 = none ∧ p.1 ≠ X.env.locals ∧ p.1 ∉ X.fs ∧ ∀ v, p.2.data ≠ .cell v) : Inv X pins' σ H s :=
  ⟨I.ok, I.os, I.bare, I.base, I.loc, I.cell, I.free, I.freeC, fun p hp => (List.mem_append.mp hp).elim (fun z => I.pin p (List.mem_append_left _ z)) (h p), I.hok, I.len⟩
theorem nodup_ix {N : List Str} (hN : N.Nodup) {i j : Nat} {x : Str} (a : N[i]? = some x) (b : N[j]? = some x) : i = j := by
  obtain ⟨h1, e1⟩ := List.getElem?_eq_some_iff.mp a
  obtain ⟨h2, e2⟩ := List.getElem?_eq_some_iff.mp b
  exact (List.getElem_inj hN).mp (e1.trans e2.symm)
theorem store_ok2 {M : Model} {A : Around} {E : Value → Shared → Prop} {i : Nat} {x : Str} {v : V} {u : Value} {Q : Unit → Shared → Prop} (I : Inv X pins σ H s) (hN : X.N.Nodup) (hi : X.N[i]? = some x) (hx : Loc X.env.scope x) (r : RelV v u)
    (h : ∀ s', Inv X pins (σ.set i (some v)) H s' → (∃ a, Heap.SameBut a s.heap s'.heap ∧ (a = X.env.locals ∨ X.env.cells.lookup x = some a)) → Q () s') (hf : X.fn x = true ∨ X.env.scope.names.lookup x = some .local := by first | exact .inl rfl | exact .inr rfl | assumption) : wpAny M A (storeName X.env x u) Q E s := by
  obtain ⟨m, hn, hl⟩ := id I.loc
  have hcls : (X.env.scope.kind == .class || (X.env.scope.kind == .module && X.env.locals != X.env.globals)) = false := by rw [I.ok.kind]; rfl
  have hiσ : i < σ.length := by rw [I.len]; exact (List.getElem?_eq_some_iff.mp hi).1
  have cne := I.cne
  have tracked : ∀ {a : Addr} {h' : Heap}, (∃ o, s.heap.get? a = some o ∧ H a = none) → Heap.SameBut a s.heap h' → HOk X.prog X.w H h' := fun {a h'} ha hs b ob e => by
    obtain ⟨_, _, hfree⟩ := ha
    refine (I.hok b ob e).stay (fun c w' hc q => (hs.2 c ?_).trans q) (fun _ q => q) fun _ _ q => q
    rintro rfl
    rcases hc with rfl | hc
    · rw [hfree] at e; cases e
    · rw [hfree] at hc; cases hc
  rcases hx with hk | hk
  · refine wpAny_storeName_local hk hn (fun h' hn' hs => ?_) hcls
    obtain ⟨oL, _, _, hoL, _⟩ := id hn
    refine h _ ⟨I.ok, I.os, I.bare, ⟨fun b o e n hb hx => ?_, fun b o e n hb hx => ?_, I.base.free, fun b o e hx => ?_, I.base.tups, I.base.frzs, I.base.tbls⟩, ⟨_, hn', fun j y v' e1 e2 e3 => ?_⟩, fun y c e => ?_, I.free, I.freeC, fun p hp => ?_, tracked ⟨oL, hoL, I.free⟩ hs, by simpa using I.len⟩ ⟨_, hs, .inl rfl⟩
    · exact (hs.2 b (Nat.ne_of_lt (Nat.lt_of_lt_of_le (Heap.lt_size e) I.ok.above))).trans (I.base.keep b o e n hb hx)
    · obtain ⟨sl, e1⟩ := I.base.slot b o e n hb hx
      exact ⟨sl, (hs.2 b (Nat.ne_of_lt (Nat.lt_of_lt_of_le (Heap.lt_size e) I.ok.above))).trans e1⟩
    · obtain ⟨o', e1⟩ := I.base.there b o e hx
      exact ⟨o', (hs.2 b (Nat.ne_of_lt (Nat.lt_of_lt_of_le (Heap.lt_size e) I.ok.above))).trans e1⟩
    · by_cases hj : j = i
      · subst hj
        rw [hi] at e1; cases e1
        rw [List.getElem?_set_self hiσ] at e2
        cases e2
        exact ⟨u, r, .inl ⟨hk, by simp⟩⟩
      · rw [List.getElem?_set_ne (Ne.symm hj)] at e2
        obtain ⟨u', r', q⟩ := hl j y v' e1 e2 e3
        refine ⟨u', r', ?_⟩
        rcases q with ⟨k, e⟩ | ⟨k, c, e, z⟩
        · refine .inl ⟨k, ?_⟩
          have : y ≠ x := fun e => hj (nodup_ix hN e1 (e ▸ hi))
          simp [this, e]
        · exact .inr ⟨k, c, e, z.sameBut hs (cne y c e)⟩
    · obtain ⟨w', z⟩ := I.cell y c e
      exact ⟨w', z.sameBut hs (cne y c e)⟩
    · obtain ⟨e, n, ne, nf, d⟩ := I.pin p hp
      exact ⟨(hs.2 p.1 ne).trans e, n, ne, nf, d⟩
  · have hfn : X.fn x = true := by
      rcases hf with z | z
      · exact z
      · rw [z] at hk; cases hk
    obtain ⟨c, hc⟩ := I.ok.has x (.inl hk)
    obtain ⟨w', z⟩ := I.cell x c hc
    refine wpAny_storeName_cell I.ok.kind hk hc z (fun h' hc' hs => ?_)
    obtain ⟨oc, hoc, hocd⟩ := id z
    refine h { s with heap := h' } ⟨I.ok, I.os, I.bare, ⟨fun b o e n hb hx => ?_, fun b o e n hb hx => ?_, I.base.free, fun b o e hx => ?_, I.base.tups, I.base.frzs, I.base.tbls⟩, ⟨m, hn.sameBut hs (Ne.symm (cne x c hc)), fun j y v' e1 e2 e3 => ?_⟩, fun y c' e => ?_, I.free, I.freeC, fun p hp => ?_, tracked ⟨oc, hoc, I.freeC x c hc⟩ hs, by simpa using I.len⟩ ⟨c, hs, .inr hc⟩
    · exact (hs.2 b (Nat.ne_of_lt (Nat.lt_of_lt_of_le (Heap.lt_size e) (I.ok.cab x c hfn hc)))).trans (I.base.keep b o e n hb hx)
    · obtain ⟨sl, e1⟩ := I.base.slot b o e n hb hx
      exact ⟨sl, (hs.2 b (Nat.ne_of_lt (Nat.lt_of_lt_of_le (Heap.lt_size e) (I.ok.cab x c hfn hc)))).trans e1⟩
    · obtain ⟨o', e1⟩ := I.base.there b o e hx
      exact ⟨o', (hs.2 b (Nat.ne_of_lt (Nat.lt_of_lt_of_le (Heap.lt_size e) (I.ok.cab x c hfn hc)))).trans e1⟩
    · by_cases hj : j = i
      · subst hj
        rw [hi] at e1; cases e1
        rw [List.getElem?_set_self hiσ] at e2
        cases e2
        exact ⟨u, r, .inr ⟨.inl hk, c, hc, hc'⟩⟩
      · rw [List.getElem?_set_ne (Ne.symm hj)] at e2
        obtain ⟨u', r', q⟩ := hl j y v' e1 e2 e3
        refine ⟨u', r', ?_⟩
        rcases q with q | ⟨k, c', e, z'⟩
        · exact .inl q
        · refine .inr ⟨k, c', e, z'.sameBut hs ?_⟩
          rintro rfl
          exact hj (nodup_ix hN e1 (I.ok.inj _ _ _ e hc ▸ hi))
    · by_cases hcc : c' = c
      · subst hcc; exact ⟨_, hc'⟩
      · obtain ⟨w2, z2⟩ := I.cell y c' e
        exact ⟨w2, z2.sameBut hs hcc⟩
    · obtain ⟨e, n, ne, nf, d⟩ := I.pin p hp
      refine ⟨(hs.2 p.1 ?_).trans e, n, ne, nf, d⟩
      intro q
      rw [q, hoc] at e
      have q' : oc = p.2 := Option.some.inj e
      exact d w' (by rw [← q']; exact hocd)
theorem store_ok {M : Model} {A : Around} {E : Value → Shared → Prop} {i : Nat} {x : Str} {v : V} {u : Value} {Q : Unit → Shared → Prop} (I : Inv X pins σ H s) (hN : X.N.Nodup) (hi : X.N[i]? = some x) (hx : Loc X.env.scope x) (r : RelV v u)
    (h : ∀ s', Inv X pins (σ.set i (some v)) H s' → Q () s') (hf : X.fn x = true ∨ X.env.scope.names.lookup x = some .local := by first | exact .inl rfl | exact .inr rfl | assumption) : wpAny M A (storeName X.env x u) Q E s :=
  store_ok2 I hN hi hx r (fun s' I' _ => h s' I') hf
theorem Inv.call' {s' : Shared} {ch : List Addr} (I : Inv X pins σ H s) (ho : s'.os = s.os) (u : Un (frs X.stack) ch H H' s.heap s'.heap) (hok : HOk X.prog X.w H' s'.heap) (hg : AllBare s'.gens)
    (hch : ∀ b ∈ ch, (b ∈ X.ex ∨ X.s₀.heap.objs.size ≤ b) ∧ b ≠ X.env.locals ∧ (∀ x c, X.env.cells.lookup x = some c → c ≠ b) ∧ ∀ p ∈ X.pn ++ pins, p.1 ≠ b) : Inv X pins σ H' s' := by
  obtain ⟨h', g', d', t', o'⟩ := s'
  have e : o' = s.os := ho
  subst e
  exact I.call (g' := g') (t' := t') (d' := d') u hok hg hch
end
abbrev XK := Value → Option Addr → Hp → Prop
abbrev St := List (Option V)
abbrev VK := V → Hp → Prop
abbrev TE := St → Hp → VK → Prop
abbrev TT := St → Hp → (Bool → Hp → Prop) → Prop
abbrev TA := St → Hp → (List V → Hp → Prop) → Prop
structure Ends where
  nx : St → Hp → Prop
  rt : VK
  bk : St → Hp → Prop := fun _ _ => False
  ct : St → Hp → Prop := fun _ _ => False
abbrev TS := Ends → St → Hp → Prop
def EP (X : Cx) (pins : List (Addr × Obj)) (σ : St) (Q : VK) (u : Value) (s' : Shared) : Prop := ∃ v H', Inv X pins σ H' s' ∧ RelV v u ∧ Q v H'
def TP (X : Cx) (pins : List (Addr × Obj)) (σ : St) (Q : Bool → Hp → Prop) (b : Bool) (s' : Shared) : Prop := ∃ H', Inv X pins σ H' s' ∧ Q b H'
def AP (X : Cx) (pins : List (Addr × Obj)) (σ : St) (Q : List V → Hp → Prop) (us : List Value) (s' : Shared) : Prop := ∃ vs H', Inv X pins σ H' s' ∧ Vals vs us ∧ Q vs H'
def SP (X : Cx) (pins : List (Addr × Obj)) (D : Ends) (f : Flow) (s' : Shared) : Prop :=
  match f with
  | .next => ∃ σ' H', Inv X pins σ' H' s' ∧ D.nx σ' H'
  | .brk => ∃ σ' H', Inv X pins σ' H' s' ∧ D.bk σ' H'
  | .cont => ∃ σ' H', Inv X pins σ' H' s' ∧ D.ct σ' H'
  | .ret u => ∃ v σ' H', Inv X pins σ' H' s' ∧ RelV v u ∧ D.rt v H'
def PE (X : Cx) (e : Expr) (t : TE) : Prop :=
  ∀ (pins : List (Addr × Obj)) (s : Shared) (σ : St) (H : Hp) (Q : VK), Inv X pins σ H s → t σ H Q → wpAny (model X.prog X.w) X.A (eval e X.env) (EP X pins σ Q) X.xe s
def PT (X : Cx) (e : Expr) (t : TT) : Prop :=
  ∀ (pins : List (Addr × Obj)) (s : Shared) (σ : St) (H : Hp) (Q : Bool → Hp → Prop), Inv X pins σ H s → t σ H Q → wpAny (model X.prog X.w) X.A (isTrue e X.env (eval e X.env)) (TP X pins σ Q) X.xe s
def PW (X : Cx) (e : Expr) (t : TT) : Prop :=
  ∀ (whole : Sem Value) (pins : List (Addr × Obj)) (s : Shared) (σ : St) (H : Hp) (Q : Bool → Hp → Prop), Inv X pins σ H s → t σ H Q → wpAny (model X.prog X.w) X.A (isTrue e X.env whole) (TP X pins σ Q) X.xe s
theorem PW.pt {X : Cx} {e : Expr} {t : TT} (h : PW X e t) : PT X e t := h _
def PA (X : Cx) (es : List Expr) (t : TA) : Prop :=
  ∀ (pos : Pos) (pins : List (Addr × Obj)) (s : Shared) (σ : St) (H : Hp) (Q : List V → Hp → Prop), Inv X pins σ H s → t σ H Q → wpAny (model X.prog X.w) X.A (spliced (backTo pos (starEach es X.env))) (AP X pins σ Q) X.xe s
def PS (X : Cx) (st : Stmt) (t : TS) : Prop :=
  ∀ (pins : List (Addr × Obj)) (s : Shared) (σ : St) (H : Hp) (D : Ends), Inv X pins σ H s → t D σ H → wpAny (model X.prog X.w) X.A (exec st X.env) (SP X pins D) X.xe s
def PSs (X : Cx) (st : List Stmt) (t : TS) : Prop :=
  ∀ (pins : List (Addr × Obj)) (s : Shared) (σ : St) (H : Hp) (D : Ends), Inv X pins σ H s → t D σ H → wpAny (model X.prog X.w) X.A (execs st X.env) (SP X pins D) X.xe s
theorem thn {α : Type} {t : Sem α} {Q Q' : α → Shared → Prop} {M : Model} {A : Around} {E : Value → Shared → Prop} {s : Shared} (h : wpAny M A t Q E s) (hQ : ∀ a s, Q a s → Q' a s) : wpAny M A t Q' E s := wpAny_mono h hQ fun _ _ x => x
end L2
namespace L2
open PySem PySem.Spec PyProof.Rows
section
variable {X : Cx}
theorem bin {a b : Expr} {ta tb : TE} (ha : PE X a ta) (hb : PE X b tb) {pins : List (Addr × Obj)} {s : Shared} {σ : St} {H : Hp} {R : V → V → Hp → Prop} (I : Inv X pins σ H s) (h : ta σ H fun x H1 => tb σ H1 fun y H2 => R x y H2)
    {α : Type} {Q : α → Shared → Prop} {f : Value → Value → Sem α}
    (hf : ∀ v u s2 x y H2, Inv X pins σ H2 s2 → RelV x v → RelV y u → R x y H2 → wpAny (model X.prog X.w) X.A (f v u) Q X.xe s2) :
    wpAny (model X.prog X.w) X.A (eval a X.env) (fun v s₁ => wpAny (model X.prog X.w) X.A (eval b X.env) (fun u s₂ => wpAny (model X.prog X.w) X.A (f v u) Q X.xe s₂) X.xe s₁) X.xe s := by
  refine thn (ha pins s σ H _ I h) fun v s1 ⟨x, H1, I1, r1, q1⟩ => ?_
  refine thn (hb pins s1 σ H1 _ I1 q1) fun u s2 ⟨y, H2, I2, r2, q2⟩ => ?_
  exact hf v u s2 x y H2 I2 r1 r2 q2
def tVar (i : Nat) : TE := fun σ H Q => ∃ v, σ[i]? = some (some v) ∧ Q v H
def tC (v : V) : TE := fun _ H Q => Q v H
theorem pe_var {i : Nat} {x : Str} {pos : Pos} (hN : X.N[i]? = some x) (hv : Vis X.env.scope x) (hd : (x == ("__debug__" : Str)) = false := by decide) (hcd : (x == ("__classdict__" : Str)) = false := by decide) : PE X (.Name x pos) (tVar i) := by
  intro pins s σ H Q I h
  obtain ⟨v, e, h⟩ := h
  obtain ⟨m, hn, hl⟩ := I.loc
  obtain ⟨u, r, l⟩ := hl i x v hN e hv
  have fin : EP X pins σ Q u s := ⟨v, H, I, r, h⟩
  rcases l with ⟨hk, hm⟩ | ⟨hk, c, hc, hcell⟩
  · exact wpAny_Name (wpAny_loadName_local I.ok.kind hk hn hm fin) hd
  · rcases hk with hk | hk
    · exact wpAny_Name (wpAny_loadName_cell I.ok.kind hk hc hcell fin) hd
    · exact wpAny_Name (wpAny_loadName_free I.ok.kind hk hc hcell fin hcd) hd
theorem pe_int {i j pos} : PE X (.Constant (.int i) j pos) (tC (.int i)) := fun _ _ _ H _ I h => wpAny_Constant_int ⟨.int i, H, I.tok _, ⟨_, rfl⟩, h⟩
theorem pe_bl {b j pos} : PE X (.Constant (.bool b) j pos) (tC (.bl b)) := fun _ _ _ H _ I h => Constant_bool ⟨.bl b, H, I, rfl, h⟩
def Gl (X : Cx) (x : Str) : Prop := X.env.kindOf x = some .globalImplicit
theorem ld_glob {E : Value → Shared → Prop} {pins : List (Addr × Obj)} {s : Shared} {σ : St} {H : Hp} {x : Str} {u : Value} {pos : Pos} {Q : Value → Shared → Prop} (I : Inv X pins σ H s) (hg : Gl X x) (hm : X.mg x = some u) (h : Q u s)
    (hd : (x == ("__debug__" : Str)) = false := by decide) : wpAny (model X.prog X.w) X.A (eval (.Name x pos) X.env) Q E s :=
  Calls.Name_function_global I.ok.kind hg (Calls.loadGlobal_global (by rw [I.ok.glob]; exact I.mod.glob.keeps I.bk) hm h) hd
theorem ld_blt {E : Value → Shared → Prop} {pins : List (Addr × Obj)} {s : Shared} {σ : St} {H : Hp} {x : Str} {u : Value} {pos : Pos} {Q : Value → Shared → Prop} (I : Inv X pins σ H s) (hg : Gl X x) (hm : X.mg x = none) (hv : bootBuiltins x = some u) (h : Q u s)
    (hn : x ≠ "__name__" := by decide) (hd : (x == ("__debug__" : Str)) = false := by decide) : wpAny (model X.prog X.w) X.A (eval (.Name x pos) X.env) Q E s := by
  obtain ⟨mb, h1, h2⟩ := I.mod.blt
  exact Calls.Name_function_global I.ok.kind hg (Calls.loadGlobal_builtin (by rw [I.ok.glob]; exact I.mod.glob.keeps I.bk) hm (by rw [I.ok.blt]; exact h1.keeps I.bk) ((h2 x hn).trans hv) h) hd
theorem pe_bltn {x : Str} {v : V} {u : Value} {pos : Pos} (hg : Gl X x) (hm : X.mg x = none) (hv : bootBuiltins x = some u) (r : RelV v u) (hn : x ≠ "__name__" := by decide) (hd : (x == ("__debug__" : Str)) = false := by decide) : PE X (.Name x pos) (tC v) :=
  fun _ _ _ H _ I h => ld_blt I hg hm hv ⟨v, H, I, r, h⟩ hn hd
def t2I (ta tb : TE) (k : Int → Int → Hp → Prop) : St → Hp → Prop := fun σ H => ta σ H fun x H1 => tb σ H1 fun y H2 => ∃ i j, x = .int i ∧ y = .int j ∧ k i j H2
def tAdd (ta tb : TE) : TE := fun σ H Q => t2I ta tb (fun i j H2 => Q (.int (i + j)) H2) σ H
variable {a b : Expr} {ta tb : TE} {pos : Pos}
theorem pe_add (ha : PE X a ta) (hb : PE X b tb) : PE X (.BinOp a .Add b pos) (tAdd ta tb) := by
  intro pins s σ H Q I h
  refine wpAny_BinOp (bin ha hb I h fun v u s2 x y H2 I2 rx ry q => ?_)
  obtain ⟨i, j, rfl, rfl, q⟩ := q
  obtain ⟨t, rfl⟩ := rx
  obtain ⟨t', rfl⟩ := ry
  exact add_int ⟨.int _, H2, I2.tok _, ⟨_, rfl⟩, q⟩
def PC (X : Cx) (op : CmpOp) (a b : Expr) (t : TE) : Prop :=
  ∀ (pins : List (Addr × Obj)) (s : Shared) (σ : St) (H : Hp) (Q : VK), Inv X pins σ H s → t σ H Q →
    wpAny (model X.prog X.w) X.A (eval a X.env) (fun v s₁ => wpAny (model X.prog X.w) X.A (eval b X.env) (fun u s₂ => wpAny (model X.prog X.w) X.A (compareOp op v u) (EP X pins σ Q) X.xe s₂) X.xe s₁) X.xe s
theorem nobehind (b : Expr) {op : CmpOp} (h : op ≠ .In) (h2 : op ≠ .NotIn) : behindInMarks op b = false := by
  have e1 : (op == CmpOp.In) = false := by cases op <;> first | rfl | exact absurd rfl h
  have e2 : (op == CmpOp.NotIn) = false := by cases op <;> first | rfl | exact absurd rfl h2
  cases b <;> simp [behindInMarks, e1, e2]
def tCmp (p : Int → Int → Bool) (ta tb : TE) : TE := fun σ H Q => t2I ta tb (fun i j H2 => Q (.bl (p i j)) H2) σ H
abbrev tEqI : TE → TE → TE := tCmp fun i j => decide (i = j)
theorem pc_int {op : CmpOp} {p : Int → Int → Bool} (ha : PE X a ta) (hb : PE X b tb)
    (rule : ∀ (i j : Int) (t u : Tok) (Q : Value → Shared → Prop) (s : Shared), Q (.bool (p i j)) s → wpAny (model X.prog X.w) X.A (compareOp op (.int i t) (.int j u)) Q X.xe s) : PC X op a b (tCmp p ta tb) := by
  intro pins s σ H Q I h
  refine bin ha hb I h fun v u s2 x y H2 I2 rx ry q => ?_
  obtain ⟨i, j, rfl, rfl, q⟩ := q
  obtain ⟨t, rfl⟩ := rx
  obtain ⟨t', rfl⟩ := ry
  exact rule i j t t' _ s2 ⟨.bl _, H2, I2, rfl, q⟩
theorem pc_eqI (ha : PE X a ta) (hb : PE X b tb) : PC X .Eq a b (tEqI ta tb) := pc_int ha hb fun _ _ _ _ _ _ h => eq_int (by rw [Bool.beq_eq_decide_eq]; exact h)
def tB (t : TE) : TT := fun σ H Q => t σ H fun x H1 => ∃ c, x = .bl c ∧ Q c H1
theorem pt_cmp {op : CmpOp} {t : TE} (h : PC X op a b t) (h1 : behindInMarks op b = false := by first | exact nobehind _ (by decide) (by decide) | rfl) : PT X (.Compare a [op] [b] pos) (tB t) := by
  intro pins s σ H Q I hw
  refine wpAny_isTrue_Compare1 (thn (h pins s σ H _ I hw) fun v s1 h1 => thn h1 fun u s2 h2 => thn h2 fun c s3 ⟨x, H1, I1, r1, q1⟩ => ?_) h1
  obtain ⟨d, rfl, q⟩ := q1
  cases r1
  exact wpAny_truthy_bool ⟨H1, I1, q⟩
variable {tA tB' : TT} {rest : List Expr}
def tAnd (t u : TT) : TT := fun σ H Q => t σ H fun c H1 => if c = true then u σ H1 Q else Q false H1
def tOr (t u : TT) : TT := fun σ H Q => t σ H fun c H1 => if c = true then Q true H1 else u σ H1 Q
def tNot (t : TT) : TT := fun σ H Q => t σ H fun c H1 => Q (!c) H1
theorem pw_and1 (ha : PT X a tA) : PW X (.BoolOp .And [a] pos) tA := by
  intro wh pins s σ H Q I h
  refine isTrue_and (thn (ha pins s σ H Q I h) fun c s1 e => ?_)
  cases c with
  | true => exact isTrue_and_nil e
  | false => exact e
theorem pw_or1 (ha : PT X a tA) : PW X (.BoolOp .Or [a] pos) tA := by
  intro wh pins s σ H Q I h
  refine isTrue_or (thn (ha pins s σ H Q I h) fun c s1 e => ?_)
  cases c with
  | false => exact isTrue_or_nil e
  | true => exact e
theorem pw_and (ha : PT X a tA) (hb : PW X (.BoolOp .And (b :: rest) pos) tB') : PW X (.BoolOp .And (a :: b :: rest) pos) (tAnd tA tB') := by
  intro wh pins s σ H Q I h
  refine isTrue_and (thn (ha pins s σ H _ I h) fun c s1 ⟨H1, I1, q1⟩ => ?_)
  cases c with
  | true => exact hb wh pins s1 σ H1 Q I1 q1
  | false => exact ⟨H1, I1, q1⟩
theorem pw_or (ha : PT X a tA) (hb : PW X (.BoolOp .Or (b :: rest) pos) tB') : PW X (.BoolOp .Or (a :: b :: rest) pos) (tOr tA tB') := by
  intro wh pins s σ H Q I h
  refine isTrue_or (thn (ha pins s σ H _ I h) fun c s1 ⟨H1, I1, q1⟩ => ?_)
  cases c with
  | true => exact ⟨H1, I1, q1⟩
  | false => exact hb wh pins s1 σ H1 Q I1 q1
theorem pt_not (ha : PT X a tA) : PT X (.UnaryOp .Not a pos) (tNot tA) := by
  intro pins s σ H Q I h
  exact isTrue_not (ha pins s σ H (fun c H1 => Q (!c) H1) I h)
def tAndV (ta tb : TE) : TE := fun σ H Q => ta σ H fun x H1 => ∃ c, x = .bl c ∧ if c = true then tb σ H1 Q else Q (.bl false) H1
def tNotV (ta : TE) : TE := fun σ H Q => ta σ H fun x H1 => ∃ c, x = .bl c ∧ Q (.bl (!c)) H1
theorem pe_one {op} {t : TE} (h : PE X a t) : PE X (.BoolOp op [a] pos) t := fun pins s σ H Q I hw => BoolOp_one (h pins s σ H Q I hw)
theorem pe_and (ha : PE X a ta) (hb : PE X (.BoolOp .And (b :: rest) pos) tb) : PE X (.BoolOp .And (a :: b :: rest) pos) (tAndV ta tb) := by
  intro pins s σ H Q I h
  refine BoolOp_and (thn (ha pins s σ H _ I h) fun v s1 ⟨x, H1, I1, r1, q1⟩ => ?_)
  obtain ⟨c, rfl, q1⟩ := q1
  cases r1
  refine wpAny_truthy_bool ?_
  cases c with
  | true => exact hb pins s1 σ H1 Q I1 q1
  | false => exact ⟨.bl false, H1, I1, rfl, q1⟩
theorem pe_not (ha : PE X a ta) : PE X (.UnaryOp .Not a pos) (tNotV ta) := by
  intro pins s σ H Q I h
  refine UnaryOp_ (thn (ha pins s σ H _ I h) fun v s1 ⟨x, H1, I1, r1, q1⟩ => ?_)
  obtain ⟨c, rfl, q1⟩ := q1
  cases r1
  exact not_of (wpAny_truthy_bool ⟨.bl (!c), H1, I1, rfl, q1⟩)
def tIf (t : TT) (ta tb : TE) : TE := fun σ H Q => t σ H fun c H1 => if c = true then ta σ H1 Q else tb σ H1 Q
theorem pe_ifExp {c : Expr} (hc : PT X c tA) (ha : PE X a ta) (hb : PE X b tb) : PE X (.IfExp c a b pos) (tIf tA ta tb) := by
  intro pins s σ H Q I h
  refine wpAny_IfExp (thn (hc pins s σ H _ I h) fun d s1 ⟨H1, I1, q1⟩ => ?_)
  cases d with
  | true => exact ha pins s1 σ H1 Q I1 q1
  | false => exact hb pins s1 σ H1 Q I1 q1
end
end L2
namespace L2
open PySem PySem.Spec PyProof.Rows
def SqL (K : PySem.W.Frag) (H : Hp) (a : Addr) (xs : List V) : Prop :=
  Rd H a (.lst xs) ∨
    ∃ (o : Obj) (its : Array Value) (n : Nat), K.lookup a = some o ∧ o.cls = .type "list" ∧ o.dict = none ∧ o.data = .seq its n ∧ its.size ≤ sizeLine ∧ Vals xs its.toList
def SqT (K : PySem.W.Frag) (H : Hp) (a : Addr) (xs : List V) : Prop :=
  Rd H a (.tup xs) ∨
    ∃ (o : Obj) (its : Array Value) (n : Nat), K.lookup a = some o ∧ o.cls = .type "tuple" ∧ o.data = .seq its n ∧ its.size ≤ sizeLine ∧ Vals xs its.toList
def absV : Value → Option V
  | .none => some .non
  | .bool b => some (.bl b)
  | .int i _ => some (.int i)
  | .str x _ => some (.str x)
  | .bytes b _ => some (.byt b)
  | .float b _ => some (.flt b)
  | .ref a => some (.ref a)
  | .type n => some (.ty n)
  | _ => none
theorem RelV.abs {x : V} {u : Value} (r : RelV x u) : absV u = some x := by
  cases x with
  | non => cases r; rfl
  | bl _ => cases r; rfl
  | int _ => obtain ⟨t, rfl⟩ := r; rfl
  | str _ => obtain ⟨t, rfl⟩ := r; rfl
  | byt _ => obtain ⟨t, rfl⟩ := r; rfl
  | flt _ => obtain ⟨t, rfl⟩ := r; rfl
  | ref _ => cases r; rfl
  | ty _ => cases r; rfl
theorem RelV.inj {x y : V} {u : Value} (r : RelV x u) (q : RelV y u) : x = y := Option.some.inj (r.abs.symm.trans q.abs)
theorem Vals.inj : ∀ {xs ys : List V} {us : List Value}, Vals xs us → Vals ys us → xs = ys
  | _, _, _, .nil, .nil => rfl
  | _, _, _, .cons r t, .cons r' t' => by rw [r.inj r', Vals.inj t t']
section
variable {X : Cx} {pins : List (Addr × Obj)} {σ : St} {H : Hp} {s : Shared} {a : Addr} {xs ys : List V}
theorem SqL.of {K : PySem.W.Frag} (h : H a = some (.lst xs)) : SqL K H a xs := .inl (.inl h)
theorem SqT.of {K : PySem.W.Frag} (h : H a = some (.tup xs)) : SqT K H a xs := .inl (.inl h)
theorem Inv.list (I : Inv X pins σ H s) (h : SqL X.K H a xs) : ∃ its : List Value, Vals xs its ∧ PlainL s.heap a its.toArray ∧ xs.length ≤ sizeLine := by
  rcases h with h | ⟨o, its, n, hk, hc, hd, hs, hz, r⟩
  · obtain ⟨z, its, n, r, e⟩ := h.ok I.hok
    exact ⟨its, r, ⟨_, n, e, rfl, rfl, rfl⟩, z⟩
  · refine ⟨its.toList, r, ⟨o, n, I.kIn a o hk, hc, hd, by simpa using hs⟩, ?_⟩
    have e := r.length
    simp only [Array.length_toList] at e
    omega
theorem Inv.tuple (I : Inv X pins σ H s) (h : SqT X.K H a xs) : ∃ its : List Value, Vals xs its ∧ IsTup s.heap a its.toArray ∧ xs.length ≤ sizeLine := by
  rcases h with h | ⟨o, its, n, hk, hc, hs, hz, r⟩
  · obtain ⟨z, its, r, p⟩ := h.ok I.hok
    exact ⟨its, r, p, z⟩
  · refine ⟨its.toList, r, ⟨o, I.kIn a o hk, hc, n, by simpa using hs⟩, ?_⟩
    have e := r.length
    simp only [Array.length_toList] at e
    omega
theorem Inv.list_inj (I : Inv X pins σ H s) (h : SqL X.K H a xs) (h' : SqL X.K H a ys) : xs = ys := by
  obtain ⟨its, r, ⟨o, n, e, _, _, d⟩, _⟩ := I.list h
  obtain ⟨its', r', ⟨o', n', e', _, _, d'⟩, _⟩ := I.list h'
  rw [e] at e'; cases e'
  rw [d] at d'
  injection d' with d1 _
  have : its = its' := by simpa using congrArg Array.toList d1
  subst this
  exact r.inj r'
theorem Inv.tuple_inj (I : Inv X pins σ H s) (h : SqT X.K H a xs) (h' : SqT X.K H a ys) : xs = ys := by
  obtain ⟨its, r, ⟨o, e, _, n, d⟩, _⟩ := I.tuple h
  obtain ⟨its', r', ⟨o', e', _, n', d'⟩, _⟩ := I.tuple h'
  rw [e] at e'; cases e'
  rw [d] at d'
  injection d' with d1 _
  have : its = its' := by simpa using congrArg Array.toList d1
  subst this
  exact r.inj r'
end
abbrev Cx.wish (X : Cx) (E : Value → Shared → Prop) : Cx := { X with xe := E }
abbrev Cx.nox (X : Cx) : Cx := X.wish fun _ _ => False
theorem Cx.Ok.wish {X : Cx} (ok : X.Ok) (E : Value → Shared → Prop) : (X.wish E).Ok :=
  ⟨ok.mod, ok.kind, ok.glob, ok.blt, ok.above, ok.inj, ok.has, ok.cab, ok.hd, ok.frames, ok.stk, ok.exf, ok.bs, ok.bsz, ok.noex, ok.exfs, ok.funs, ok.frf⟩
theorem Cx.Ok.unwish {X : Cx} {E : Value → Shared → Prop} (ok : (X.wish E).Ok) : X.Ok :=
  ⟨ok.mod, ok.kind, ok.glob, ok.blt, ok.above, ok.inj, ok.has, ok.cab, ok.hd, ok.frames, ok.stk, ok.exf, ok.bs, ok.bsz, ok.noex, ok.exfs, ok.funs, ok.frf⟩
section
variable {X : Cx} {pins : List (Addr × Obj)} {σ : St} {H : Hp} {s : Shared} {E : Value → Shared → Prop}
theorem Inv.wish (I : Inv X pins σ H s) (E : Value → Shared → Prop) : Inv (X.wish E) pins σ H s := ⟨I.ok.wish E, I.os, I.bare, I.base, I.loc, I.cell, I.free, I.freeC, I.pin, I.hok, I.len⟩
theorem Inv.unwish (I : Inv (X.wish E) pins σ H s) : Inv X pins σ H s := ⟨I.ok.unwish, I.os, I.bare, I.base, I.loc, I.cell, I.free, I.freeC, I.pin, I.hok, I.len⟩
theorem SP.unwish {D : Ends} {f : Flow} {s' : Shared} (h : SP (X.wish E) pins D f s') : SP X pins D f s' := by
  cases f with
  | next => obtain ⟨σ', H', I, q⟩ := h; exact ⟨σ', H', I.unwish, q⟩
  | brk => obtain ⟨σ', H', I, q⟩ := h; exact ⟨σ', H', I.unwish, q⟩
  | cont => obtain ⟨σ', H', I, q⟩ := h; exact ⟨σ', H', I.unwish, q⟩
  | ret u => obtain ⟨v, σ', H', I, r, q⟩ := h; exact ⟨v, σ', H', I.unwish, r, q⟩
theorem PE.nox {e : Expr} {t : TE} (h : PE X.nox e t) : PE X e t := fun pins s σ H Q I hw =>
  wpAny_mono (h pins s σ H Q (I.wish _) hw) (fun _ _ ⟨v, H', I', r, q⟩ => ⟨v, H', I'.unwish, r, q⟩) fun _ _ z => False.elim z
theorem PT.nox {e : Expr} {t : TT} (h : PT X.nox e t) : PT X e t := fun pins s σ H Q I hw =>
  wpAny_mono (h pins s σ H Q (I.wish _) hw) (fun _ _ ⟨H', I', q⟩ => ⟨H', I'.unwish, q⟩) fun _ _ z => False.elim z
theorem PSs.nox {st : List Stmt} {t : TS} (h : PSs X.nox st t) : PSs X st t := fun pins s σ H D I hw =>
  wpAny_mono (h pins s σ H D (I.wish _) hw) (fun _ _ q => q.unwish) fun _ _ z => False.elim z
end
section
variable {X : Cx} {st : Stmt} {rest : List Stmt} {t u : TS} {e : Expr} {te : TE} {pos : Pos}
def tNext : TS := fun D σ H => D.nx σ H
def tSeq (t u : TS) : TS := fun D σ H => t { D with nx := u D } σ H
theorem pss_nil : PSs X [] tNext := fun _ _ σ H _ I h => wpAny_execs_nil ⟨σ, H, I, h⟩
theorem pss_cons (h1 : PS X st t) (h2 : PSs X rest u) : PSs X (st :: rest) (tSeq t u) := by
  intro pins s σ H D I h
  refine wpAny_execs_cons (thn (h1 pins s σ H { D with nx := u D } I h) fun f s1 q => ?_)
  cases f with
  | next =>
    obtain ⟨σ', H', I', q⟩ := q
    exact h2 pins s1 σ' H' D I' q
  | ret v => exact q
  | brk => exact q
  | cont => exact q
theorem pss_one (h1 : PS X st t) : PSs X [st] t := by
  intro pins s σ H D I h
  refine wpAny_execs_cons (thn (h1 pins s σ H D I h) fun f s1 q => ?_)
  cases f with
  | next => exact wpAny_execs_nil q
  | ret v => exact q
  | brk => exact q
  | cont => exact q
theorem Inv.quiet {pins : List (Addr × Obj)} {σ : St} {H : Hp} {s : Shared} (I : Inv X pins σ H s) : interactive X.env = false := by simp [interactive, I.ok.kind]
def tDrop (te : TE) : TS := fun D σ H => te σ H fun _ H1 => D.nx σ H1
theorem ps_expr (he : PE X e te) (hs : swapsWith e none pos.line X.env = pure false := by rfl) : PS X (.Expr e pos) (tDrop te) := by
  intro pins s σ H D I h
  exact wpAny_Expr_any (thn (he pins s σ H _ I h) fun v s1 ⟨x, H1, I1, r1, q1⟩ => ⟨σ, H1, I1, q1⟩) I.quiet hs
def tRet (te : TE) : TS := fun D σ H => te σ H D.rt
theorem ps_ret (he : PE X e te) : PS X (.Return (some e) pos) (tRet te) := by
  intro pins s σ H D I h
  exact wpAny_Return_some (thn (he pins s σ H _ I h) fun v s1 ⟨x, H1, I1, r1, q1⟩ => ⟨x, σ, H1, I1, r1, q1⟩)
def tIfS (c : TT) (t u : TS) : TS := fun D σ H => c σ H fun b H1 => if b = true then t D σ H1 else u D σ H1
theorem ps_if {c : Expr} {a b : List Stmt} {tc : TT} (hc : PT X c tc) (ha : PSs X a t) (hb : PSs X b u) : PS X (.If c a b pos) (tIfS tc t u) := by
  intro pins s σ H D I h
  refine wpAny_If (thn (hc pins s σ H _ I h) fun d s1 ⟨H1, I1, q1⟩ => ?_)
  cases d with
  | true => exact ha pins s1 σ H1 D I1 q1
  | false => exact hb pins s1 σ H1 D I1 q1
def tNever : TS := fun _ _ _ => False
theorem ps_never : PS X st tNever := fun _ _ _ _ _ _ h => h.elim
end
abbrev TG := V → St → Hp → (St → Hp → Prop) → Prop
abbrev TGs := List V → St → Hp → (St → Hp → Prop) → Prop
def PG (X : Cx) (target : Expr) (t : TG) : Prop :=
  ∀ (pins : List (Addr × Obj)) (s : Shared) (σ : St) (H : Hp) (v : V) (u : Value) (Q : St → Hp → Prop), Inv X pins σ H s → RelV v u → t v σ H Q →
    wpAny (model X.prog X.w) X.A (assign target X.env u) (fun _ s' => ∃ σ' H', Inv X pins σ' H' s' ∧ Q σ' H') X.xe s
def PGs (X : Cx) (ts : List Expr) (t : TGs) : Prop :=
  ∀ (pins : List (Addr × Obj)) (s : Shared) (σ : St) (H : Hp) (vs : List V) (us : List Value) (Q : St → Hp → Prop), Inv X pins σ H s → Vals vs us → t vs σ H Q →
    wpAny (model X.prog X.w) X.A (assignInOrder ((assignEach ts X.env).map (·.2)) us) (fun _ s' => ∃ σ' H', Inv X pins σ' H' s' ∧ Q σ' H') X.xe s
abbrev TSet := V → V → V → Hp → (Hp → Prop) → Prop
def PSet (X : Cx) (t : TSet) : Prop :=
  ∀ (pins : List (Addr × Obj)) (s : Shared) (σ : St) (H : Hp) (o i v : V) (ov iv u : Value) (Q : Hp → Prop), Inv X pins σ H s → RelV o ov → RelV i iv → RelV v u → t o i v H Q →
    wpAny (model X.prog X.w) X.A (setItem ov iv u) (fun _ s' => ∃ H', Inv X pins σ H' s' ∧ Q H') X.xe s
section
variable {X : Cx} {pos : Pos}
def gName (i : Nat) : TG := fun v σ H Q => Q (σ.set i (some v)) H
theorem pg_name {i : Nat} {x : Str} (hN : X.N.Nodup) (hi : X.N[i]? = some x) (hx : Loc X.env.scope x) (hf : X.fn x = true ∨ X.env.scope.names.lookup x = some .local := by first | exact .inl rfl | exact .inr rfl | assumption) : PG X (.Name x pos) (gName i) := by
  intro pins s σ H v u Q I r h
  exact wpAny_assign_Name (store_ok I hN hi hx r (fun s' I' => ⟨_, H, I', h⟩) hf)
def gNil : TGs := fun vs σ H Q => vs = [] ∧ Q σ H
def gCons (t : TG) (u : TGs) : TGs := fun vs σ H Q => ∃ v r, vs = v :: r ∧ t v σ H fun σ' H' => u r σ' H' Q
theorem pgs_nil : PGs X [] gNil := by
  intro pins s σ H vs us Q I r h
  obtain ⟨e, h⟩ := h
  subst e
  cases r
  exact assignInOrder_nil ⟨σ, H, I, h⟩
theorem pgs_cons {e : Expr} {es : List Expr} {t : TG} {u : TGs} (h1 : PG X e t) (h2 : PGs X es u)
    (hs : (assignEach (e :: es) X.env).map (·.2) = assign e X.env :: (assignEach es X.env).map (·.2) := by rfl) : PGs X (e :: es) (gCons t u) := by
  intro pins s σ H vs us Q I r h
  obtain ⟨v, vr, e1, h⟩ := h
  subst e1
  cases r with
  | cons r rr =>
    rw [hs]
    refine assignInOrder_cons (thn (h1 pins s σ H _ _ _ I r h) fun _ s1 ⟨σ1, H1, I1, q1⟩ => ?_)
    exact h2 pins s1 σ1 H1 _ _ Q I1 rr q1
def gTup (K : PySem.W.Frag) (n : Nat) (t : TGs) : TG := fun v σ H Q => ∃ a xs, v = .ref a ∧ SqT K H a xs ∧ xs.length = n ∧ t xs σ H Q
theorem pg_tup {es : List Expr} {k : Nat} {t : TGs} {n : Nat} (hc : X.calm = true) (h : PGs X es t)
    (hn : (assignEach es X.env).length = n := by rfl) (hst : (assignEach es X.env).findIdx? (·.1) = none := by rfl) : PG X (.Tuple es k pos) (gTup X.K n t) := by
  intro pins s σ H v u Q I r hw
  obtain ⟨a, xs, e1, hq, hl, hw⟩ := hw
  subst e1
  cases r
  obtain ⟨its, rv, ht, hz⟩ := I.tuple hq
  refine assign_Tuple_tuple (I.ok.hd hc) ht (by simp [hn, ← hl, rv.length]) hst fun h' hx => ?_
  have I1 : Inv X pins σ H { s with heap := h' } := I.kept (t' := s.toks) fun b o e => hx b o (Nat.ne_of_lt (Heap.lt_size e)) e
  exact h pins _ σ H xs _ Q I1 (by simpa using rv) hw
def gSub (to ti : TE) (t : TSet) : TG := fun v σ H Q => to σ H fun o H1 => ti σ H1 fun i H2 => t o i v H2 fun H3 => Q σ H3
theorem pg_sub {o i : Expr} {to ti : TE} {t : TSet} (ho : PE X o to) (hi : PE X i ti) (hs : PSet X t)
    (ha : ∀ v, assign (.Subscript o i pos) X.env v = (do
      let ov ← holding [v] (eval o X.env)
      let iv ← holding [v, ov] (eval i X.env)
      standAt pos
      holding [v, ov, iv] (setItem ov iv v)
      release [v, ov, iv] []) := by intro _; rfl) : PG X (.Subscript o i pos) (gSub to ti t) := by
  intro pins s σ H v u Q I r h
  rw [ha]
  refine wpAny_bind (wpAny_holding (thn (ho pins s σ H _ I h) fun ov s1 ⟨x, H1, I1, r1, q1⟩ => ?_))
  refine wpAny_bind (wpAny_holding (thn (hi pins s1 σ H1 _ I1 q1) fun iv s2 ⟨y, H2, I2, r2, q2⟩ => ?_))
  refine wpAny_bind (wpAny_standAt (wpAny_bind (wpAny_holding (thn (hs pins s2 σ H2 x y v ov iv u _ I2 r1 r2 r q2) fun _ s3 ⟨H3, I3, q3⟩ => ?_))))
  exact wpAny_release ⟨σ, H3, I3, q3⟩
def tAsg (te : TE) (g : TG) : TS := fun D σ H => te σ H fun x H1 => g x σ H1 D.nx
theorem ps_asg {tg e : Expr} {te : TE} {g : TG} (he : PE X e te) (hg : PG X tg g) (hs : swapsWithSole [tg] e pos.line X.env = pure false := by rfl) (hw : swappedStores [tg] e X.env = pure none := by rfl)
    (h1 : (assignEach [tg] X.env).map (·.2) = [assign tg X.env] := by rfl) : PS X (.Assign [tg] e pos) (tAsg te g) := by
  intro pins s σ H D I h
  refine wpAny_Assign_stores (thn (he pins s σ H _ I h) fun v s1 ⟨x, H1, I1, r1, q1⟩ => ?_) hs hw
  rw [h1]
  exact thn (hg pins s1 σ H1 x v _ I1 r1 q1) fun _ s2 q => q
theorem ps_set {i : Nat} {x : Str} {e : Expr} {te : TE} {pos' : Pos} (hN : X.N.Nodup) (hi : X.N[i]? = some x) (hx : Loc X.env.scope x) (he : PE X e te) (hs : swapsWith e (some (.Name x pos')) pos.line X.env = pure false := by rfl) (hf : X.fn x = true ∨ X.env.scope.names.lookup x = some .local := by first | exact .inl rfl | exact .inr rfl | assumption) :
    PS X (.Assign [.Name x pos'] e pos) (tAsg te (gName i)) := by
  intro pins s σ H D I h
  refine wpAny_Assign_Name (thn (he pins s σ H _ I h) fun v s1 ⟨y, H1, I1, r1, q1⟩ => ?_) hs
  exact store_ok I1 hN hi hx r1 (fun s2 I2 => ⟨_, H1, I2, q1⟩) hf
end
section
variable {X : Cx} {pos : Pos}
def tWhile (c : TT) (tb : TS) : TS := fun D σ H => ∃ W : Nat → St → Hp → Prop, (∃ m, W m σ H) ∧ ∀ m σ H, W m σ H →
  c σ H fun b H1 => if b = true then ∃ N : St → Hp → Prop, (∀ σ' H', N σ' H' → ∃ m', m' < m ∧ W m' σ' H') ∧ tb { D with nx := N, ct := N, bk := D.nx } σ H1 else D.nx σ H1
theorem ps_while {c : Expr} {body : List Stmt} {tc : TT} {tb : TS} (hp : PassesOwn (model X.prog X.w) X.A X.env X.xe) (hc : PT X c tc) (hb : PSs X body tb) : PS X (.While c body [] pos) (tWhile tc tb) := by
  intro pins s σ H D I h
  obtain ⟨W, ⟨m0, w0⟩, turn⟩ := h
  refine wpAny_While (codeAny_whileLoop (fun n s' => ∃ σ' H', Inv X pins σ' H' s' ∧ W n σ' H') ?_ m0 ⟨σ, H, I, w0⟩)
  rintro n s1 ⟨σ1, H1, I1, w1⟩
  refine wpAny_passesOwn hp (thn (hc pins s1 σ1 H1 _ I1 (turn n σ1 H1 w1)) fun b s2 ⟨H2, I2, q2⟩ => ?_)
  cases b with
  | true =>
    obtain ⟨N, hN, q2⟩ := q2
    rw [if_pos rfl]
    refine wpAny_passesOwn hp (thn (hb pins s2 σ1 H2 _ I2 q2) fun f s3 q3 => ?_)
    cases f with
    | next =>
      obtain ⟨σ3, H3, I3, n3⟩ := q3
      obtain ⟨m', hm, w3⟩ := hN σ3 H3 n3
      exact ⟨m', hm, σ3, H3, I3, w3⟩
    | cont =>
      obtain ⟨σ3, H3, I3, n3⟩ := q3
      obtain ⟨m', hm, w3⟩ := hN σ3 H3 n3
      exact ⟨m', hm, σ3, H3, I3, w3⟩
    | brk => exact q3
    | ret v => exact q3
  | false =>
    rw [if_neg Bool.false_ne_true]
    exact wpAny_execs_nil ⟨σ1, H2, I2, q2⟩
end
structure It where
  go : Nat → Hp → Prop
  yld : Nat → Hp → V → Hp → Prop
  stop : Nat → Hp → Prop
def FpOk (X : Cx) (pins : List (Addr × Obj)) (H : Hp) (b : Addr) : Prop :=
  H b = none ∧ b ≠ X.env.locals ∧ b ∉ X.fs ∧ (b ∈ X.ex ∨ X.s₀.heap.objs.size ≤ b) ∧ (∀ x c, X.env.cells.lookup x = some c → c ≠ b) ∧ ∀ p ∈ X.pn ++ pins, p.1 ≠ b
theorem Inv.fpOk {X : Cx} {pins : List (Addr × Obj)} {σ : St} {H H' : Hp} {s : Shared} {b : Addr} (I : Inv X pins σ H s) (hb : s.heap.objs.size ≤ b) (hn : H' b = none) : FpOk X pins H' b := by
  refine ⟨hn, Nat.ne_of_gt (Nat.lt_of_lt_of_le I.lt hb), I.nofs hb, .inr (Nat.le_trans I.sz hb), fun x c e z => ?_, fun p hp z => ?_⟩
  · obtain ⟨v, q⟩ := I.cell x c e
    exact absurd (Nat.lt_of_lt_of_le q.lt (by rw [z]; exact hb)) (Nat.lt_irrefl _)
  · exact absurd (Nat.lt_of_lt_of_le (Heap.lt_size (I.pin p hp).1) (by rw [z]; exact hb)) (Nat.lt_irrefl _)
structure Turn (P : Program) (w : World) (K : PySem.W.Frag) (tg : Expr) (J : It) (fp : List Addr) (it : Addr) (tn : Nat → Heap → Prop) : Prop where
  mem : it ∈ fp
  obj : ∀ i h, tn i h → ∀ b ∈ fp, ∃ o, h.get? b = some o ∧ ∀ v, o.data ≠ .cell v
  keep : ∀ i h h', tn i h → (∀ b ∈ fp, ∀ o, h.get? b = some o → h'.get? b = some o) → tn i h'
  item : ∀ (X : Cx), X.prog = P → X.w = w → X.K = K → X.calm = true → ∀ (i : Nat) (pins : List (Addr × Obj)) (s : Shared) (σ : St) (H : Hp) (E : Value → Shared → Prop), Inv X pins σ H s → (∀ b ∈ fp, FpOk X pins H b) → tn i s.heap → J.go i H →
    wpAny (model P w) X.A (pyNext (.ref it)) (fun r s1 => ∃ u, r = some u ∧
      wpAny (model P w) X.A (letOwnedTupleGo tg (.ref it) u) (fun _ s2 => ∃ x H', Inv X pins σ H' s2 ∧ RelV x u ∧ J.yld i H x H' ∧ tn (i + 1) s2.heap ∧ ∀ b ∈ fp, H' b = none) E s1) E s
  done : ∀ (X : Cx), X.prog = P → X.w = w → X.K = K → X.calm = true → ∀ (i : Nat) (pins : List (Addr × Obj)) (s : Shared) (σ : St) (H : Hp) (E : Value → Shared → Prop), Inv X pins σ H s → (∀ b ∈ fp, FpOk X pins H b) → tn i s.heap → J.stop i H →
    wpAny (model P w) X.A (pyNext (.ref it)) (fun r s1 => r = none ∧ Inv X pins σ H s1) E s
  self : ∀ (A : Around) (i : Nat) (s : Shared) (Q : Value → Shared → Prop) (E : Value → Shared → Prop), tn i s.heap → Q (.ref it) s → wpAny (model P w) A (pyIter (.ref it)) Q E s
abbrev TI := St → Hp → (It → Hp → Prop) → Prop
def PIE (X : Cx) (pins : List (Addr × Obj)) (σ : St) (tg : Expr) (R : It → Hp → Prop) (itv : Value) (s2 : Shared) : Prop :=
  ∃ (it : Addr) (fp : List Addr) (tn : Nat → Heap → Prop) (J : It) (H' : Hp), itv = .ref it ∧ Inv X pins σ H' s2 ∧ Turn X.prog X.w X.K tg J fp it tn ∧ tn 0 s2.heap ∧ (∀ b ∈ fp, FpOk X pins H' b) ∧ R J H'
def PI (X : Cx) (tg iter : Expr) (wi : TI) : Prop :=
  ∀ (pins : List (Addr × Obj)) (s : Shared) (σ : St) (H : Hp) (R : It → Hp → Prop), Inv X pins σ H s → wi σ H R →
    wpAny (model X.prog X.w) X.A (eval iter X.env) (fun v s1 => wpAny (model X.prog X.w) X.A (pyIter v) (PIE X pins σ tg R) X.xe s1) X.xe s
theorem go_of {M : Model} {A : Around} {E : Value → Shared → Prop} {s : Shared} {tg : Expr} {it : Addr} {u : Value} {o : Obj} {n : String} {vs : Array Value} {Q : Unit → Shared → Prop} (ho : s.heap.get? it = some o) (hc : o.cls = .type n) (hd : o.data = .fields vs)
    (hn : ["enumerate", "zip", "dict_itemiterator", "dict_reverseitemiterator", "odict_iterator", "itertools.zip_longest", "itertools.pairwise"].contains n = false) (hQ : Q () s) : wpAny M A (letOwnedTupleGo tg (.ref it) u) Q E s := by
  unfold letOwnedTupleGo
  cases tg <;> first
    | exact wpAny_pure hQ
    | (cases u <;> first
        | exact wpAny_pure hQ
        | (refine wpAny_bind (wpAny_load ho ?_)
           rw [hc, hd]
           show wpAny M A (if (["enumerate", "zip", "dict_itemiterator", "dict_reverseitemiterator", "odict_iterator", "itertools.zip_longest", "itertools.pairwise"].contains n && vs[0]? == some (rawInt _)) = true then _ else _) Q E s
           rw [if_neg (by intro h; rw [hn, Bool.false_and] at h; cases h)]
           exact wpAny_pure hQ))
def Itl (K : PySem.W.Frag) (a : Addr) : It :=
  ⟨fun i H => ∃ xs x, SqL K H a xs ∧ xs[i]? = some x, fun i H x H' => H' = H ∧ ∀ xs, SqL K H a xs → xs[i]? = some x, fun i H => ∃ xs, SqL K H a xs ∧ xs.length ≤ i⟩
def Itt (K : PySem.W.Frag) (a : Addr) : It :=
  ⟨fun i H => ∃ xs x, SqT K H a xs ∧ xs[i]? = some x, fun i H x H' => H' = H ∧ ∀ xs, SqT K H a xs → xs[i]? = some x, fun i H => ∃ xs, SqT K H a xs ∧ xs.length ≤ i⟩
def Itr (lo : Int) (n : Nat) : It := ⟨fun i _ => i < n, fun i H x H' => H' = H ∧ x = .int (lo + i), fun i _ => n ≤ i⟩
theorem turn_list {P : Program} {w : World} {K : PySem.W.Frag} {tg : Expr} (a it : Addr) : Turn P w K tg (Itl K a) [it] it (fun i h => h.IsListIter it a i) where
  mem := by simp
  obj := fun i h st b hb => by
    have e : b = it := by simpa using hb
    subst e
    obtain ⟨o, e, c, d⟩ := st
    exact ⟨o, e, fun v z => by rw [d] at z; cases z⟩
  keep := fun i h h' st k => st.at fun o e => k it (by simp) o e
  item := by
    intro X hP hw hK hc i pins s σ H E I hf st hg
    subst hP hw hK
    obtain ⟨xs, x, hq, hx⟩ := hg
    obtain ⟨its, rv, p, hz⟩ := I.list hq
    obtain ⟨u, hu, ru⟩ := rv.get hx
    obtain ⟨f0, f1, f2, f3, f4, f5⟩ := hf it (by simp)
    refine wpAny_pyNext_list_item st p.isList (x := u) (by simpa using hu) fun h' st' sb => ?_
    have I1 : Inv X pins σ H { s with heap := h' } := I.turned (t' := s.toks) (fun b o hb e => (sb.2 b hb).trans e) f0 f1 f3 f4 f5
    obtain ⟨o, e, c, d⟩ := id st'
    exact ⟨u, rfl, go_of (s := { s with heap := h' }) e c d (by decide) ⟨x, H, I1, ru, ⟨rfl, fun ys hy => by rw [I.list_inj hy hq]; exact hx⟩, st', fun b hb => (hf b hb).1⟩⟩
  done := by
    intro X hP hw hK hc i pins s σ H E I hf st hg
    subst hP hw hK
    obtain ⟨xs, hq, hx⟩ := hg
    obtain ⟨its, rv, p, hz⟩ := I.list hq
    obtain ⟨f0, f1, f2, f3, f4, f5⟩ := hf it (by simp)
    have hl := rv.length
    exact wpAny_pyNext_list_end (I.ok.hd hc) st p.isList (by simp; omega) fun h' eb => ⟨rfl, I.turned (t' := s.toks) (fun b o hb e => eb b o hb e) f0 f1 f3 f4 f5⟩
  self := fun _ _ _ _ _ st h => wpAny_pyIter_listiter st h
theorem turn_tuple {P : Program} {w : World} {K : PySem.W.Frag} {tg : Expr} (a it : Addr) : Turn P w K tg (Itt K a) [it] it (fun i h => h.IsTupleIter it a i) where
  mem := by simp
  obj := fun i h st b hb => by
    have e : b = it := by simpa using hb
    subst e
    obtain ⟨o, e, c, d⟩ := st
    exact ⟨o, e, fun v z => by rw [d] at z; cases z⟩
  keep := fun i h h' st k => st.at fun o e => k it (by simp) o e
  item := by
    intro X hP hw hK hc i pins s σ H E I hf st hg
    subst hP hw hK
    obtain ⟨xs, x, hq, hx⟩ := hg
    obtain ⟨its, rv, p, hz⟩ := I.tuple hq
    obtain ⟨u, hu, ru⟩ := rv.get hx
    obtain ⟨f0, f1, f2, f3, f4, f5⟩ := hf it (by simp)
    refine wpAny_pyNext_tuple_item st (show s.heap.IsTuple a its.toArray from p) (x := u) (by simpa using hu) fun h' st' sb => ?_
    have I1 : Inv X pins σ H { s with heap := h' } := I.turned (t' := s.toks) (fun b o hb e => (sb.2 b hb).trans e) f0 f1 f3 f4 f5
    obtain ⟨o, e, c, d⟩ := id st'
    exact ⟨u, rfl, go_of (s := { s with heap := h' }) e c d (by decide) ⟨x, H, I1, ru, ⟨rfl, fun ys hy => by rw [I.tuple_inj hy hq]; exact hx⟩, st', fun b hb => (hf b hb).1⟩⟩
  done := by
    intro X hP hw hK hc i pins s σ H E I hf st hg
    subst hP hw hK
    obtain ⟨xs, hq, hx⟩ := hg
    obtain ⟨its, rv, p, hz⟩ := I.tuple hq
    obtain ⟨f0, f1, f2, f3, f4, f5⟩ := hf it (by simp)
    have hl := rv.length
    exact wpAny_pyNext_tuple_end (I.ok.hd hc) st (show s.heap.IsTuple a its.toArray from p) (by simp; omega) fun h' eb => ⟨rfl, I.turned (t' := s.toks) (fun b o hb e => eb b o hb e) f0 f1 f3 f4 f5⟩
  self := fun _ _ _ _ _ st h => wpAny_pyIter_tupleiter st h
theorem turn_range {P : Program} {w : World} {K : PySem.W.Frag} {tg : Expr} (it : Addr) (lo : Int) (n : Nat) : Turn P w K tg (Itr lo n) [it] it (fun i h => IsRangeIter h it (lo + (i : Nat) * 1) ((n : Int) - (i : Nat)) 1) where
  mem := by simp
  obj := fun i h st b hb => by
    have e : b = it := by simpa using hb
    subst e
    exact ⟨_, st, fun v z => by
      have z' : Data.fields _ = Data.cell v := z
      cases z'⟩
  keep := fun i h h' st k => k it (by simp) _ st
  item := by
    intro X hP hw hK hc i pins s σ H E I hf st hg
    subst hP hw hK
    obtain ⟨f0, f1, f2, f3, f4, f5⟩ := hf it (by simp)
    have W := Walks.range (prog := X.prog) (w := X.w) (I.ok.hd hc) it lo 1 n
    refine W.item i s _ _ hg st fun v h' tk hv st' kk => ?_
    obtain ⟨t, rfl⟩ := hv
    have I1 : Inv X pins σ H { s with heap := h', toks := tk } := I.turned (fun b o hb e => kk b o (by simpa using hb) e) f0 f1 f3 f4 f5
    refine ⟨_, rfl, go_of (s := { s with heap := h', toks := tk }) (n := "range_iterator") st' rfl rfl (by decide) ⟨.int (lo + i), H, I1, ⟨t, ?_⟩, ⟨rfl, rfl⟩, st', fun b hb => (hf b hb).1⟩⟩
    rw [Int.mul_one]
  done := by
    intro X hP hw hK hc i pins s σ H E I hf st hg
    subst hP hw hK
    obtain ⟨f0, f1, f2, f3, f4, f5⟩ := hf it (by simp)
    exact wpAny_pyNext_range_end (I.ok.hd hc) st (by have : n ≤ i := hg; omega) fun h' eb => ⟨rfl, I.turned (t' := s.toks) (fun b o hb e => eb b o hb e) f0 f1 f3 f4 f5⟩
  self := fun _ _ _ _ _ st h => wpAny_pyIter_rangeiter st h
end L2
namespace L2
open PySem PySem.Spec PyProof.Rows
section
variable {X : Cx} {tg : Expr}
def iList (K : PySem.W.Frag) (tl : TE) : TI := fun σ H R => tl σ H fun x H1 => ∃ a, x = .ref a ∧ (∃ xs, SqL K H1 a xs) ∧ R (Itl K a) H1
def iTup (K : PySem.W.Frag) (tl : TE) : TI := fun σ H R => tl σ H fun x H1 => ∃ a, x = .ref a ∧ (∃ xs, SqT K H1 a xs) ∧ R (Itt K a) H1
theorem pi_list {l : Expr} {tl : TE} (hl : PE X l tl) : PI X tg l (iList X.K tl) := by
  intro pins s σ H R I h
  refine thn (hl pins s σ H _ I h) fun v s1 ⟨x, H1, I1, r1, q1⟩ => ?_
  obtain ⟨a, e, ⟨xs, hq⟩, q⟩ := q1
  subst e
  cases r1
  obtain ⟨its, rv, p, hz⟩ := I1.list hq
  refine wpAny_pyIter_list p.isList ?_
  refine ⟨s1.heap.objs.size, [s1.heap.objs.size], _, _, H1, rfl, I1.kept (t' := s1.toks) fun b o e => Heap.get?_push_of_some _ e, turn_list a _, ⟨_, Heap.get?_push_size _ rfl, rfl, rfl⟩, fun b hb => ?_, q⟩
  have e : b = s1.heap.objs.size := by simpa using hb
  subst e
  exact I1.fpOk (Nat.le_refl _) (I1.hok.fresh (Nat.le_refl _))
theorem pi_tup {l : Expr} {tl : TE} (hl : PE X l tl) : PI X tg l (iTup X.K tl) := by
  intro pins s σ H R I h
  refine thn (hl pins s σ H _ I h) fun v s1 ⟨x, H1, I1, r1, q1⟩ => ?_
  obtain ⟨a, e, ⟨xs, hq⟩, q⟩ := q1
  subst e
  cases r1
  obtain ⟨its, rv, p, hz⟩ := I1.tuple hq
  refine wpAny_pyIter_tuple (show s1.heap.IsTuple a its.toArray from p) ?_
  refine ⟨s1.heap.objs.size, [s1.heap.objs.size], _, _, H1, rfl, I1.kept (t' := s1.toks) fun b o e => Heap.get?_push_of_some _ e, turn_tuple a _, ⟨_, Heap.get?_push_size _ rfl, rfl, rfl⟩, fun b hb => ?_, q⟩
  have e : b = s1.heap.objs.size := by simpa using hb
  subst e
  exact I1.fpOk (Nat.le_refl _) (I1.hok.fresh (Nat.le_refl _))
theorem range_it {pins : List (Addr × Obj)} {σ : St} {H : Hp} {s : Shared} {R : It → Hp → Prop} {E : Value → Shared → Prop} {lo hi : Int} {t u v : Tok} {tk : Nat} (I : Inv X pins σ H s) (h1 : -(2 ^ 62) ≤ lo) (h2 : lo < 2 ^ 62) (h3 : -(2 ^ 62) ≤ hi) (h4 : hi < 2 ^ 62)
    (q : R (Itr lo (hi - lo).toNat) H) : wpAny (model X.prog X.w) X.A (pyIter (.ref s.heap.objs.size)) (PIE X pins σ tg R) E { s with heap := s.heap.push { cls := .type "range", data := .fields #[.int lo t, .int hi u, .int 1 v] }, toks := tk } := by
  refine wpAny_pyIter_range (IsRange.new ..) (small_one h1 h2 h3 h4) ?_
  have I1 : Inv X pins σ H { s with heap := s.heap.push { cls := .type "range", data := .fields #[.int lo t, .int hi u, .int 1 v] }, toks := tk } := I.kept fun b o e => Heap.get?_push_of_some _ e
  refine ⟨(s.heap.push { cls := .type "range", data := .fields #[.int lo t, .int hi u, .int 1 v] }).objs.size, [(s.heap.push { cls := .type "range", data := .fields #[.int lo t, .int hi u, .int 1 v] }).objs.size], _, _, H, rfl,
    I1.kept (t' := tk) fun b o e => Heap.get?_push_of_some _ e, turn_range _ lo (hi - lo).toNat, ?_, fun b hb => ?_, q⟩
  · have e1 : lo + ((0 : Nat) : Int) * 1 = lo := by simp
    have e2 : (((hi - lo).toNat : Nat) : Int) - ((0 : Nat) : Int) = Builtin.Range.rangeSize lo hi 1 := by rw [rangeSize_one]; split <;> omega
    show IsRangeIter _ _ (lo + ((0 : Nat) : Int) * 1) ((((hi - lo).toNat : Nat) : Int) - ((0 : Nat) : Int)) 1
    rw [e1, e2]
    exact Heap.get?_push_size _ rfl
  · have e : b = (s.heap.push { cls := .type "range", data := .fields #[.int lo t, .int hi u, .int 1 v] }).objs.size := by simpa using hb
    subst e
    exact I1.fpOk (Nat.le_refl _) (I1.hok.fresh (Nat.le_refl _))
def iRng1 (ta : TA) : TI := fun σ H R => ta σ H fun vs H1 => ∃ j : Int, vs = [.int j] ∧ -(2 ^ 62) ≤ j ∧ j < 2 ^ 62 ∧ R (Itr 0 j.toNat) H1
theorem pi_range1 {a : Expr} {ta : TA} {p pos : Pos} (hg : Gl X "range") (hm : X.mg "range" = none) (ha : PA X [a] ta) (hs : starEach [a] X.env = [(false, eval a X.env)] := by rfl) : PI X tg (.Call (.Name "range" p) [a] [] pos) (iRng1 ta) := by
  intro pins s σ H R I h
  refine Call_ (ld_blt I hg hm boot_range (PyProof.Rows.callWith_type1 (thn (ha pos pins s σ H _ I h) fun us s1 ⟨vs, H1, I1, r1, q1⟩ => ?_) hs rfl))
  obtain ⟨j, e, q1, q2, q⟩ := q1
  subst e
  cases r1 with
  | cons r rr =>
    cases rr
    obtain ⟨t, rfl⟩ := r
    exact call_range_1 (range_it I1 (by omega) (by omega) q1 q2 (by simpa using q))
def tFor (wi : TI) (g : TG) (tb : TS) : TS := fun D σ H => wi σ H fun J H1 => ∃ W : Nat → Nat → St → Hp → Prop, (∃ m, W 0 m σ H1) ∧ ∀ i m σ H, W i m σ H →
  (J.stop i H ∧ D.nx σ H) ∨ (J.go i H ∧ ∃ N : St → Hp → Prop, (∀ σ' H', N σ' H' → ∃ m', m' < m ∧ W (i + 1) m' σ' H') ∧ ∀ x H', J.yld i H x H' → g x σ H' fun σ2 H2 => tb { D with nx := N, ct := N, bk := D.nx } σ2 H2)
def pinsAt (fp : List Addr) (h : Heap) : List (Addr × Obj) := fp.filterMap fun b => (h.get? b).map fun o => (b, o)
theorem mem_pinsAt {fp : List Addr} {h : Heap} {b : Addr} {o : Obj} (hb : b ∈ fp) (e : h.get? b = some o) : (b, o) ∈ pinsAt fp h := List.mem_filterMap.mpr ⟨b, hb, by rw [e]; rfl⟩
theorem of_pinsAt {fp : List Addr} {h : Heap} {p : Addr × Obj} (hp : p ∈ pinsAt fp h) : p.1 ∈ fp ∧ h.get? p.1 = some p.2 := by
  obtain ⟨b, hb, e⟩ := List.mem_filterMap.mp hp
  cases q : h.get? b with
  | none => rw [q] at e; cases e
  | some o =>
    rw [q] at e
    have e' : (b, o) = p := Option.some.inj e
    subst e'
    exact ⟨hb, q⟩
theorem Inv.pinned {pins : List (Addr × Obj)} {σ : St} {H : Hp} {s : Shared} {fp : List Addr} (I : Inv X pins σ H s) (hf : ∀ b ∈ fp, FpOk X pins H b) (ho : ∀ b ∈ fp, ∃ o, s.heap.get? b = some o ∧ ∀ v, o.data ≠ .cell v) : Inv X (pins ++ pinsAt fp s.heap) σ H s :=
  I.pins_of fun p hp => (List.mem_append.mp hp).elim (fun z => I.pin p (List.mem_append_right _ z)) fun z => by
    obtain ⟨hb, e⟩ := of_pinsAt z
    obtain ⟨f0, f1, f2, _⟩ := hf p.1 hb
    obtain ⟨o, e', d⟩ := ho p.1 hb
    rw [e] at e'; cases e'
    exact ⟨e, f0, f1, f2, d⟩
theorem Inv.unpinned {pins pl : List (Addr × Obj)} {σ : St} {H : Hp} {s : Shared} (I : Inv X (pins ++ pl) σ H s) : Inv X pins σ H s := I.pins_of fun p hp => I.pin p (List.mem_append_right _ (List.mem_append_left _ hp))
theorem ps_for {iter : Expr} {body : List Stmt} {wi : TI} {g : TG} {tb : TS} {pos : Pos} (hp : PassesOwn (model X.prog X.w) X.A X.env X.xe) (hc : X.calm = true) (hi : PI X tg iter wi) (hg : PG X tg g) (hb : PSs X body tb)
    (hs : ∀ x, foldedSetIterable iter X.env x = pure x := by intro _; rfl) : PS X (.For tg iter body [] pos) (tFor wi g tb) := by
  intro pins s σ H D I h
  refine wpAny_For (thn (hi pins s σ H _ I h) fun v s1 h1 => thn h1 fun itv s2 h2 => ?_) hs
  obtain ⟨it, fp, tn, J, H2, e, I2, T, st2, f2, W, ⟨m0, w0⟩, turn⟩ := h2
  subst e
  have stat : ∀ {H' : Hp}, (∀ b ∈ fp, H' b = none) → ∀ b ∈ fp, FpOk X pins H' b := fun hn b hb => ⟨hn b hb, (f2 b hb).2⟩
  refine codeAny_forLoop_any (fun n s' => ∃ i σ' H', Inv X pins σ' H' s' ∧ tn i s'.heap ∧ (∀ b ∈ fp, H' b = none) ∧ W i n σ' H') ?_ m0 ⟨0, σ, H2, I2, st2, fun b hb => (f2 b hb).1, w0⟩
  rintro n s3 ⟨i, σ3, H3, I3, st3, fr3, w3⟩
  rcases turn i n σ3 H3 w3 with ⟨stop, qn⟩ | ⟨go, N, hN, step⟩
  · refine wpAny_passesOwn hp (thn (T.done X rfl rfl rfl hc i pins s3 σ3 H3 X.xe I3 (stat fr3) st3 stop) fun r s4 ⟨hr, I4⟩ => ?_)
    subst hr
    exact wpAny_execs_nil ⟨σ3, H3, I4, qn⟩
  · refine wpAny_passesOwn hp (thn (T.item X rfl rfl rfl hc i pins s3 σ3 H3 X.xe I3 (stat fr3) st3 go) fun r s4 ⟨u, hr, h4⟩ => ?_)
    subst hr
    refine wpAny_passesOwn hp (thn h4 fun _ s5 ⟨x, H5, I5, r5, y5, st5, fr5⟩ => ?_)
    have I5' := I5.pinned (stat fr5) (T.obj _ _ st5)
    refine wpAny_passesOwn hp (thn (hg _ s5 σ3 H5 x u _ I5' r5 (step x H5 y5)) fun _ s6 ⟨σ6, H6, I6, q6⟩ => ?_)
    refine wpAny_passesOwn hp (thn (hb _ s6 σ6 H6 _ I6 q6) fun f s7 q7 => ?_)
    have again : ∀ {σ7 : St} {H7 : Hp}, Inv X (pins ++ pinsAt fp s5.heap) σ7 H7 s7 → N σ7 H7 → ∃ m, m < n ∧ ∃ i σ' H', Inv X pins σ' H' s7 ∧ tn i s7.heap ∧ (∀ b ∈ fp, H' b = none) ∧ W i m σ' H' := fun {σ7 H7} I7 n7 => by
      obtain ⟨m', hm, w7⟩ := hN σ7 H7 n7
      refine ⟨m', hm, i + 1, σ7, H7, I7.unpinned, T.keep _ _ _ st5 fun b hb o e => (I7.pin (b, o) (List.mem_append_right _ (List.mem_append_right _ (mem_pinsAt hb e)))).1, fun b hb => ?_, w7⟩
      obtain ⟨o, e, d⟩ := T.obj _ _ st5 b hb
      exact (I7.pin (b, o) (List.mem_append_right _ (List.mem_append_right _ (mem_pinsAt hb e)))).2.1
    cases f with
    | next => obtain ⟨σ7, H7, I7, n7⟩ := q7; exact again I7 n7
    | cont => obtain ⟨σ7, H7, I7, n7⟩ := q7; exact again I7 n7
    | brk => obtain ⟨σ7, H7, I7, q7⟩ := q7; exact ⟨σ7, H7, I7.unpinned, q7⟩
    | ret v => obtain ⟨x7, σ7, H7, I7, r7, q7⟩ := q7; exact ⟨x7, σ7, H7, I7.unpinned, r7, q7⟩
end
end L2
namespace L2
open PySem PySem.Spec PyProof.Rows
abbrev R2 := V → V → Hp → VK → Prop
def OpR (X : Cx) (f : Value → Value → Sem Value) (r : R2) : Prop :=
  ∀ (pins : List (Addr × Obj)) (s : Shared) (σ : St) (H : Hp) (x y : V) (v u : Value) (Q : VK), Inv X pins σ H s → RelV x v → RelV y u → r x y H Q →
    wpAny (model X.prog X.w) X.A (f v u) (EP X pins σ Q) X.xe s
def UnR (X : Cx) (f : Value → Sem Value) (r : V → Hp → VK → Prop) : Prop :=
  ∀ (pins : List (Addr × Obj)) (s : Shared) (σ : St) (H : Hp) (x : V) (v : Value) (Q : VK), Inv X pins σ H s → RelV x v → r x H Q →
    wpAny (model X.prog X.w) X.A (f v) (EP X pins σ Q) X.xe s
def CallR (X : Cx) (f : Value) (r : List V → Hp → VK → Prop) : Prop :=
  ∀ (pins : List (Addr × Obj)) (s : Shared) (σ : St) (H : Hp) (xs : List V) (us : List Value) (Q : VK), Inv X pins σ H s → Vals xs us → r xs H Q →
    wpAny (model X.prog X.w) X.A (call f us) (EP X pins σ Q) X.xe s
def TruR (X : Cx) (r : V → Hp → (Bool → Hp → Prop) → Prop) : Prop :=
  ∀ (pins : List (Addr × Obj)) (s : Shared) (σ : St) (H : Hp) (x : V) (v : Value) (Q : Bool → Hp → Prop), Inv X pins σ H s → RelV x v → r x H Q →
    wpAny (model X.prog X.w) X.A (truthy v) (TP X pins σ Q) X.xe s
def tOp (r : R2) (ta tb : TE) : TE := fun σ H Q => ta σ H fun x H1 => tb σ H1 fun y H2 => r x y H2 Q
def tUn (r : V → Hp → VK → Prop) (ta : TE) : TE := fun σ H Q => ta σ H fun x H1 => r x H1 Q
def rI (C : Int → Int → Prop) (g : Int → Int → V) : R2 := fun x y H Q => ∃ i j, x = .int i ∧ y = .int j ∧ C i j ∧ Q (g i j) H
def rI0 (g : Int → Int → V) : R2 := fun x y H Q => ∃ i j, x = .int i ∧ y = .int j ∧ Q (g i j) H
def rU (g : Int → V) : V → Hp → VK → Prop := fun x H Q => ∃ i, x = .int i ∧ Q (g i) H
section
variable {X : Cx} {a b c : Expr} {ta tb tc : TE} {pos : Pos}
theorem binT (ha : PE X a ta) (hb : PE X b tb) {pins : List (Addr × Obj)} {s : Shared} {σ : St} {H : Hp} {R : V → V → Hp → Prop} (I : Inv X pins σ H s)
    (h : ta σ H fun x H1 => tb σ H1 fun y H2 => R x y H2) {Q : Value → Shared → Prop} {f : Value → Value → Sem Value}
    (hf : ∀ v u s2 x y H2, Inv X pins σ H2 s2 → RelV x v → RelV y u → R x y H2 → wpAny (model X.prog X.w) X.A (f v u) Q X.xe s2) :
    wpAny (model X.prog X.w) X.A (eval a X.env) (fun v s₁ => wpAny (model X.prog X.w) X.A (eval b X.env) (fun u s₂ => wpAny (model X.prog X.w) X.A (f v u) Q X.xe s₂) X.xe s₁) X.xe s := by
  refine thn (ha pins s σ H _ I h) fun v s1 ⟨x, H1, I1, r1, q1⟩ => ?_
  refine thn (hb pins s1 σ H1 _ I1 q1) fun u s2 ⟨y, H2, I2, r2, q2⟩ => ?_
  exact hf v u s2 x y H2 I2 r1 r2 q2
theorem pe_op {op : Operator} {r : R2} (ho : OpR X (binaryOp op) r) (ha : PE X a ta) (hb : PE X b tb) : PE X (.BinOp a op b pos) (tOp r ta tb) := by
  intro pins s σ H Q I h
  exact wpAny_BinOp (binT ha hb I h fun v u s2 x y H2 I2 rx ry q => ho pins s2 σ H2 x y v u Q I2 rx ry q)
theorem pe_un {op : UnaryOp} {r : V → Hp → VK → Prop} (ho : UnR X (unaryOp op) r) (ha : PE X a ta) : PE X (.UnaryOp op a pos) (tUn r ta) := by
  intro pins s σ H Q I h
  exact UnaryOp_ (thn (ha pins s σ H _ I h) fun v s1 ⟨x, H1, I1, r1, q1⟩ => ho pins s1 σ H1 x v Q I1 r1 q1)
theorem opI {f : Value → Value → Sem Value} {C : Int → Int → Prop} {g : Int → Int → Int}
    (rule : ∀ (i j : Int) (t u : Tok) (s : Shared) (Q : Value → Shared → Prop) (E : Value → Shared → Prop), C i j → Q (.int (g i j) s.toks) { s with toks := s.toks + 1 } → wpAny (model X.prog X.w) X.A (f (.int i t) (.int j u)) Q E s) :
    OpR X f (rI C fun i j => .int (g i j)) := by
  intro pins s σ H x y v u Q I rx ry h
  obtain ⟨i, j, rfl, rfl, hc, q⟩ := h
  obtain ⟨t, rfl⟩ := rx
  obtain ⟨t', rfl⟩ := ry
  exact rule i j t t' s _ _ hc ⟨.int (g i j), H, I.tok _, ⟨_, rfl⟩, q⟩
theorem opI0 {f : Value → Value → Sem Value} {g : Int → Int → Int}
    (rule : ∀ (i j : Int) (t u : Tok) (s : Shared) (Q : Value → Shared → Prop) (E : Value → Shared → Prop), Q (.int (g i j) s.toks) { s with toks := s.toks + 1 } → wpAny (model X.prog X.w) X.A (f (.int i t) (.int j u)) Q E s) :
    OpR X f (rI0 fun i j => .int (g i j)) := by
  intro pins s σ H x y v u Q I rx ry h
  obtain ⟨i, j, rfl, rfl, q⟩ := h
  obtain ⟨t, rfl⟩ := rx
  obtain ⟨t', rfl⟩ := ry
  exact rule i j t t' s _ _ ⟨.int (g i j), H, I.tok _, ⟨_, rfl⟩, q⟩
theorem opB0 {f : Value → Value → Sem Value} {g : Int → Int → Bool}
    (rule : ∀ (i j : Int) (t u : Tok) (s : Shared) (Q : Value → Shared → Prop) (E : Value → Shared → Prop), Q (.bool (g i j)) s → wpAny (model X.prog X.w) X.A (f (.int i t) (.int j u)) Q E s) :
    OpR X f (rI0 fun i j => .bl (g i j)) := by
  intro pins s σ H x y v u Q I rx ry h
  obtain ⟨i, j, rfl, rfl, q⟩ := h
  obtain ⟨t, rfl⟩ := rx
  obtain ⟨t', rfl⟩ := ry
  exact rule i j t t' s _ _ ⟨.bl (g i j), H, I, rfl, q⟩
def CDiv (i j : Int) : Prop := 0 < j ∧ j < 1073741824
def CPow (i j : Int) : Prop := 0 ≤ j ∧ j ≤ 1000000 ∧ i.natAbs < 2 ^ 64
def CMul (i j : Int) : Prop := (-(2 ^ 64) < i ∧ i < 2 ^ 64) ∨ (-(2 ^ 64) < j ∧ j < 2 ^ 64)
theorem CMul.ok {i j : Int} (h : CMul i j) : IntMulOk i j := by
  rcases h with ⟨h1, h2⟩ | ⟨h1, h2⟩
  · exact .of_left (intBits_le_64 h1 h2)
  · exact .of_right (intBits_le_64 h1 h2)
theorem op_add : OpR X (binaryOp .Add) (rI0 fun i j => .int (i + j)) := opI0 fun _ _ _ _ _ _ _ q => add_int q
theorem op_sub : OpR X (binaryOp .Sub) (rI0 fun i j => .int (i - j)) := opI0 fun _ _ _ _ _ _ _ q => sub_int q
theorem op_mul : OpR X (binaryOp .Mult) (rI CMul fun i j => .int (i * j)) := opI fun _ _ _ _ _ _ _ hc q => mul_int q hc.ok
theorem op_fdiv : OpR X (binaryOp .FloorDiv) (rI CDiv fun i j => .int (i / j)) := opI fun i j _ _ _ _ _ hc q => by
  have h1 : (0 : Int) < j := hc.1
  have h2 : j < 1073741824 := hc.2
  exact floordiv_int (by omega) (by rw [Int.fdiv_eq_ediv_of_nonneg i (by omega)]; exact q) (.inl (PyProof.noPylong_small (by omega)))
theorem op_mod : OpR X (binaryOp .Mod) (rI (fun _ j => 0 < j) fun i j => .int (i % j)) := opI fun i j _ _ _ _ _ hc q => by
  have h1 : (0 : Int) < j := hc
  exact mod_int' (by omega) (by rw [Int.fmod_eq_emod_of_nonneg i (by omega)]; exact q)
theorem op_pow : OpR X (binaryOp .Pow) (rI CPow fun i j => .int (i ^ j.toNat)) := opI fun _ _ _ _ _ _ _ hc q => pow_int_small hc.1 hc.2.1 hc.2.2 q
theorem unI {f : Value → Sem Value} {g : Int → Int}
    (rule : ∀ (i : Int) (t : Tok) (s : Shared) (Q : Value → Shared → Prop) (E : Value → Shared → Prop), Q (.int (g i) s.toks) { s with toks := s.toks + 1 } → wpAny (model X.prog X.w) X.A (f (.int i t)) Q E s) :
    UnR X f (rU fun i => .int (g i)) := by
  intro pins s σ H x v Q I rx h
  obtain ⟨i, rfl, q⟩ := h
  obtain ⟨t, rfl⟩ := rx
  exact rule i t s _ _ ⟨.int (g i), H, I.tok _, ⟨_, rfl⟩, q⟩
theorem un_neg : UnR X (unaryOp .USub) (rU fun i => .int (-i)) := unI fun _ _ _ _ _ q => neg_int q
end
section
variable {X : Cx} {a b c : Expr} {ta tb tc : TE} {pos : Pos}
theorem op_lt : OpR X (compareOp .Lt) (rI0 fun i j => .bl (decide (i < j))) := opB0 fun _ _ _ _ _ _ _ q => lt_int q
theorem op_ge : OpR X (compareOp .GtE) (rI0 fun i j => .bl (decide (j ≤ i))) := opB0 fun _ _ _ _ _ _ _ q => ge_int q
theorem OpR.or {f : Value → Value → Sem Value} {r r' : R2} (h : OpR X f r) (h' : OpR X f r') : OpR X f (fun x y H Q => r x y H Q ∨ r' x y H Q) := by
  intro pins s σ H x y v u Q I rx ry q
  rcases q with q | q
  · exact h pins s σ H x y v u Q I rx ry q
  · exact h' pins s σ H x y v u Q I rx ry q
theorem nomark (b : Expr) {op : CmpOp} (h : op ≠ .In := by decide) (h2 : op ≠ .NotIn := by decide) : behindInMarks op b = false := by
  have e1 : (op == CmpOp.In) = false := by cases op <;> first | rfl | exact absurd rfl h
  have e2 : (op == CmpOp.NotIn) = false := by cases op <;> first | rfl | exact absurd rfl h2
  cases b <;> simp [behindInMarks, e1, e2]
theorem pe_cmpR {op : CmpOp} {r : R2} (ho : OpR X (compareOp op) r) (ha : PE X a ta) (hb : PE X b tb) (hm : behindInMarks op b = false) : PE X (.Compare a [op] [b] pos) (tOp r ta tb) := by
  intro pins s σ H Q I h
  exact wpAny_Compare1 (binT ha hb I h fun v u s2 x y H2 I2 rx ry q => ho pins s2 σ H2 x y v u Q I2 rx ry q) hm
def tTest (t : TE) : TT := fun σ H Q => t σ H fun x H' => ∃ k, x = .bl k ∧ Q k H'
theorem pt_cmpR {op : CmpOp} {r : R2} (ho : OpR X (compareOp op) r) (ha : PE X a ta) (hb : PE X b tb) (hm : behindInMarks op b = false) : PT X (.Compare a [op] [b] pos) (tTest (tOp r ta tb)) := by
  intro pins s σ H Q I h
  refine wpAny_isTrue_Compare1 (thn (ha pins s σ H _ I h) fun v s1 ⟨x, H1, I1, r1, q1⟩ => thn (hb pins s1 σ H1 _ I1 q1) fun u s2 ⟨y, H2, I2, r2, q2⟩ =>
    thn (ho pins s2 σ H2 x y v u _ I2 r1 r2 q2) fun c s3 ⟨z, H3, I3, r3, k, e, q3⟩ => ?_) hm
  subst e
  cases r3
  exact wpAny_truthy_bool ⟨H3, I3, q3⟩
def TruV (K : PySem.W.Frag) (x : V) (H : Hp) (k : Bool) : Prop :=
  match x with
  | .non => k = false
  | .bl b => k = b
  | .int i => k = (i != 0)
  | .str y => y.length ≤ sizeLine ∧ k = ((y.length : Int) != 0)
  | .byt y => y.size ≤ sizeLine ∧ k = ((y.size : Int) != 0)
  | .ref p => (∃ xs, SqL K H p xs ∧ k = !xs.isEmpty) ∨ (∃ xs, SqT K H p xs ∧ k = !xs.isEmpty) ∨ ∃ kvs, H p = some (.dK kvs) ∧ k = !kvs.isEmpty
  | _ => False
theorem isEmpty_kv {κ : Type} {kvs : List (κ × V)} {vs : List (κ × Value)} (r : KV kvs vs) : (!vs.isEmpty) = !kvs.isEmpty := by
  cases r <;> rfl
theorem isEmpty_of {xs : List V} {its : List Value} (r : Vals xs its) : (!its.toArray.isEmpty) = !xs.isEmpty := by
  cases r <;> simp
theorem line63 : (sizeLine : Nat) < 2 ^ 63 := by rw [sizeLine_eq]; decide
theorem tru_ok : TruR X (fun x H Q => ∃ k, TruV X.K x H k ∧ Q k H) := by
  intro pins s σ H x v Q I rx h
  obtain ⟨k, e, q⟩ := h
  have hl := line63
  have hs : sizeLine = 16777216 := sizeLine_eq
  cases x with
  | non =>
    cases rx
    have e' : k = false := e
    subst e'
    exact truthy_none ⟨H, I, q⟩
  | bl b =>
    cases rx
    have e' : k = b := e
    subst e'
    exact wpAny_truthy_bool ⟨H, I, q⟩
  | int i =>
    obtain ⟨t, rfl⟩ := rx
    have e' : k = (i != 0) := e
    subst e'
    exact PySem.P.truthy_int ⟨H, I, q⟩
  | str y =>
    obtain ⟨t, rfl⟩ := rx
    obtain ⟨hy, e'⟩ : y.length ≤ sizeLine ∧ k = ((y.length : Int) != 0) := e
    subst e'
    exact PySem.P.truthy_str (by omega) ⟨H, I.tok _, q⟩
  | byt y =>
    obtain ⟨t, rfl⟩ := rx
    obtain ⟨hy, e'⟩ : y.size ≤ sizeLine ∧ k = ((y.size : Int) != 0) := e
    subst e'
    exact PySem.W.truthy_bytes (by omega) ⟨H, I.tok _, q⟩
  | ref p =>
    cases rx
    have e' : (∃ xs, SqL X.K H p xs ∧ k = !xs.isEmpty) ∨ (∃ xs, SqT X.K H p xs ∧ k = !xs.isEmpty) ∨ ∃ kvs, H p = some (.dK kvs) ∧ k = !kvs.isEmpty := e
    rcases e' with ⟨xs, hx, e'⟩ | ⟨xs, hx, e'⟩ | ⟨kvs, hx, e'⟩
    · subst e'
      obtain ⟨its, r, pl, hz⟩ := I.list hx
      have hlen := r.length
      exact wpAny_truthy_list pl.isList (by simp only [List.size_toArray]; omega) ⟨H, I.tok _, by rw [isEmpty_of r]; exact q⟩
    · subst e'
      obtain ⟨its, r, pl, hz⟩ := I.tuple hx
      have hlen := r.length
      exact truthy_tuple pl (by simp only [List.size_toArray]; omega) ⟨H, I.tok _, by rw [isEmpty_of r]; exact q⟩
    · subst e'
      obtain ⟨hz, hS, vs, r, m⟩ : kvs.length ≤ sizeLine ∧ (p == sysModules) = false ∧ ∃ vs, KV kvs vs ∧ s.heap.DictOf (mixKind X.prog X.w) p vs := I.hok p _ hx
      have hlen : kvs.length = vs.length := Paired.length r
      exact wpAny_truthy_dict hS m (by omega) ⟨H, I.tok _, by rw [isEmpty_kv r]; exact q⟩
  | _ => exact (show False from e).elim
theorem pt_truth (ha : PE X a ta) (he : ∀ whole, isTrue a X.env whole = (do let v ← whole; standAt a.pos; holding [v] (truthy v))) :
    PT X a (fun σ H Q => ta σ H fun x H' => ∃ k, TruV X.K x H' k ∧ Q k H') := by
  intro pins s σ H Q I h
  exact isTrue_plain (thn (ha pins s σ H _ I h) fun v s1 ⟨x, H1, I1, r1, q1⟩ => tru_ok pins s1 σ H1 x v Q I1 r1 q1) (he _)
theorem vals1 {x : V} {us : List Value} (r : Vals [x] us) : ∃ u, us = [u] ∧ RelV x u := by
  cases r with
  | cons r1 r2 => cases r2; exact ⟨_, rfl, r1⟩
theorem vals2 {x y : V} {us : List Value} (r : Vals [x, y] us) : ∃ u w', us = [u, w'] ∧ RelV x u ∧ RelV y w' := by
  cases r with
  | cons r1 r2 =>
    cases r2 with
    | cons r3 r4 => cases r4; exact ⟨_, _, rfl, r1, r3⟩
theorem call_int1 : CallR X (.type "int") (fun xs H Q => (∃ i, xs = [.int i] ∧ Q (.int i) H) ∨ ∃ k, xs = [.bl k] ∧ Q (.int (if k then 1 else 0)) H) := by
  intro pins s σ H xs us Q I r h
  rcases h with ⟨i, rfl, q⟩ | ⟨k, rfl, q⟩
  · obtain ⟨u, rfl, t, rfl⟩ := vals1 r
    exact call_int_int ⟨.int i, H, I, ⟨_, rfl⟩, q⟩
  · obtain ⟨u, rfl, r1⟩ := vals1 r
    cases r1
    exact call_int_bool ⟨.int (if k then 1 else 0), H, I.tok _, ⟨_, rfl⟩, q⟩
end
end L2
namespace L2
open PySem PySem.Spec PyProof.Rows
structure ObjM (h : Heap) (x dx C : Addr) (mA : Str → Option Value) : Prop where
  obj : h.get? x = some (PySem.W.instObj C dx)
  ns : h.Ns1 dx mA
  ne : dx ≠ x
theorem lookIn_ns {h : Heap} {dx : Addr} {mA : Str → Option Value} (n : h.Ns1 dx mA) : ∃ od, h.get? dx = some od ∧ ∀ name, PySem.W.lookIn name od = some (mA name) := by
  obtain ⟨o, es, ep, ho, hd, hk, _, hm⟩ := n
  refine ⟨o, ho, fun name => ?_⟩
  have e := hm name
  unfold nsFind findBy at e
  rw [← Array.find?_toList] at e
  unfold PySem.W.lookIn
  rw [hd]
  dsimp only
  split
  · rename_i y q
    rw [q] at e
    exact congrArg some e
  · rename_i q
    rw [q] at e
    have a : es.toList.any (·.refKey) = false := by
      rw [List.any_eq_false]
      intro y hy
      obtain ⟨z, t, hkey⟩ := hk y (Array.mem_toList_iff.mp hy)
      simp [DictEntry.refKey, hkey]
    have a' : ¬ es.toList.any (·.refKey) = true := by rw [a]; exact Bool.false_ne_true
    rw [if_neg a']
    exact congrArg some e
theorem ObjM.look {h : Heap} {x dx C : Addr} {mA : Str → Option Value} (I : ObjM h x dx C mA) : ∃ od, PySem.W.InstAt h x (PySem.W.instObj C dx) C (some od) ∧ ∀ name, PySem.W.lookIn name od = some (mA name) :=
  let ⟨od, ho, hl⟩ := lookIn_ns I.ns
  ⟨od, ⟨I.obj, rfl, rfl, ho⟩, hl⟩
section
variable {prog : Program} {w : World} {A : Around} {E : Value → Shared → Prop} {s : Shared} {K : PySem.W.Frag} {x dx C f : Addr} {mA : Str → Option Value} {name : Str} {v : Value}
end
section
variable {P : Program} {w : World} {H H' : Hp} {h h' : Heap} {a C dx : Addr} {fs fs' : List (Str × V)}
theorem ins_get (hok : HOk P w H h) (e : H a = some (.ins C dx fs)) : ∃ mA, ObjM h a dx C mA ∧ (∀ f, RelO (fs.lookup f) (mA f)) ∧ PySem.Within mA (fs.map (·.1)) ∧ fs.length ≤ 1000 ∧ H dx = some (.own a) := by
  obtain ⟨d, z, ne, ob, mA, n, r, q⟩ := (show ObjOk P w H h a (.ins C dx fs) from hok a _ e)
  exact ⟨mA, ⟨ob, n, ne⟩, r, q, z, d⟩
end
structure Cls (K : PySem.W.Frag) (C : Addr) : Prop where
  pg : PySem.W.plainGet K C Str.empty = true
  hd : PySem.W.hasDictIn K C = true
  po : PySem.W.plainOver K C = true
  sa : PySem.W.findIn K (.ref C) "__setattr__" = some (some (.builtin "object.__setattr__"))
theorem Cls.get {K : PySem.W.Frag} {C : Addr} (c : Cls K C) (f : Str) : PySem.W.plainGet K C f = true := c.pg
section
variable {X : Cx} {pins : List (Addr × Obj)} {σ : St} {H : Hp} {s : Shared} {a C dx : Addr} {fs : List (Str × V)} {f : Str} {v : V} {A : Around} {E : Value → Shared → Prop}
theorem Inv.made (I : Inv X pins σ H s) : Inv X pins σ (upd (upd H s.heap.objs.size (.own (s.heap.objs.size + 1))) (s.heap.objs.size + 1) (.ins C s.heap.objs.size []))
    { s with heap := (s.heap.push PySem.W.emptyDict).push (PySem.W.instObj C s.heap.objs.size) } := by
  have e1 : (s.heap.push PySem.W.emptyDict).get? s.heap.objs.size = some PySem.W.emptyDict := Heap.get?_push_size s.heap rfl
  have e2 : ((s.heap.push PySem.W.emptyDict).push (PySem.W.instObj C s.heap.objs.size)).get? (s.heap.objs.size + 1) = some (PySem.W.instObj C s.heap.objs.size) := by
    have := Heap.get?_push_size (s.heap.push PySem.W.emptyDict) (o := PySem.W.instObj C s.heap.objs.size) rfl
    rwa [Heap.size_push] at this
  have e3 : (s.heap.push PySem.W.emptyDict).Ns s.heap.objs.size (fun _ => none) := ⟨PySem.W.emptyDict, #[], _, e1, rfl, (fun e he => absurd he (by simp)), fun _ => rfl⟩
  have I1 := I.laid (a := s.heap.objs.size) (o := .own (s.heap.objs.size + 1)) (h' := s.heap.push PySem.W.emptyDict) (t' := s.toks) (fun b u q => Heap.get?_push_of_some _ q) (Nat.le_refl _) ⟨_, e1⟩
  refine I1.laid (a := s.heap.objs.size + 1) (o := .ins C s.heap.objs.size []) (t' := s.toks) (fun b u q => Heap.get?_push_of_some _ q) (Nat.le_of_eq (Heap.size_push _ _)) ?_
  have ne : s.heap.objs.size ≠ s.heap.objs.size + 1 := Nat.ne_of_lt (Nat.lt_succ_self _)
  refine ⟨by rw [upd_ne ne, upd_same], Nat.zero_le _, ne, e2, fun _ => none, (Heap.Ns1.of_empty e3).at fun o q => Heap.get?_push_of_some _ q, fun _ => True.intro, fun y hy => absurd rfl hy⟩
end
section
variable {X : Cx} {o e value : Expr} {f : Str} {pos pos' tpos : Pos} {ta tv : TE}
end
section
variable {X : Cx} {pins : List (Addr × Obj)} {σ : St} {H : Hp} {s : Shared} {A : Around} {E : Value → Shared → Prop} {Q : Value → Shared → Prop} {c : Value} {b : Bool}
inductive TyOf (K : PySem.W.Frag) (H : Hp) : V → Value → Prop where
  | non : TyOf K H .non (.type "NoneType")
  | bl (x : Bool) : TyOf K H (.bl x) (.type "bool")
  | int (i : Int) : TyOf K H (.int i) (.type "int")
  | str (x : Str) : TyOf K H (.str x) (.type "str")
  | flt (x : UInt64) : TyOf K H (.flt x) (.type "float")
  | lst {a : Addr} {xs : List V} (e : H a = some (.lst xs)) : TyOf K H (.ref a) (.type "list")
  | frz {a : Addr} {o : Obj} {xs : List V} (e : H a = some (.frz o (.lst xs))) : TyOf K H (.ref a) (.type "list")
  | tup {a : Addr} {xs : List V} (e : H a = some (.tup xs)) : TyOf K H (.ref a) (.type "tuple")
  | dK {a : Addr} {kvs : List (Key × V)} (e : H a = some (.dK kvs)) : TyOf K H (.ref a) (.type "dict")
  | dT {a : Addr} {kvs : List (List Key × V)} (e : H a = some (.dT kvs)) : TyOf K H (.ref a) (.type "dict")
  | ins {a C dx : Addr} {fs : List (Str × V)} (e : H a = some (.ins C dx fs)) (cl : Cls K C) (ha : PySem.W.findIn K (.ref C) "__class__" = some (some (.builtin "object.__class__")))
      (hn : PySem.W.specialIn K (.builtin "object.__class__") "__get__" = some (some (.builtin "getset_descriptor.__get__"))) (htk : PySem.W.takesIn K (.builtin "object.__class__") = some true)
      (hm : PySem.W.mroIn K C (.type "object") = some true) : TyOf K H (.ref a) (.ref C)
theorem isinst_ok {x : V} {u t : Value} (I : Inv X pins σ H s) (rx : RelV x u) (ty : TyOf X.K H x t) (e : PySem.W.kitOne X.K t c = some b) (h : ∀ tk, Q (.bool b) { s with toks := tk }) :
    wpAny (model X.prog X.w) A (call (.builtin "isinstance") [u, c]) Q E s := by
  cases ty with
  | non => cases (show u = Value.none from rx); exact PySem.W.kia_one PySem.W.kitx_none I.kIn True.intro e (fun z => nomatch z) h
  | bl y => cases (show u = Value.bool y from rx); exact PySem.W.kia_one PySem.W.kitx_bool I.kIn True.intro e (fun z => nomatch z) h
  | int i => obtain ⟨t, q⟩ := (show ∃ t, u = Value.int i t from rx); cases q; exact PySem.W.kia_one PySem.W.kitx_int I.kIn True.intro e (fun z => nomatch z) h
  | str y => obtain ⟨t, q⟩ := (show ∃ t, u = Value.str y t from rx); cases q; exact PySem.W.kia_one PySem.W.kitx_str I.kIn True.intro e (fun z => nomatch z) h
  | flt y => obtain ⟨t, q⟩ := (show ∃ t, u = Value.float y t from rx); cases q; exact PySem.W.kia_one PySem.W.kitx_float I.kIn True.intro e (fun z => nomatch z) h
  | @lst a xs ea =>
    cases (show u = Value.ref a from rx)
    obtain ⟨_, _, n, _, h1⟩ := (show ObjOk X.prog X.w H s.heap a (.lst xs) from I.hok a _ ea)
    exact PySem.W.kia_one PySem.W.kitx_list I.kIn ⟨_, h1, rfl⟩ e (fun z => nomatch z) h
  | @frz a ob xs ea =>
    cases (show u = Value.ref a from rx)
    obtain ⟨_, _, _, n, _, h1⟩ := (show ObjOk X.prog X.w H s.heap a (.frz ob (.lst xs)) from I.hok a _ ea)
    exact PySem.W.kia_one PySem.W.kitx_list I.kIn ⟨_, h1, rfl⟩ e (fun z => nomatch z) h
  | @tup a xs ea =>
    cases (show u = Value.ref a from rx)
    obtain ⟨_, _, _, p⟩ := (show ObjOk X.prog X.w H s.heap a (.tup xs) from I.hok a _ ea)
    obtain ⟨o, h1, h2, _⟩ := p
    exact PySem.W.kia_one PySem.W.kitx_tuple I.kIn ⟨o, h1, h2⟩ e (fun z => nomatch z) h
  | @dK a kvs ea =>
    cases (show u = Value.ref a from rx)
    obtain ⟨_, _, vs, _, p⟩ := (show ObjOk X.prog X.w H s.heap a (.dK kvs) from I.hok a _ ea)
    obtain ⟨o, es, ep, h1, h2, _⟩ := p
    exact PySem.W.kia_one PySem.W.kitx_dict I.kIn ⟨o, h1, h2.1⟩ e (fun z => nomatch z) h
  | @dT a kvs ea =>
    cases (show u = Value.ref a from rx)
    obtain ⟨_, _, xs, _, o, es, ep, h1, h2, _⟩ := (show ObjOk X.prog X.w H s.heap a (.dT kvs) from I.hok a _ ea)
    exact PySem.W.kia_one PySem.W.kitx_dict I.kIn ⟨o, h1, h2.1⟩ e (fun z => nomatch z) h
  | @ins a C dx fs ea cl ha hn htk hm =>
    cases (show u = Value.ref a from rx)
    obtain ⟨mA, O, _⟩ := ins_get I.hok ea
    obtain ⟨od, J, _⟩ := O.look
    exact PySem.W.kia_one (PySem.W.kitx_own (cl.get _) cl.hd ha hn htk hm) I.kIn J e (fun z => nomatch z) h
end
end L2
namespace L2
open PySem PySem.Spec PyProof.Rows
structure Room (k : Nat) (A : Around) : Prop where
  hd : A.handled = none
  dp : A.depth + 3 * k + 5 < recursionLimit
  un : A.units + 16 * k + 200 < cLine
theorem Room.mono {j k : Nat} {A : Around} (r : Room k A) (h : j ≤ k) : Room j A := ⟨r.hd, by have := r.dp; omega, by have := r.un; omega⟩
theorem Room.deeper {k : Nat} {A : Around} (r : Room (k + 1) A) (env : Env) : Room k (A.deeper env) :=
  ⟨r.hd, by have := r.dp; show A.depth + 1 + 3 * k + 5 < _; omega, by have := r.un; show A.units + 3 + 16 * k + 200 < _; omega⟩
theorem Room.in1 {k : Nat} {A : Around} (r : Room (k + 1) A) : Room k A.in1 :=
  ⟨r.hd, by have := r.dp; show A.depth + 3 * k + 5 < _; omega, by have := r.un; show A.units + 1 + 16 * k + 200 < _; omega⟩
theorem Room.depth {k : Nat} {A : Around} (r : Room k A) : A.depth < recursionLimit := by have := r.dp; omega
theorem Room.units {k : Nat} {A : Around} (r : Room k A) : A.units + 64 < cLine := by have := r.un; omega
def tNil : TA := fun _ H Q => Q [] H
def tCons (ta : TE) (tr : TA) : TA := fun σ H Q => ta σ H fun x H1 => tr σ H1 fun xs H2 => Q (x :: xs) H2
section
variable {X : Cx} {e : Expr} {es : List Expr} {te : TE} {t : TA} {pos : Pos}
theorem pa_nil : PA X [] tNil := fun _ _ _ _ H Q I h => Calls.spliced_nil ⟨[], H, I, .nil, h⟩
theorem pa_cons (ha : PE X e te) (hr : PA X es t) (hs : starEach (e :: es) X.env = (false, eval e X.env) :: starEach es X.env := by rfl) : PA X (e :: es) (tCons te t) := by
  intro pos pins s σ H Q I h
  rw [hs]
  show wpAny _ _ (spliced ((false, eval e X.env) :: backTo pos (starEach es X.env))) _ _ s
  refine Calls.spliced_cons (thn (ha pins s σ H _ I h) fun u s1 ⟨x, H1, I1, r1, q1⟩ => ?_)
  exact thn (hr pos pins s1 σ H1 _ I1 q1) fun us s2 ⟨xs, H2, I2, r2, q2⟩ => ⟨x :: xs, H2, I2, .cons r1 r2, q2⟩
def tTup (t : TA) : TE := fun σ H Q => t σ H fun xs H1 => xs.length ≤ sizeLine ∧ ∀ p, H1 p = none → Q (.ref p) (upd H1 p (.tup xs))
def tLst (t : TA) : TE := fun σ H Q => t σ H fun xs H1 => xs.length ≤ sizeLine ∧ ∀ p, H1 p = none → Q (.ref p) (upd H1 p (.lst xs))
theorem pe_tup {x1} (h : PA X es t) : PE X (.Tuple es x1 pos) (tTup t) := by
  intro pins s σ H Q I hq
  refine wpAny_Tuple_spliced (thn (h pos pins s σ H _ I hq) fun us s1 ⟨xs, H1, I1, r, z, q⟩ => ⟨by rw [← r.length]; exact z, ?_⟩)
  have hf : H1 s1.heap.objs.size = none := I1.hok.fresh (Nat.le_refl _)
  refine ⟨.ref s1.heap.objs.size, upd H1 s1.heap.objs.size (.tup xs), I1.laid (t' := s1.toks) (fun b u e => Heap.get?_push_of_some _ e) (Nat.le_refl _) ?_, rfl, q _ hf⟩
  exact ⟨z, us, r, ⟨_, Heap.get?_push_size _ rfl, rfl, _, rfl⟩⟩
theorem pe_lst (h : PA X es t) : PE X (.List es pos) (tLst t) := by
  intro pins s σ H Q I hq
  refine wpAny_List_spliced (thn (h pos pins s σ H _ I hq) fun us s1 ⟨xs, H1, I1, r, z, q⟩ => ⟨by rw [← r.length]; exact z, ?_⟩)
  have hf : H1 s1.heap.objs.size = none := I1.hok.fresh (Nat.le_refl _)
  refine ⟨.ref s1.heap.objs.size, upd H1 s1.heap.objs.size (.lst xs), I1.laid (t' := s1.toks) (fun b u e => Heap.get?_push_of_some _ e) (Nat.le_refl _) ?_, rfl, q _ hf⟩
  exact ⟨z, us, 0, r, Heap.get?_push_size _ rfl⟩
end
abbrev Sp := List V → Hp → VK → XK → Prop
abbrev CXT := List Env → Hp → Shared → XK → Value → Shared → Prop
structure Env0 (P : Program) (w : World) (K : PySem.W.Frag) (mg : Str → Option Value) (base : Heap) (A : Around) (outer : List Env) (s : Shared) (H : Hp) : Prop where
  frames : A.frames = some outer
  mod : Mod K mg base
  bs : ∀ b o, base.get? b = some o → s.heap.get? b = some o ∧ H b = none
  bsz : base.objs.size ≤ s.heap.objs.size
  funs : s.heap.FunFrames base outer
  frf : ∀ b ∈ frs outer, H b = none
  hok : HOk P w H s.heap
  bare : AllBare s.gens
def CE (outer : List Env) (P : Program) (w : World) (H : Hp) (s : Shared) (Q : VK) (u : Value) (s' : Shared) : Prop :=
  ∃ v H', s'.os = s.os ∧ AllBare s'.gens ∧ Un (frs outer) [] H H' s.heap s'.heap ∧ HOk P w H' s'.heap ∧ RelV v u ∧ Q v H'
def CR (CX : CXT) (outer : List Env) (P : Program) (w : World) (H : Hp) (s : Shared) (Q : VK) (E : XK) (r : Result) (s' : Shared) : Prop :=
  match r with
  | .ok (.ret u) => CE outer P w H s Q u s'
  | .ok _ => False
  | .error e => CX outer H s E e s'
structure FnOk (P : Program) (w : World) (K : PySem.W.Frag) (mg : Str → Option Value) (base : Heap) (CX : CXT) (k : Nat) (f : Addr) (fd : FuncData) (ps : List Str) (sp : Sp) : Prop where
  len : ∀ vs H Q E, sp vs H Q E → vs.length = ps.length
  run : ∀ (A : Around) (outer : List Env) (s : Shared) (H : Hp) (args : Args) (us : List Value) (vs : List V) (Q : VK) (E : XK), Room k A → Env0 P w K mg base A outer s H → BindsTo s fd args (ps.zip us) → Vals vs us → sp vs H Q E →
    codeAny (model P w) A (.call (.ref f) args) (CR CX outer P w H s Q E) s
theorem FnOk.mono {P : Program} {w : World} {K : PySem.W.Frag} {mg : Str → Option Value} {base : Heap} {CX : CXT} {j k : Nat} {f : Addr} {fd : FuncData} {ps : List Str} {sp : Sp} (F : FnOk P w K mg base CX j f fd ps sp) (h : j ≤ k) :
    FnOk P w K mg base CX k f fd ps sp := ⟨F.len, fun A outer s H args us vs Q E hr => F.run A outer s H args us vs Q E (hr.mono h)⟩
theorem Env0.in1 {P : Program} {w : World} {K : PySem.W.Frag} {mg : Str → Option Value} {base : Heap} {A : Around} {outer : List Env} {s : Shared} {H : Hp} (e : Env0 P w K mg base A outer s H) :
    Env0 P w K mg base A.in1 outer s H := ⟨e.frames, e.mod, e.bs, e.bsz, e.funs, e.frf, e.hok, e.bare⟩
section
variable {X : Cx} {pins : List (Addr × Obj)} {σ : St} {H : Hp} {s s' : Shared}
theorem Inv.env0 (I : Inv X pins σ H s) : Env0 X.prog X.w X.K X.mg X.base X.A X.stack s H :=
  ⟨I.ok.frames, I.ok.mod, I.bs, Nat.le_trans I.ok.bsz I.sz, I.stack, I.stkFree, I.hok, I.bare⟩
theorem Inv.after {Q : VK} {u : Value} (I : Inv X pins σ H s) (h : CE X.stack X.prog X.w H s Q u s') : EP X pins σ Q u s' := by
  obtain ⟨v, H', os, bare, un, hok, r, q⟩ := h
  obtain ⟨hh, g, d, t, os'⟩ := s'
  obtain rfl : os' = s.os := os
  exact ⟨v, H', I.call (h' := hh) (g' := g) (d' := d) (t' := t) (ch := []) un hok bare (fun b z => absurd z (by simp)), r, q⟩
end
def tCall (sp : Sp) (dvs : List V) (E : XK) (t : TA) : TE := fun σ H Q => t σ H fun vs H1 => sp (vs ++ dvs) H1 Q E
def Binds (K : PySem.W.Frag) (fd : FuncData) (ps : List Str) (ds : List Value) : Prop :=
  ∀ (s : Shared) (us : List Value), K.In s.heap → (us ++ ds).length = ps.length → BindsTo s fd ⟨us, []⟩ (ps.zip (us ++ ds))
theorem Binds.all {K : PySem.W.Frag} {fd : FuncData} {ps : List Str} (h : ∀ us : List Value, us.length = ps.length → bindArgs fd ⟨us, []⟩ = pure (ps.zip us)) : Binds K fd ps [] := fun s us _ hl => by
  rw [List.append_nil] at hl ⊢
  exact .of_eq (h us hl)
def Passes (CX : CXT) (X : Cx) (E : XK) : Prop := ∀ (pins : List (Addr × Obj)) (σ : St) (H : Hp) (s : Shared) (e : Value) (s' : Shared), Inv X pins σ H s → CX X.stack H s E e s' → X.xe e s'
section
variable {X : Cx} {CX : CXT} {k : Nat} {f C : Addr} {fd : FuncData} {ps : List Str} {sp : Sp} {dvs : List V} {ds : List Value} {E : XK} {x m : Str} {p pos apos : Pos} {e o : Expr} {es : List Expr} {ta : TE} {t : TA}
theorem run_fn {pins : List (Addr × Obj)} {σ : St} {H : Hp} {s : Shared} {Q : VK} {us : List Value} {vs : List V} (F : FnOk X.prog X.w X.K X.mg X.base CX k f fd ps sp) (hr : Room k X.A) (hb : Binds X.K fd ps ds) (hd : Vals dvs ds) (hx : Passes CX X E)
    (I : Inv X pins σ H s) (r : Vals vs us) (h : sp (vs ++ dvs) H Q E) : wpAny (model X.prog X.w) X.A (call (.ref f) us) (EP X pins σ Q) X.xe s := by
  have r2 : Vals (vs ++ dvs) (us ++ ds) := r.append hd
  have hl : (us ++ ds).length = ps.length := by rw [← r2.length]; exact F.len _ _ _ _ h
  refine wpAny_call (codeAny_mono (F.run X.A X.stack s H ⟨us, []⟩ (us ++ ds) (vs ++ dvs) Q E hr I.env0 (hb s us I.kIn hl) r2 h) fun r s' hq => ?_)
  cases r with
  | error e => exact hx pins σ H s e s' I hq
  | ok fl =>
    cases fl with
    | ret u => exact I.after hq
    | next => exact False.elim hq
    | brk => exact False.elim hq
    | cont => exact False.elim hq
theorem pe_call (F : FnOk X.prog X.w X.K X.mg X.base CX k f fd ps sp) (hr : Room k X.A) (hg : Gl X x) (hm : X.mg x = some (.ref f)) (hk : PySem.W.keepIn X.K (.ref f) = true) (hb : Binds X.K fd ps ds) (hd : Vals dvs ds) (hx : Passes CX X E)
    (ha : PA X (e :: es) t) (hdb : (x == ("__debug__" : Str)) = false := by decide) (he : starEach (e :: es) X.env = (false, eval e X.env) :: starEach es X.env := by rfl) (hpl : (backTo pos (starEach es X.env)).any (·.1) = false := by rfl) :
    PE X (.Call (.Name x p) (e :: es) [] pos) (tCall sp dvs E t) := by
  intro pins s σ H Q I h
  refine wpAny_Call_Name_kw (ld_glob I hg hm ?_ hdb)
  refine PySem.W.callWith_K (h₀ := X.base) I.ok.mod.kin hk (thn (ha pos pins s σ H _ I h) fun us s1 ⟨vs, H1, I1, r, q⟩ => ⟨I1.kIn, ?_⟩) he hpl
  exact run_fn F hr hb hd hx I1 r q
end
section
variable {X : Cx} {CX : CXT} {k : Nat} {f C : Addr} {fd : FuncData} {ps ks : List Str} {sp : Sp} {E : XK} {x m : Str} {p pos apos kpos : Pos} {e o : Expr} {es : List Expr} {kws : List Keyword} {te ta : TE} {t tk : TA} {nm : Option Str}
variable {g : List Value → List Value → List Value} {gV : List V → List V → List V}
end
structure FnScope (N P : List Str) (sc : Scope) : Prop where
  kind : sc.kind = .function
  co : sc.isCoroutine = false
  gen : sc.isGenerator = false
  nd : N.Nodup
  pre : N.take P.length = P
  par : ∀ x ∈ P, sc.names.lookup x = some .local ∨ sc.names.lookup x = some .cell
  nofree : ∀ y ∈ sc.names, y.2 ≠ .free
theorem bindL_out {kindOf : Str → Option NameKind} {x : Str} : ∀ {binds : List (Str × Value)} {m : Str → Option Value}, (∀ v, (x, v) ∉ binds) → bindL kindOf binds m x = m x
  | [], _, _ => rfl
  | (n, v) :: r, m, h => by
    unfold bindL
    rw [bindL_out fun w hw => h w (List.mem_cons_of_mem _ hw)]
    split
    · have : x ≠ n := by rintro rfl; exact h v List.mem_cons_self
      simp [this]
    · rfl
theorem bindC_out {kindOf : Str → Option NameKind} {x : Str} : ∀ {binds : List (Str × Value)} {m : Str → Option Value}, (∀ v, (x, v) ∉ binds) → bindC kindOf binds m x = m x
  | [], _, _ => rfl
  | (n, v) :: r, m, h => by
    unfold bindC
    rw [bindC_out fun w hw => h w (List.mem_cons_of_mem _ hw)]
    split
    · rfl
    · have : x ≠ n := by rintro rfl; exact h v List.mem_cons_self
      simp [this]
theorem bindL_get {kindOf : Str → Option NameKind} {x : Str} {v : Value} : ∀ {P : List Str} {vs : List Value} {i : Nat} {m : Str → Option Value}, P.Nodup → P[i]? = some x → vs[i]? = some v → kindOf x = some .local →
    bindL kindOf (P.zip vs) m x = some v
  | [], _, _, _, _, h, _, _ => by simp at h
  | _ :: _, [], _, _, _, _, h, _ => by simp at h
  | p :: P, w :: vs, 0, m, nd, h1, h2, hk => by
    simp at h1 h2; subst h1; subst h2
    show bindL kindOf ((p, w) :: P.zip vs) m p = _
    unfold bindL
    rw [bindL_out fun v hv => (List.nodup_cons.mp nd).1 (List.of_mem_zip hv).1, if_pos hk]
    simp
  | p :: P, w :: vs, i + 1, m, nd, h1, h2, hk => by
    show bindL kindOf ((p, w) :: P.zip vs) m x = _
    unfold bindL
    exact bindL_get (i := i) (List.nodup_cons.mp nd).2 (by simpa using h1) (by simpa using h2) hk
theorem bindC_get {kindOf : Str → Option NameKind} {x : Str} {v : Value} : ∀ {P : List Str} {vs : List Value} {i : Nat} {m : Str → Option Value}, P.Nodup → P[i]? = some x → vs[i]? = some v → kindOf x ≠ some .local →
    bindC kindOf (P.zip vs) m x = some v
  | [], _, _, _, _, h, _, _ => by simp at h
  | _ :: _, [], _, _, _, _, h, _ => by simp at h
  | p :: P, w :: vs, 0, m, nd, h1, h2, hk => by
    simp at h1 h2; subst h1; subst h2
    show bindC kindOf ((p, w) :: P.zip vs) m p = _
    unfold bindC
    rw [bindC_out fun v hv => (List.nodup_cons.mp nd).1 (List.of_mem_zip hv).1, if_neg hk]
    simp
  | p :: P, w :: vs, i + 1, m, nd, h1, h2, hk => by
    show bindC kindOf ((p, w) :: P.zip vs) m x = _
    unfold bindC
    exact bindC_get (i := i) (List.nodup_cons.mp nd).2 (by simpa using h1) (by simpa using h2) hk
def start (N : List Str) (vs : List V) : St := vs.map some ++ List.replicate (N.length - vs.length) none
def cxOf (CX : CXT) (P : Program) (w : World) (K : PySem.W.Frag) (mg : Str → Option Value) (base : Heap) (N : List Str) (qual : Str) (scope : Scope) (f : Addr) (cd : Value) (A : Around) (outer : List Env) (s : Shared) (H : Hp) (E : XK) : Cx where
  prog := P
  w := w
  K := K
  mg := mg
  base := base
  A := A.deeper (envOfC qual scope s.heap.objs.size f cd)
  N := N
  s₀ := s
  H₀ := H
  env := envOfC qual scope s.heap.objs.size f cd
  outer := outer
  stack := envOfC qual scope s.heap.objs.size f cd :: outer
  ex := []
  calm := true
  fn := fun _ => true
  pn := []
  xe := fun e s' => wpAny (model P w) (A.deeper (envOfC qual scope s.heap.objs.size f cd)) (leaving (envOfC qual scope s.heap.objs.size f cd) e) (fun _ s'' => CX outer H s E e s'') (fun e' s'' => CX outer H s E e' s'') s'
theorem cell_has {sc : Scope} {n : Nat} {x : Str} (h : sc.names.lookup x = some .cell) : ∃ c, (cellsFrom n sc.names []).lookup x = some c := by
  have q := PySem.W.cellsFrom_some sc.names n [] (.inl h)
  exact Option.isSome_iff_exists.mp q
theorem inv_start {CX : CXT} {P : Program} {w : World} {K : PySem.W.Frag} {mg : Str → Option Value} {base : Heap} {N ps : List Str} {qual : Str} {scope : Scope} {f : Addr} {cd : Value} {A : Around} {outer : List Env} {s s1 : Shared} {H : Hp} {E : XK} {us : List Value} {vs : List V}
    (S : FnScope N ps scope) (hd : A.handled = none) (e0 : Env0 P w K mg base A outer s H) (hl : vs.length = ps.length) (r : Vals vs us)
    (x : InCallC s s.heap.objs.size (bindL (envOfC qual scope s.heap.objs.size f cd).kindOf (ps.zip us) fun _ => none) (cellsFrom (s.heap.objs.size + 1) scope.names []) (bindC (envOfC qual scope s.heap.objs.size f cd).kindOf (ps.zip us) fun _ => none) s1) :
    Inv (cxOf CX P w K mg base N qual scope f cd A outer s H E) [] (start N vs) H s1 := by
  have hpl : ps.length ≤ N.length := by have := congrArg List.length S.pre; rw [List.length_take] at this; omega
  obtain ⟨h1, tk, rfl, hk⟩ := x.done
  have noA : ∀ b : Addr, b ∉ (cxOf CX P w K mg base N qual scope f cd A outer s H E).ex := fun b z => absurd (show b ∈ ([] : List Addr) from z) (by simp)
  refine ⟨⟨e0.mod, S.kind, rfl, rfl, Nat.le_refl _, fun y z c h1 h2 => ?_, fun y hy => ?_, fun y c _ h => ?_, fun _ => hd, Around.frames_deeper e0.frames, .inr ⟨rfl, rfl⟩, fun b z => absurd z (noA b), e0.bs, e0.bsz, fun b _ _ => noA b, fun b z => absurd z (noA b), e0.funs, e0.frf⟩,
    rfl, e0.bare, Un.kept hk, ⟨_, x.toInCall.ns, fun i y v h1 h2 h3 => ?_⟩, fun y c h => ⟨_, x.cell y c h⟩, e0.hok.fresh (Nat.le_refl _), fun y c h => ?_, fun p hp => absurd (show p ∈ ([] : List (Addr × Obj)) from hp) (by simp), e0.hok.kept hk, ?_⟩
  · exact name_of_addr x.apart (PySem.mem_of_lookup h1) (PySem.mem_of_lookup h2)
  · have hy : scope.names.lookup y = some .cell ∨ scope.names.lookup y = some .free := hy
    rcases hy with hy | hy
    · exact cell_has hy
    · exact absurd rfl (S.nofree _ (PySem.mem_of_lookup hy))
  · exact Nat.le_of_lt (x.above y c (PySem.mem_of_lookup h))
  · have hi : i < vs.length := by
      unfold start at h2
      by_cases hi : i < vs.length
      · exact hi
      · rw [List.getElem?_append_right (by simpa using hi)] at h2
        rw [List.getElem?_replicate] at h2
        split at h2 <;> cases h2
    have ha : vs[i]? = some v := by
      unfold start at h2
      rw [List.getElem?_append_left (by simpa using hi), List.getElem?_map] at h2
      cases e : vs[i]? with
      | none => rw [e] at h2; cases h2
      | some a => rw [e] at h2; cases h2; rfl
    obtain ⟨u, hu, rv⟩ := r.get ha
    have hp : ps[i]? = some y := by
      rw [← S.pre, List.getElem?_take_of_lt (by omega)]; exact h1
    have ndP : ps.Nodup := by rw [← S.pre]; exact S.nd.sublist (List.take_sublist _ _)
    refine ⟨u, rv, ?_⟩
    rcases S.par y (List.mem_of_getElem? hp) with k | k
    · exact .inl ⟨k, bindL_get ndP hp hu k⟩
    · obtain ⟨c, e⟩ := cell_has (n := s.heap.objs.size + 1) k
      refine .inr ⟨.inl k, c, e, ?_⟩
      have q := x.cell y c e
      rw [bindC_get ndP hp hu (by show scope.names.lookup y ≠ _; rw [k]; decide)] at q
      exact q
  · exact e0.hok.fresh (Nat.le_of_lt (x.above y c (PySem.mem_of_lookup h)))
  · unfold start
    show _ = N.length
    rw [List.length_append, List.length_map, List.length_replicate]
    omega
theorem fn_of {CX : CXT} {P : Program} {w : World} {K : PySem.W.Frag} {mg : Str → Option Value} {base : Heap} {k : Nat} {f : Addr} {name qual : Str} {params : Arguments} {body : List Stmt} {scope : Scope} {dV kV doc pm cdv ct oc : Value} {an od : Option Addr}
    {osl : Array (Option Value)} {N ps : List Str} {sp : Sp} (lk : K.lookup f = some ⟨oc, od, .func (PySem.W.fnOf name qual params body scope dV kV doc pm an cdv ct), osl⟩) (hcd : PySem.W.codeIn K cdv qual = true) (S : FnScope N ps scope)
    (len : ∀ vs H Q E, sp vs H Q E → vs.length = ps.length)
    (hbody : ∀ (A : Around) (outer : List Env) (s : Shared) (H : Hp) (vs : List V) (Q : VK) (E : XK), Room k (A.deeper (envOfC qual scope s.heap.objs.size f cdv)) → sp vs H Q E →
      ∃ t, PSs (cxOf CX P w K mg base N qual scope f cdv A outer s H E) body t ∧ t { nx := fun _ H' => Q .non H', rt := Q } (start N vs) H) :
    FnOk P w K mg base CX (k + 1) f (PySem.W.fnOf name qual params body scope dV kV doc pm an cdv ct) ps sp := by
  refine ⟨len, fun A outer s H args us vs Q E hr e0 hb r hsp => ?_⟩
  have hl := len _ _ _ _ hsp
  have KX : K.In s.heap := e0.mod.kin.keeps fun b o e => (e0.bs b o e).1
  have lim : s.heap.NoLimit := e0.mod.nolimit.keeps fun b o e => (e0.bs b o e).1
  have hkind : ∀ y ∈ ps.zip us, scope.names.lookup y.1 = some .local ∨ (scope.names.lookup y.1 = some .cell ∧ ((cellsFrom (s.heap.objs.size + 1) scope.names []).lookup y.1).isSome = true) := fun ⟨n, v⟩ hy => by
    rcases S.par n (List.of_mem_zip hy).1 with q | q
    · exact .inl q
    · exact .inr ⟨q, PySem.W.cellsFrom_some _ _ _ (.inl q)⟩
  refine codeAny_call_function hr.depth (KX _ _ lk) rfl S.co S.gen rfl (PySem.W.codeRec_of KX hcd) (hb _ _ _ _ ?_)
  refine wpAny_newFunctionEnv_cells S.kind hkind fun env he s1 x => ?_
  subst he
  refine ⟨lim.keeps x.toInCall.keep, codeAny_func ?_⟩
  obtain ⟨t, ht, hq⟩ := hbody A outer s H vs Q E (hr.deeper _) hsp
  have I : Inv (cxOf CX P w K mg base N qual scope f cdv A outer s H E) [] (start N vs) H s1 := inv_start S hr.hd e0 hl r x
  refine wpAny_mono (ht [] s1 (start N vs) H _ I hq) (fun fl s' hs => ?_) fun e s' hs => hs
  have fin : ∀ {σ' : St} {H' : Hp} {v : V} {u : Value}, Inv (cxOf CX P w K mg base N qual scope f cdv A outer s H E) [] σ' H' s' → RelV v u → Q v H' → CE outer P w H s Q u s' :=
    fun {σ' H' v u} J rv q => ⟨v, H', J.os, J.bare, J.base, J.hok, rv, q⟩
  cases fl with
  | ret u =>
    obtain ⟨v, σ', H', J, rv, q⟩ := hs
    exact fin J rv q
  | next =>
    obtain ⟨σ', H', J, q⟩ := hs
    exact fin (v := V.non) (u := Value.none) J rfl q
  | brk =>
    obtain ⟨_, _, _, q⟩ := hs
    exact False.elim q
  | cont =>
    obtain ⟨_, _, _, q⟩ := hs
    exact False.elim q
end L2
namespace L2
open PySem PySem.Spec PyProof.Rows
section
variable {X : Cx} {x : Str} {p pos : Pos} {e : Expr} {es : List Expr} {t : TA} {id T : String} {r : List V → Hp → VK → Prop}
def tCB (r : List V → Hp → VK → Prop) (t : TA) : TE := fun σ H Q => t σ H fun vs H1 => r vs H1 Q
theorem pe_callB (hc : CallR X (.builtin id) r) (hg : Gl X x) (hm : X.mg x = none) (hv : bootBuiltins x = some (.builtin id)) (ha : PA X (e :: es) t) (hn : x ≠ "__name__" := by decide) (hdb : (x == ("__debug__" : Str)) = false := by decide)
    (he : starEach (e :: es) X.env = (false, eval e X.env) :: starEach es X.env := by rfl) (hpl : (backTo pos (starEach es X.env)).any (·.1) = false := by rfl) : PE X (.Call (.Name x p) (e :: es) [] pos) (tCB r t) := by
  intro pins s σ H Q I h
  refine wpAny_Call_Name_kw (ld_blt I hg hm hv ?_ hn hdb)
  exact PyProof.Rows.callWith_builtin1 (thn (ha pos pins s σ H _ I h) fun us s1 ⟨vs, H1, I1, r1, q1⟩ => hc pins s1 σ H1 vs us Q I1 r1 q1) he hpl
theorem pe_callTy (hc : CallR X (.type T) r) (hg : Gl X x) (hm : X.mg x = none) (hv : bootBuiltins x = some (.type T)) (ha : PA X (e :: es) t) (hn : x ≠ "__name__" := by decide) (hdb : (x == ("__debug__" : Str)) = false := by decide)
    (he : starEach (e :: es) X.env = (false, eval e X.env) :: starEach es X.env := by rfl) (hpl : (backTo pos (starEach es X.env)).any (·.1) = false := by rfl) : PE X (.Call (.Name x p) (e :: es) [] pos) (tCB r t) := by
  intro pins s σ H Q I h
  refine wpAny_Call_Name_kw (ld_blt I hg hm hv ?_ hn hdb)
  exact PyProof.Rows.callWith_type1 (thn (ha pos pins s σ H _ I h) fun us s1 ⟨vs, H1, I1, r1, q1⟩ => hc pins s1 σ H1 vs us Q I1 r1 q1) he hpl
end
end L2
namespace HT
open PySem PyProof.Rows
section
open PySem.SeqAt
open PySem.AutoSeq1 (wpAny_loadPart')
open PySem.MeetsSeq PySem.MeetsSeq2 PySem.MeetsSeq3
end
section
variable {prog : Program} {w : World} {A : Around} {E : Value → Shared → Prop} {s : Shared}
theorem cat_tup {t b : Addr} {vs ws : List Value} {Q : Value → Shared → Prop} (ht : IsTup s.heap t vs.toArray) (hb : IsTup s.heap b ws.toArray) (hv : vs ≠ [])
    (h1 : ws = [] → Q (.ref t) s) (h2 : ws ≠ [] → Q (.ref s.heap.objs.size) { s with heap := s.heap.push { cls := .type "tuple", data := .seq (vs ++ ws).toArray } })
    (hsz : vs.length + ws.length ≤ sizeLine) : wpAny (model prog w) A (binaryOp .Add (.ref t) (.ref b)) Q E s := by
  obtain ⟨⟨cls, dd, data, sl⟩, ho, hc, n, hd⟩ := id ht
  obtain ⟨⟨cls2, dd2, data2, sl2⟩, ho2, hc2, n2, hd2⟩ := id hb
  simp only at hc hd hc2 hd2
  subst hc hd hc2 hd2
  have e : vs.toArray ++ ws.toArray = (vs ++ ws).toArray := by simp
  by_cases hw : ws = []
  · exact concat_meets ⟨_, ho, rfl⟩ ⟨_, ho2, rfl⟩ noFill_tuple_add seq_tuple_add PySem.F.slot_tuple_add PySem.F.entry_tuple_add (PySem.F.args_tuple_add_2 _ _)
      (tuple_addW1 t b vs.toArray ws.toArray n n2 dd dd2 sl sl2 (by simpa using hv) (by simp [hw])) ⟨ho, ho2, h1 hw⟩
  · refine concat_meets ⟨_, ho, rfl⟩ ⟨_, ho2, rfl⟩ noFill_tuple_add seq_tuple_add PySem.F.slot_tuple_add PySem.F.entry_tuple_add (PySem.F.args_tuple_add_2 _ _)
      (tuple_addW2 t b vs.toArray ws.toArray n n2 dd dd2 sl sl2 (by simpa using hv) (by simpa using hw) (by rw [List.size_toArray, List.size_toArray]; exact hsz)) ⟨ho, ho2, ?_⟩
    rw [e]
    exact h2 hw
def sIx (n d : Nat) : Option Int → Nat
  | none => d
  | some v => if v < 0 then (v + (n : Int)).toNat else min v.toNat n
theorem sIx_none (n d : Nat) : sIx n d none = d := rfl
theorem sIx_nat (n d k : Nat) : sIx n d (some (k : Int)) = min k n := by
  show (if (k : Int) < 0 then ((k : Int) + (n : Int)).toNat else min (k : Int).toNat n) = min k n
  rw [if_neg (by omega), Int.toNat_natCast]
theorem sIx_le (n d : Nat) (hd : d ≤ n) (o : Option Int) : sIx n d o ≤ n := by
  cases o with
  | none => exact hd
  | some v =>
    show (if v < 0 then (v + (n : Int)).toNat else min v.toNat n) ≤ n
    by_cases hv : v < 0
    · rw [if_pos hv]; omega
    · rw [if_neg hv]; exact Nat.min_le_right _ _
theorem clip_eq (v : Int) (n d : Nat) : (if v < 0 then max (v + (n : Int)) 0 else min v (n : Int)) = ((sIx n d (some v) : Nat) : Int) := by
  show (if v < 0 then max (v + (n : Int)) 0 else min v (n : Int)) = (((if v < 0 then (v + (n : Int)).toNat else min v.toNat n) : Nat) : Int)
  by_cases hv : v < 0
  · simp only [if_pos hv]; omega
  · simp only [if_neg hv]; omega
theorem adjust_gen (lo hi : Option Int) (n : Nat) : Builtin.Slice.sliceAdjust lo hi 1 (n : Int) = (((sIx n 0 lo : Nat) : Int), ((sIx n n hi : Nat) : Int)) := by
  have h1 : ¬ ((1 : Int) < 0) := by omega
  unfold Builtin.Slice.sliceAdjust
  simp only [h1, if_false]
  refine Prod.ext ?_ ?_
  · cases lo with
    | none => rfl
    | some v => exact clip_eq v n 0
  · cases hi with
    | none => rfl
    | some v => exact clip_eq v n n
theorem places_gen (i j : Nat) : Builtin.Slice.slicePlaces (i : Int) (j : Int) 1 = j - i := by
  unfold Builtin.Slice.slicePlaces
  have h1 : (1 : Int) > 0 := by omega
  simp only [h1, if_true, Int.ediv_one]
  split <;> omega
theorem slicePart_ {v : Value} {o : Option Int} {Q : Option Int → Shared → Prop} (p : IsPart v o) (h : Q o s) : wpAny (model prog w) A (Builtin.Slice.slicePartIndex v) Q E s := by
  cases p with
  | none => exact slicePart_none h
  | int i t => exact slicePart_int h
theorem sliceApplied_gen {sl : Addr} {vl vu : Value} {lo hi : Option Int} {n : Nat} {Q : Int × Int × Nat → Shared → Prop} (hs : s.heap.IsSliceOf sl vl vu .none) (pl : IsPart vl lo) (pu : IsPart vu hi)
    (h : Q (((sIx n 0 lo : Nat) : Int), 1, sIx n n hi - sIx n 0 lo) s) : wpAny (model prog w) A (Builtin.Slice.sliceApplied (.ref sl) (pure (n : Int))) Q E s := by
  obtain ⟨os, hos, hcs, hds⟩ := id hs
  unfold Builtin.Slice.sliceApplied Builtin.Slice.sliceFields
  refine wpAny_bind (wpAny_bind (wpAny_field hos hds (x := vl) rfl (wpAny_bind (wpAny_field hos hds (x := vu) rfl (wpAny_bind (wpAny_field hos hds (x := .none) rfl (wpAny_pure ?_)))))))
  refine wpAny_bind (slicePart_none ?_)
  show wpAny _ _ (if ((1 : Int) == 0) = true then _ else _) _ _ s
  rw [if_neg (by decide)]
  refine wpAny_bind (slicePart_ pl (wpAny_bind (slicePart_ pu (wpAny_bind (wpAny_pure ?_)))))
  show wpAny _ _ (match Builtin.Slice.sliceAdjust lo hi 1 (n : Int) with | (lo, hi) => pure (lo, (1 : Int), Builtin.Slice.slicePlaces lo hi 1)) _ _ s
  rw [adjust_gen lo hi n]
  show wpAny _ _ (pure (((sIx n 0 lo : Nat) : Int), (1 : Int), Builtin.Slice.slicePlaces ((sIx n 0 lo : Nat) : Int) ((sIx n n hi : Nat) : Int) 1)) _ _ s
  rw [places_gen]
  exact wpAny_pure h
theorem pick_gen (xs : Array Value) (i k : Nat) : ((List.range k).filterMap fun (m : Nat) => xs[((i : Int) + (m : Int) * 1).toNat]?).toArray = ((xs.toList.drop i).take k).toArray := by
  have e : (fun (m : Nat) => xs[((i : Int) + (m : Int) * 1).toNat]?) = fun m => xs[i + m]? := by
    funext m
    have : ((i : Int) + (m : Int) * 1).toNat = i + m := by omega
    rw [this]
  rw [e]
  have := pick_run xs i k
  rw [List.filterMap_map] at this
  have e2 : ((fun x => xs[x]?) ∘ fun x => i + x) = fun m => xs[i + m]? := rfl
  rw [e2] at this
  rw [this]
theorem getItem_tuple_cut {t sl : Addr} {items : Array Value} {vl vu : Value} {lo hi : Option Int} {Q : Value → Shared → Prop} (ht : IsTup s.heap t items) (hs : s.heap.IsSliceOf sl vl vu .none) (pl : IsPart vl lo) (pu : IsPart vu hi)
    (hw : ¬ (sIx items.size 0 lo = 0 ∧ sIx items.size items.size hi = items.size))
    (h : Q (.ref s.heap.objs.size) { s with heap := s.heap.push { cls := .type "tuple", data := .seq ((items.toList.drop (sIx items.size 0 lo)).take (sIx items.size items.size hi - sIx items.size 0 lo)).toArray } })
    (hsz : items.size ≤ sizeLine) : wpAny (model prog w) A (getItem (.ref t) (.ref sl)) Q E s := by
  have htake : sizeOk (.seq ((items.toList.drop (sIx items.size 0 lo)).take (sIx items.size items.size hi - sIx items.size 0 lo)).toArray) := by
    show ((items.toList.drop (sIx items.size 0 lo)).take (sIx items.size items.size hi - sIx items.size 0 lo)).toArray.size ≤ sizeLine
    rw [List.size_toArray, List.length_take, List.length_drop, Array.length_toList]
    omega
  have hj : sIx items.size items.size hi ≤ items.size := sIx_le _ _ (Nat.le_refl _) hi
  obtain ⟨os, hos, hcs, hds⟩ := id hs
  have hTs : s.TypeIs (.ref sl) "slice" := ⟨os, hos, hcs⟩
  unfold getItem
  try with_reducible refine wpAny_holding ?_
  first | refine wpAny_bind (wpAny_pure ?_) | skip
  refine wpAny_bind (wpAny_sequenceKey ht.typeIs (by decide) ?_)
  refine wpAny_bind (wpAny_callSpecial?_slot (name := Str.ofString "__getitem__") ht.typeIs PyProof.Rows.slot_tuple_getitem
    (wpAny_call_entry PyProof.Rows.slot_tuple_getitem ht.typeIs entry_tuple_getitem ?_ (args_tuple_getitem _ _)))
  show wpAny _ _ (Builtin.Tuple.tupleItemsOf (.ref t) >>= _) _ _ s
  refine wpAny_bind (tupleItemsOf_ ht ?_)
  refine wpAny_bind (wpAny_typeOf hTs ?_)
  rw [if_pos (by decide)]
  refine wpAny_bind (sliceApplied_gen hs pl pu ?_)
  have hno : ¬ ((((sIx items.size 0 lo : Nat) : Int) == 0 && (1 : Int) == 1 && (sIx items.size items.size hi - sIx items.size 0 lo) == items.size) = true) := by
    intro q
    rw [Bool.and_eq_true, Bool.and_eq_true] at q
    have q1 : ((sIx items.size 0 lo : Nat) : Int) = 0 := eq_of_beq q.1.1
    have q2 : sIx items.size items.size hi - sIx items.size 0 lo = items.size := eq_of_beq q.2
    exact hw ⟨by omega, by omega⟩
  show wpAny _ _ (if (((sIx items.size 0 lo : Nat) : Int) == 0 && (1 : Int) == 1 && (sIx items.size items.size hi - sIx items.size 0 lo) == items.size) = true then _ else _) _ _ s
  rw [if_neg hno, pick_gen]
  first
    | exact wpAny_bind (m := Builtin.Tuple.tupleExact _) (wpAny_newObj_type (wpAny_pure ⟨_, rfl, wpAny_pure h⟩) htake)
    | exact wpAny_bind (m := Builtin.Tuple.tupleExact _) (wpAny_newObj_type (wpAny_bind (wpAny_pure (wpAny_pure ⟨_, rfl, wpAny_pure h⟩))) htake)
    | exact wpAny_bind (wpAny_bind (m := Builtin.Tuple.tupleExact _) (wpAny_newObj_type (wpAny_pure (wpAny_pure ⟨_, rfl, wpAny_pure h⟩)) htake))
    | exact wpAny_bind (wpAny_bind (m := Builtin.Tuple.tupleExact _) (wpAny_newObj_type (wpAny_pure ⟨_, rfl, wpAny_pure h⟩) htake))
end
end HT
namespace L2
open PySem PySem.Spec PyProof.Rows
abbrev TO := St → Hp → (Option Int → Hp → Prop) → Prop
def PO (X : Cx) (e : Option Expr) (t : TO) : Prop :=
  ∀ (pins : List (Addr × Obj)) (s : Shared) (σ : St) (H : Hp) (Q : Option Int → Hp → Prop), Inv X pins σ H s → t σ H Q →
    wpAny (model X.prog X.w) X.A (evalPart e X.env) (fun u s' => ∃ o H', Inv X pins σ H' s' ∧ IsPart u o ∧ Q o H') X.xe s
def tNoPart : TO := fun _ H Q => Q none H
def tPart (t : TE) : TO := fun σ H Q => t σ H fun x H1 => ∃ i, x = .int i ∧ Q (some i) H1
theorem intsAre_of {ns : List Int} : ∀ {us : List Value}, Vals (ns.map V.int) us → IntsAre us ns := by
  induction ns with
  | nil => intro us r; rw [List.map_nil] at r; cases r; exact .nil
  | cons n ns ih =>
    intro us r
    rw [List.map_cons] at r
    cases r with
    | cons r1 r2 =>
      obtain ⟨t, e⟩ := r1
      subst e
      exact .cons n t (ih r2)
section
variable {X : Cx} {e : Expr} {te : TE} {lo hi : Option Expr} {tl th : TO} {pos p2 : Pos}
theorem po_none : PO X none tNoPart := by
  intro pins s σ H Q I h
  rw [evalPart_none]
  exact wpAny_pure ⟨none, H, I, .none, h⟩
theorem po_some (h : PE X e te) : PO X (some e) (tPart te) := by
  intro pins s σ H Q I hw
  rw [evalPart_some]
  refine thn (h pins s σ H _ I hw) fun u s1 ⟨x, H1, I1, r1, q1⟩ => ?_
  obtain ⟨i, rfl, q⟩ := q1
  obtain ⟨t, rfl⟩ := r1
  exact ⟨some i, H1, I1, .int i t, q⟩
def SlR (X : Cx) (r : V → Option Int → Option Int → Hp → VK → Prop) : Prop :=
  ∀ (pins : List (Addr × Obj)) (s : Shared) (σ : St) (H : Hp) (x : V) (v vl vu : Value) (lo hi : Option Int) (sl : Addr) (Q : VK), Inv X pins σ H s → RelV x v → s.heap.IsSliceOf sl vl vu .none → IsPart vl lo → IsPart vu hi → r x lo hi H Q →
    ∃ T id, typeLookup (.type T) "__getitem__" = pure (some (.builtin id)) ∧ s.TypeIs v T ∧ wpAny (model X.prog X.w) X.A (getItem v (.ref sl)) (EP X pins σ Q) X.xe s
theorem SlR.or {r r' : V → Option Int → Option Int → Hp → VK → Prop} (h : SlR X r) (h' : SlR X r') : SlR X (fun x lo hi H Q => r x lo hi H Q ∨ r' x lo hi H Q) := by
  intro pins s σ H x v vl vu lo hi sl Q I rx hs pl pu q
  rcases q with q | q
  · exact h pins s σ H x v vl vu lo hi sl Q I rx hs pl pu q
  · exact h' pins s σ H x v vl vu lo hi sl Q I rx hs pl pu q
def tSl (r : V → Option Int → Option Int → Hp → VK → Prop) (te : TE) (tl th : TO) : TE := fun σ H Q => te σ H fun x H1 => tl σ H1 fun l H2 => th σ H2 fun u H3 => r x l u H3 Q
theorem pe_slice {r : V → Option Int → Option Int → Hp → VK → Prop} (hr : SlR X r) (he : PE X e te) (hl : PO X lo tl) (hu : PO X hi th) : PE X (.Subscript e (.Slice lo hi none p2) pos) (tSl r te tl th) := by
  intro pins s σ H Q I h
  refine Subscript_ (thn (he pins s σ H _ I h) fun v s1 ⟨x, H1, I1, r1, q1⟩ => ?_)
  refine wpAny_Slice (thn (hl pins s1 σ H1 _ I1 q1) fun vl s2 ⟨l, H2, I2, pl, q2⟩ => thn (hu pins s2 σ H2 _ I2 q2) fun vu s3 ⟨u, H3, I3, pu, q3⟩ => ?_)
  rw [evalPart_none]
  refine wpAny_pure ?_
  have I4 : Inv X pins σ H3 { s3 with heap := s3.heap.push { cls := .type "slice", data := .fields #[vl, vu, .none] } } := I3.kept (t' := s3.toks) fun b ob q => Heap.get?_push_of_some _ q
  obtain ⟨T, id, hT, ht, hg⟩ := hr pins { s3 with heap := s3.heap.push { cls := .type "slice", data := .fields #[vl, vu, .none] } } σ H3 x v vl vu l u s3.heap.objs.size Q I4 r1 (Heap.IsSliceOf.new ..) pl pu q3
  show wpAny (model X.prog X.w) X.A (subscriptTail e (.Slice lo hi none p2) v (.ref s3.heap.objs.size)) (EP X pins σ Q) X.xe { s3 with heap := s3.heap.push { cls := .type "slice", data := .fields #[vl, vu, .none] } }
  exact tail_any (ops := [.ref s3.heap.objs.size, v]) ht hT hg (by with_unfolding_all rfl)
def cutV (xs : List V) (lo hi : Option Int) : List V := (xs.drop (HT.sIx xs.length 0 lo)).take (HT.sIx xs.length xs.length hi - HT.sIx xs.length 0 lo)
theorem cutV_length (xs : List V) (lo hi : Option Int) : (cutV xs lo hi).length ≤ xs.length := by
  unfold cutV
  rw [List.length_take, List.length_drop]
  omega
def rSlT (K : PySem.W.Frag) : V → Option Int → Option Int → Hp → VK → Prop := fun x lo hi H Q => ∃ a xs, x = .ref a ∧ SqT K H a xs ∧
  ¬ (HT.sIx xs.length 0 lo = 0 ∧ HT.sIx xs.length xs.length hi = xs.length) ∧ ∀ p, H p = none → Q (.ref p) (upd H p (.tup (cutV xs lo hi)))
theorem sl_tup : SlR X (rSlT X.K) := by
  intro pins s σ H x v vl vu lo hi sl Q I rx hs pl pu h
  obtain ⟨a, xs, rfl, hx, hw, q⟩ := h
  cases rx
  obtain ⟨its, r, ht, hz⟩ := I.tuple hx
  have hlen : its.toArray.size = xs.length := by rw [List.size_toArray]; exact r.length.symm
  refine ⟨"tuple", _, PyProof.Rows.slot_tuple_getitem.lookup, ht.typeIs, ?_⟩
  refine HT.getItem_tuple_cut ht hs pl pu (by rw [hlen]; exact hw) ?_ (by rw [hlen]; exact hz)
  rw [hlen]
  refine ⟨.ref s.heap.objs.size, _, I.laid (t' := s.toks) (o := .tup (cutV xs lo hi)) (fun b ob q => Heap.get?_push_of_some _ q) (Nat.le_refl _) ?_, rfl, q _ (I.hok.fresh (Nat.le_refl _))⟩
  exact ⟨Nat.le_trans (cutV_length xs lo hi) hz, _, (r.drop (HT.sIx xs.length 0 lo)).take (HT.sIx xs.length xs.length hi - HT.sIx xs.length 0 lo), IsTup.new _ _⟩
def rCatT (K : PySem.W.Frag) : R2 := fun x y H Q => ∃ a b xs ys, x = .ref a ∧ y = .ref b ∧ SqT K H a xs ∧ SqT K H b ys ∧ xs ≠ [] ∧ xs.length + ys.length ≤ sizeLine ∧
  (ys = [] → Q (.ref a) H) ∧ (ys ≠ [] → ∀ p, H p = none → Q (.ref p) (upd H p (.tup (xs ++ ys))))
theorem Vals.nil_iff {xs : List V} {us : List Value} (r : Vals xs us) : us = [] ↔ xs = [] := by
  cases r with
  | nil => simp
  | cons _ _ => simp
theorem op_catT : OpR X (binaryOp .Add) (rCatT X.K) := by
  intro pins s σ H x y v u Q I rx ry h
  obtain ⟨a, b, xs, ys, rfl, rfl, ha, hb, hx, hz, q1, q2⟩ := h
  cases rx
  cases ry
  obtain ⟨its, r1, p1, _⟩ := I.tuple ha
  obtain ⟨its2, r2, p2, _⟩ := I.tuple hb
  refine HT.cat_tup p1 p2 (fun z => hx (r1.nil_iff.mp z)) (fun z => ⟨.ref a, H, I, rfl, q1 (r2.nil_iff.mp z)⟩) (fun z => ?_) (by rw [← r1.length, ← r2.length]; exact hz)
  refine ⟨.ref s.heap.objs.size, _, I.laid (t' := s.toks) (o := .tup (xs ++ ys)) (fun b ob q => Heap.get?_push_of_some _ q) (Nat.le_refl _) ?_, rfl, q2 (fun w => z (r2.nil_iff.mpr w)) _ (I.hok.fresh (Nat.le_refl _))⟩
  exact ⟨by rw [List.length_append]; exact hz, _, r1.append r2, IsTup.new _ _⟩
end
end L2
namespace L2
open PySem PySem.Spec PyProof.Rows
def ixN (n : Nat) (i : Int) : Option Nat := if 0 ≤ i then (if i < n then some i.toNat else none) else if -(n : Int) ≤ i then some (i + n).toNat else none
def atI {α : Type} (xs : List α) (i : Int) : Option α := (ixN xs.length i).bind fun j => xs[j]?
theorem ixN_seq {n : Nat} {i : Int} {j : Nat} (h : ixN n i = some j) : seqIndex? i n = some j ∧ j < n ∧ -(n : Int) ≤ i ∧ i < n := by
  unfold ixN at h
  by_cases h0 : 0 ≤ i
  · rw [if_pos h0] at h
    by_cases h1 : i < n
    · rw [if_pos h1] at h
      have e : i.toNat = j := Option.some.inj h
      exact ⟨by rw [seqIndex_of h0 h1, e], by omega, by omega, h1⟩
    · rw [if_neg h1] at h; cases h
  · rw [if_neg h0] at h
    by_cases h1 : -(n : Int) ≤ i
    · rw [if_pos h1] at h
      have e : (i + n).toNat = j := Option.some.inj h
      exact ⟨by rw [seqIndex_neg (by omega) h1, e], by omega, h1, by omega⟩
    · rw [if_neg h1] at h; cases h
theorem atI_get {α : Type} {xs : List α} {i : Int} {v : α} (h : atI xs i = some v) : ∃ j, seqIndex? i xs.length = some j ∧ xs[j]? = some v ∧ j < xs.length ∧ -(xs.length : Int) ≤ i ∧ i < xs.length := by
  unfold atI at h
  cases e : ixN xs.length i with
  | none => rw [e] at h; cases h
  | some j =>
    rw [e] at h
    obtain ⟨h1, h2, h3, h4⟩ := ixN_seq e
    exact ⟨j, h1, h, h2, h3, h4⟩
def PlainIx (b : Expr) : Prop := ∀ o i, subscripted b false o i = operate [o, i] (getItem o i)
def IxR (X : Cx) (r : R2) : Prop :=
  ∀ (value slice : Expr) (pins : List (Addr × Obj)) (s : Shared) (σ : St) (H : Hp) (x y : V) (v u : Value) (Q : VK), Inv X pins σ H s → RelV x v → RelV y u → r x y H Q →
    subscripted slice false v u = operate [v, u] (getItem v u) → wpAny (model X.prog X.w) X.A (subscriptTail value slice v u) (EP X pins σ Q) X.xe s
def MtR (X : Cx) (id : String) (r : V → List V → Hp → VK → Prop) : Prop :=
  ∀ (pins : List (Addr × Obj)) (s : Shared) (σ : St) (H : Hp) (x : V) (xs : List V) (v : Value) (us : List Value) (Q : VK), Inv X pins σ H s → RelV x v → Vals xs us → r x xs H Q →
    wpAny (model X.prog X.w) X.A (call (.builtin id) (v :: us)) (EP X pins σ Q) X.xe s
section
variable {X : Cx} {a b : Expr} {ta tb : TE} {pos : Pos}
theorem IxR.or {r r' : R2} (h : IxR X r) (h' : IxR X r') : IxR X (fun x y H Q => r x y H Q ∨ r' x y H Q) := by
  intro value slice pins s σ H x y v u Q I rx ry q hs
  rcases q with q | q
  · exact h value slice pins s σ H x y v u Q I rx ry q hs
  · exact h' value slice pins s σ H x y v u Q I rx ry q hs
theorem MtR.or {id : String} {r r' : V → List V → Hp → VK → Prop} (h : MtR X id r) (h' : MtR X id r') : MtR X id (fun x xs H Q => r x xs H Q ∨ r' x xs H Q) := by
  intro pins s σ H x xs v us Q I rx rs q
  rcases q with q | q
  · exact h pins s σ H x xs v us Q I rx rs q
  · exact h' pins s σ H x xs v us Q I rx rs q
theorem pe_ix {r : R2} (hr : IxR X r) (ha : PE X a ta) (hb : PE X b tb) (hs : PlainIx b) : PE X (.Subscript a b pos) (tOp r ta tb) := by
  intro pins s σ H Q I h
  exact Subscript_ (binT ha hb I h fun v u s2 x y H2 I2 rx ry q => hr a b pins s2 σ H2 x y v u Q I2 rx ry q (hs _ _))
def rIxL (K : PySem.W.Frag) : R2 := fun x y H Q => ∃ p xs i v, x = .ref p ∧ y = .int i ∧ SqL K H p xs ∧ atI xs i = some v ∧ Q v H
def rIxT (K : PySem.W.Frag) : R2 := fun x y H Q => ∃ p xs i v, x = .ref p ∧ y = .int i ∧ SqT K H p xs ∧ atI xs i = some v ∧ Q v H
def rIxS : R2 := fun x y H Q => ∃ z i c, x = .str z ∧ y = .int i ∧ z.length ≤ sizeLine ∧ atI z.cps.toList i = some c ∧ Q (.str ⟨#[c]⟩) H
theorem ix_list : IxR X (rIxL X.K) := by
  intro value slice pins s σ H x y v u Q I rx ry h hs
  obtain ⟨p, xs, i, z, rfl, rfl, hq, he, q⟩ := h
  cases rx
  obtain ⟨t, rfl⟩ := ry
  obtain ⟨its, r, pl, hz⟩ := I.list hq
  obtain ⟨j, h1, h2, h3, h4, h5⟩ := atI_get he
  obtain ⟨w, ew, rw'⟩ := r.get h2
  have hl := r.length
  have hn := line63
  have fin : EP X pins σ Q w s := ⟨z, H, I, rw', q⟩
  by_cases h0 : 0 ≤ i
  · have hj : i.toNat = j := by
      rw [seqIndex_of h0 h5] at h1
      exact Option.some.inj h1
    exact item_listR pl.isList h0 (by omega) (by rw [hj]; simpa using ew) fin hs
  · have hj : (i + (its.toArray.size : Int)).toNat = j := by
      rw [seqIndex_neg (by omega) h4] at h1
      rw [List.size_toArray, ← hl]
      exact Option.some.inj h1
    exact subscriptTail_builtinR (x := w) pl.isList.typeIs slot_list_getitem.lookup
      (wpAny_getItem_list_neg (Q := fun r s' => r = w ∧ EP X pins σ Q r s') pl.isList (by omega) (by rw [List.size_toArray] <;> omega) (by omega) (by rw [hj]; simpa using ew) ⟨rfl, fin⟩) hs
theorem ix_tup : IxR X (rIxT X.K) := by
  intro value slice pins s σ H x y v u Q I rx ry h hs
  obtain ⟨p, xs, i, z, rfl, rfl, hq, he, q⟩ := h
  cases rx
  obtain ⟨t, rfl⟩ := ry
  obtain ⟨its, r, pl, hz⟩ := I.tuple hq
  obtain ⟨j, h1, h2, h3, h4, h5⟩ := atI_get he
  obtain ⟨w, ew, rw'⟩ := r.get h2
  have hl := r.length
  have hn := line63
  have fin : EP X pins σ Q w s := ⟨z, H, I, rw', q⟩
  exact subscriptTail_builtinR (x := w) pl.typeIs slot_tuple_getitem.lookup
    (getItem_tuple (j := j) (Q := fun r s' => r = w ∧ EP X pins σ Q r s') pl (by omega) (by omega) (by rw [List.size_toArray, ← hl]; exact h1) (by simpa using ew) ⟨rfl, fin⟩) hs
theorem ix_str : IxR X rIxS := by
  intro value slice pins s σ H x y v u Q I rx ry h hs
  obtain ⟨z, i, c, rfl, rfl, hz, he, q⟩ := h
  obtain ⟨t, rfl⟩ := rx
  obtain ⟨t', rfl⟩ := ry
  obtain ⟨j, h1, h2, h3, h4, h5⟩ := atI_get he
  have hl : z.cps.toList.length = z.length := by simp [Str.length]
  rw [hl] at h1 h4 h5
  have hn := line63
  exact tail_any (typeIs_str s z t) slot_str_getitem.lookup (getItem_str (c := c) (by
    have e1 : decide (i < -(2 ^ 63 : Int)) = false := decide_eq_false (by omega)
    have e2 : decide (i ≥ 2 ^ 63) = false := decide_eq_false (by omega)
    rw [e1, e2, Bool.or_false]) (by rw [h1]; simpa using h2) ⟨.str ⟨#[c]⟩, H, I.tok _, ⟨_, rfl⟩, q⟩) hs
def rIx (K : PySem.W.Frag) : R2 := fun x y H Q => rIxL K x y H Q ∨ rIxT K x y H Q ∨ rIxS x y H Q
theorem ix_seq : IxR X (rIx X.K) := ix_list.or (ix_tup.or ix_str)
theorem mapSeq_set (its : List Value) (n j : Nat) (u : Value) : Obj.mapSeq (·.setIfInBounds j u) { cls := .type "list", data := .seq its.toArray n } = { cls := .type "list", data := .seq (its.set j u).toArray n } := by
  simp [Obj.mapSeq]
theorem Inv.lst {pins : List (Addr × Obj)} {σ : St} {H : Hp} {s : Shared} {p : Addr} {xs : List V} (I : Inv X pins σ H s) (h : H p = some (.lst xs)) :
    ∃ (its : List Value) (n : Nat), Vals xs its ∧ s.heap.get? p = some { cls := .type "list", data := .seq its.toArray n } ∧ xs.length ≤ sizeLine := by
  obtain ⟨z, its, n, r, e⟩ := I.hok p _ h
  exact ⟨its, n, r, e, z⟩
theorem Inv.lstUpd {pins : List (Addr × Obj)} {σ : St} {H : Hp} {s : Shared} {p : Addr} {xs ys : List V} {its its' : List Value} {n n' : Nat} {f : Obj → Obj} (I : Inv X pins σ H s) (h : H p = some (.lst xs))
    (ho : s.heap.get? p = some { cls := .type "list", data := .seq its.toArray n }) (hf : f { cls := .type "list", data := .seq its.toArray n } = { cls := .type "list", data := .seq its'.toArray n' }) (r : Vals ys its') (hz : ys.length ≤ sizeLine) (t : Nat) :
    Inv X pins σ (upd H p (.lst ys)) { s with heap := s.heap.update p f, toks := t } := by
  have e : (s.heap.update p f).get? p = some { cls := .type "list", data := .seq its'.toArray n' } := by
    rw [Heap.get?_update_self f ho (by rw [hf] <;> rfl), hf]
  refine I.write (x := p) (e := p) (by rw [h]; trivial) (.inl rfl) (fun b u hb q => (Heap.get?_update_other _ _ (Ne.symm hb)).trans q) ⟨_, e⟩ ?_
  exact ⟨hz, its', n', r, e⟩
def rSetL : V → V → V → Hp → (Hp → Prop) → Prop := fun o i v H Q => ∃ p xs k j, o = .ref p ∧ i = .int k ∧ H p = some (.lst xs) ∧ ixN xs.length k = some j ∧ Q (upd H p (.lst (xs.set j v)))
theorem set_list : PSet X rSetL := by
  intro pins s σ H o i v ov iv u Q I ro ri rv h
  obtain ⟨p, xs, k, j, rfl, rfl, hp, hj, q⟩ := h
  cases ro
  obtain ⟨t, rfl⟩ := ri
  obtain ⟨its, n, r, ho, hz⟩ := I.lst hp
  obtain ⟨h1, h2, h3, h4⟩ := ixN_seq hj
  have hl := r.length
  have hn := line63
  have I' : Inv X pins σ (upd H p (.lst (xs.set j v))) { s with heap := s.heap.update p (Obj.mapSeq (·.setIfInBounds j u)) } :=
    I.lstUpd hp ho (mapSeq_set its n j u) (r.set rv j) (by rw [List.length_set]; exact hz) s.toks
  by_cases h0 : 0 ≤ k
  · have hk : k.toNat = j := by
      rw [seqIndex_of h0 h4] at h1
      exact Option.some.inj h1
    exact PySem.W.ki_setAt ho h0 (by omega) (by rw [List.size_toArray, ← hl]; exact h4) (by rw [hk]; exact ⟨_, I', q⟩)
  · have hk : (k + (its.toArray.size : Int)).toNat = j := by
      rw [seqIndex_neg (by omega) h3] at h1
      rw [List.size_toArray, ← hl]
      exact Option.some.inj h1
    exact PySem.W.ki_setBack ho (by omega) (by rw [List.size_toArray, ← hl]; exact h3) (by omega) (by rw [hk]; exact ⟨_, I', q⟩)
theorem slice_bounds (lo hi : Option Int) (n : Nat) : (sliceBounds lo hi none n).1 = ((HT.sIx n 0 lo : Nat) : Int) ∧ (sliceBounds lo hi none n).2.1 = ((HT.sIx n n hi : Nat) : Int) ∧ (sliceBounds lo hi none n).2.2 = 1 := by
  refine ⟨?_, ?_, rfl⟩
  · cases lo with
    | none => simp [sliceBounds, HT.sIx]
    | some i =>
      simp only [sliceBounds, HT.sIx, Option.getD_none, show (1 : Int) > 0 by decide, if_true]
      by_cases h : i < 0
      · simp only [h, if_true] <;> omega
      · simp only [h, if_false] <;> omega
  · cases hi with
    | none => simp [sliceBounds, HT.sIx]
    | some i =>
      simp only [sliceBounds, HT.sIx, Option.getD_none, show (1 : Int) > 0 by decide, if_true]
      by_cases h : i < 0
      · simp only [h, if_true] <;> omega
      · simp only [h, if_false] <;> omega
theorem slicePick_cut (its : List Value) (lo hi : Option Int) : slicePick its.toArray lo hi none = ((its.drop (HT.sIx its.length 0 lo)).take (HT.sIx its.length its.length hi - HT.sIx its.length 0 lo)).toArray := by
  obtain ⟨h1, h2, h3⟩ := slice_bounds lo hi its.toArray.size
  unfold slicePick
  rw [h1, h2, h3]
  simp only [sliceRange_one, pick_run, List.size_toArray] <;> rfl
def rSlL (K : PySem.W.Frag) : V → Option Int → Option Int → Hp → VK → Prop := fun x lo hi H Q => ∃ a xs, x = .ref a ∧ SqL K H a xs ∧ ∀ p, H p = none → Q (.ref p) (upd H p (.lst (cutV xs lo hi)))
theorem sl_list : SlR X (rSlL X.K) := by
  intro pins s σ H x v vl vu lo hi sl Q I rx hs pl pu h
  obtain ⟨a, xs, rfl, hx, q⟩ := h
  cases rx
  obtain ⟨its, r, ht, hz⟩ := I.list hx
  have hlen := r.length
  refine ⟨"list", _, slot_list_getitem.lookup, ht.isList.typeIs, ?_⟩
  refine wpAny_getItem_list_slice ht.isList hs pl pu .none (by simp) ?_ (by rw [List.size_toArray] <;> omega)
  rw [slicePick_cut, ← hlen]
  refine ⟨.ref s.heap.objs.size, _, I.laid (t' := s.toks) (o := .lst (cutV xs lo hi)) (fun b ob q => Heap.get?_push_of_some _ q) (Nat.le_refl _) ?_, rfl, q _ (I.hok.fresh (Nat.le_refl _))⟩
  exact ⟨Nat.le_trans (cutV_length xs lo hi) hz, _, 0, (r.drop (HT.sIx xs.length 0 lo)).take (HT.sIx xs.length xs.length hi - HT.sIx xs.length 0 lo), Heap.get?_push_size _ rfl⟩
def flatV : V → Bool
  | .non => true
  | .bl _ => true
  | .int _ => true
  | .str _ => true
  | _ => false
def eqV : V → V → Bool
  | .non, .non => true
  | .bl a, .bl b => a == b
  | .bl a, .int b => (if a then 1 else 0) == b
  | .int a, .bl b => a == (if b then 1 else 0)
  | .int a, .int b => a == b
  | .str a, .str b => a == b
  | _, _ => false
theorem eqAt_V {A : Around} {s : Shared} {y x : V} {u v : Value} (ry : RelV y u) (rx : RelV x v) (fy : flatV y = true) (fx : flatV x = true) : SeqAt.EqAt A s u v (eqV y x) := by
  cases y with
  | non =>
    cases ry
    cases x with
    | non => cases rx; exact SeqAt.EqAt.same _
    | bl b => cases rx; exact SeqAt.EqAt.none_bool b
    | int b => obtain ⟨t, rfl⟩ := rx; exact SeqAt.EqAt.none_int b t
    | str b => obtain ⟨t, rfl⟩ := rx; exact SeqAt.EqAt.none_str b t
    | _ => exact absurd (show false = true from fx) Bool.false_ne_true
  | bl a =>
    cases ry
    cases x with
    | non => cases rx; exact SeqAt.EqAt.bool_none a
    | bl b => cases rx; exact SeqAt.EqAt.bool_bool a b
    | int b => obtain ⟨t, rfl⟩ := rx; exact SeqAt.EqAt.bool_int a b t
    | str b => obtain ⟨t, rfl⟩ := rx; exact SeqAt.EqAt.bool_str a b t
    | _ => exact absurd (show false = true from fx) Bool.false_ne_true
  | int a =>
    obtain ⟨t', rfl⟩ := ry
    cases x with
    | non => cases rx; exact SeqAt.EqAt.int_none a t'
    | bl b => cases rx; exact SeqAt.EqAt.int_bool a t' b
    | int b => obtain ⟨t, rfl⟩ := rx; exact SeqAt.EqAt.int_int a t' b t
    | str b => obtain ⟨t, rfl⟩ := rx; exact SeqAt.EqAt.int_str a t' b t
    | _ => exact absurd (show false = true from fx) Bool.false_ne_true
  | str a =>
    obtain ⟨t', rfl⟩ := ry
    cases x with
    | non => cases rx; exact SeqAt.EqAt.str_none a t'
    | bl b => cases rx; exact SeqAt.EqAt.str_bool a t' b
    | int b => obtain ⟨t, rfl⟩ := rx; exact SeqAt.EqAt.str_int a t' b t
    | str b => obtain ⟨t, rfl⟩ := rx; exact SeqAt.EqAt.str_str a t' b t
    | _ => exact absurd (show false = true from fx) Bool.false_ne_true
  | _ => exact absurd (show false = true from fy) Bool.false_ne_true
def eqU (x : V) (u : Value) : Bool := match u with
  | .none => eqV .non x
  | .bool b => eqV (.bl b) x
  | .int i _ => eqV (.int i) x
  | .str z _ => eqV (.str z) x
  | _ => false
theorem eqU_of {x y : V} {u : Value} (r : RelV y u) (f : flatV y = true) : eqU x u = eqV y x := by
  cases y with
  | non => cases r; rfl
  | bl b => cases r; rfl
  | int i => obtain ⟨t, rfl⟩ := r; rfl
  | str z => obtain ⟨t, rfl⟩ := r; rfl
  | _ => exact absurd (show false = true from f) Bool.false_ne_true
theorem any_eqU {x : V} : ∀ {xs : List V} {us : List Value}, Vals xs us → xs.all flatV = true → us.any (eqU x) = xs.any fun y => eqV y x
  | _, _, .nil, _ => rfl
  | y :: xs, u :: us, .cons r t, f => by
    rw [List.all_cons, Bool.and_eq_true] at f
    rw [List.any_cons, List.any_cons, eqU_of r f.1, any_eqU t f.2]
theorem mem_eqAt {A : Around} {s : Shared} {x : V} {v : Value} (rx : RelV x v) (fx : flatV x = true) : ∀ {xs : List V} {us : List Value}, Vals xs us → xs.all flatV = true → ∀ u ∈ us, SeqAt.EqAt A s u v (eqU x u)
  | _, _, .nil, _ => fun u hu => by cases hu
  | y :: xs, u :: us, .cons r t, f => fun u' hu => by
    rw [List.all_cons, Bool.and_eq_true] at f
    rcases List.mem_cons.mp hu with rfl | hu
    · rw [eqU_of r f.1]; exact eqAt_V r rx f.1 fx
    · exact mem_eqAt rx fx t f.2 u' hu
def inV (x : V) (xs : List V) : Bool := xs.any fun y => eqV y x
def rIn (K : PySem.W.Frag) (neg : Bool) : R2 := fun x y H Q => ∃ p xs, y = .ref p ∧ (SqL K H p xs ∨ SqT K H p xs) ∧ flatV x = true ∧ xs.all flatV = true ∧ Q (.bl (if neg then !inV x xs else inV x xs)) H
theorem op_in_seq : OpR X (compareOp .In) (rIn X.K false) := by
  intro pins s σ H x y v u Q I rx ry h
  obtain ⟨p, xs, rfl, hq, fx, fs, q⟩ := h
  cases ry
  rcases hq with hq | hq
  · obtain ⟨its, r, pl, hz⟩ := I.list hq
    refine SeqAt.in_listAt (eqU x) pl.isList (fun w hw => mem_eqAt rx fx r fs w (by simpa using hw)) ⟨.bl _, H, I, rfl, ?_⟩
    rw [show its.toArray.any (eqU x) = its.any (eqU x) by simp, any_eqU r fs]
    exact q
  · obtain ⟨its, r, pl, hz⟩ := I.tuple hq
    refine SeqAt.in_tupleAt (eqU x) pl (fun w hw => mem_eqAt rx fx r fs w (by simpa using hw)) ⟨.bl _, H, I, rfl, ?_⟩
    rw [show its.toArray.any (eqU x) = its.any (eqU x) by simp, any_eqU r fs]
    exact q
theorem call_len_seq : CallR X (.builtin "len") (fun xs H Q => ∃ p ys, xs = [.ref p] ∧ (SqL X.K H p ys ∨ SqT X.K H p ys) ∧ Q (.int ys.length) H) := by
  intro pins s σ H xs us Q I r h
  obtain ⟨p, ys, rfl, hq, q⟩ := h
  obtain ⟨u, rfl, rx⟩ := vals1 r
  cases rx
  have hn := line63
  rcases hq with hq | hq
  · obtain ⟨its, r', pl, hz⟩ := I.list hq
    have hlen := r'.length
    exact Calls.call_len_list pl.isList (by simp only [List.size_toArray] <;> omega) ⟨.int ys.length, H, I.tok _, ⟨s.toks + 1, by rw [List.size_toArray, hlen]⟩, q⟩
  · obtain ⟨its, r', pl, hz⟩ := I.tuple hq
    have hlen := r'.length
    exact len_tuple pl (by simp only [List.size_toArray] <;> omega) ⟨.int ys.length, H, I.tok _, ⟨s.toks + 1, by rw [List.size_toArray, hlen]⟩, q⟩
theorem CallR.or {f : Value} {r r' : List V → Hp → VK → Prop} (h : CallR X f r) (h' : CallR X f r') : CallR X f (fun xs H Q => r xs H Q ∨ r' xs H Q) := by
  intro pins s σ H xs us Q I rs q
  rcases q with q | q
  · exact h pins s σ H xs us Q I rs q
  · exact h' pins s σ H xs us Q I rs q
theorem call_list_of : CallR X (.type "list") (fun xs H Q => ∃ p ys, xs = [.ref p] ∧ (SqL X.K H p ys ∨ SqT X.K H p ys) ∧ ∀ l, H l = none → Q (.ref l) (upd H l (.lst ys))) := by
  intro pins s σ H xs us Q I r h
  obtain ⟨p, ys, rfl, hq, q⟩ := h
  obtain ⟨u, rfl, rx⟩ := vals1 r
  cases rx
  have fin : ∀ (its : List Value), Vals ys its → ys.length ≤ sizeLine → ∀ (h' : Heap) (c' : Nat), (∀ b o', s.heap.get? b = some o' → h'.get? b = some o') →
      h'.get? s.heap.objs.size = some { cls := .type "list", dict := none, data := .seq its.toArray c', slots := #[] } → EP X pins σ Q (.ref s.heap.objs.size) { s with heap := h' } := fun its r' hz h' c' kp e =>
    ⟨.ref s.heap.objs.size, _, I.laid (t' := s.toks) kp (Nat.le_refl _) (show ObjOk X.prog X.w _ h' _ (.lst ys) from ⟨hz, its, c', r', e⟩), rfl, q _ (I.hok.fresh (Nat.le_refl _))⟩
  rcases hq with hq | hq
  · obtain ⟨its, r', pl, hz⟩ := I.list hq
    have hlen := r'.length
    obtain ⟨o, ho, hc, n, hd⟩ := pl.isList
    exact call_list_seq p (.inl rfl) ho hc hd (fun h' c' kp e => fin its r' hz h' c' kp e) (by simp only [List.size_toArray] <;> omega)
  · obtain ⟨its, r', pl, hz⟩ := I.tuple hq
    have hlen := r'.length
    obtain ⟨o, ho, hc, n, hd⟩ := pl
    exact call_list_seq p (.inr rfl) ho hc hd (fun h' c' kp e => fin its r' hz h' c' kp e) (by simp only [List.size_toArray] <;> omega)
def tyV (K : PySem.W.Frag) (T : String) (x : V) (H : Hp) : Prop := match x with
  | .str _ => T = "str"
  | .int _ => T = "int"
  | .ref p => (T = "list" ∧ ∃ xs, SqL K H p xs) ∨ (T = "tuple" ∧ ∃ o, K.lookup p = some o ∧ o.cls = .type "tuple" ∧ o.dict = none) ∨
      (T = "dict" ∧ ((∃ kvs, H p = some (.dK kvs)) ∨ ∃ kvs, H p = some (.dT kvs))) ∨ (T = "set" ∧ ∃ S n, H p = some (.set S n))
  | _ => False
theorem tyV_is {pins : List (Addr × Obj)} {σ : St} {H : Hp} {s : Shared} {T : String} {x : V} {v : Value} (I : Inv X pins σ H s) (r : RelV x v) (ty : tyV X.K T x H) :
    s.TypeIs v T ∧ ∀ a, v = .ref a → ∃ ob, s.heap.get? a = some ob ∧ ob.dict = none := by
  cases x with
  | str z =>
    obtain ⟨t, rfl⟩ := r
    cases (show T = "str" from ty)
    exact ⟨typeIs_str s z t, fun _ e => nomatch e⟩
  | int i =>
    obtain ⟨t, rfl⟩ := r
    cases (show T = "int" from ty)
    exact ⟨typeIs_int s i t, fun _ e => nomatch e⟩
  | ref p =>
    cases r
    rcases ty with ⟨rfl, xs, hq⟩ | ⟨rfl, o, hk, hc, hd⟩ | ⟨rfl, hk⟩ | ⟨rfl, S, n, hk⟩
    · obtain ⟨its, _, pl, _⟩ := I.list hq
      refine ⟨pl.isList.typeIs, fun a e => ?_⟩
      cases e
      obtain ⟨o, n, e, c, hd, _⟩ := pl
      exact ⟨o, e, hd⟩
    · refine ⟨⟨o, I.kIn p o hk, hc⟩, fun a e => ?_⟩
      cases e
      exact ⟨o, I.kIn _ o hk, hd⟩
    · have z : ∃ o, s.heap.get? p = some o ∧ o.ExactDict := by
        rcases hk with ⟨kvs, hk⟩ | ⟨kvs, hk⟩
        · obtain ⟨_, _, _, _, o, _, _, e, ex, _⟩ := I.hok p _ hk
          exact ⟨o, e, ex⟩
        · obtain ⟨_, _, _, _, o, _, _, e, ex, _⟩ := I.hok p _ hk
          exact ⟨o, e, ex⟩
      obtain ⟨o, e, ex⟩ := z
      refine ⟨⟨o, e, ex.1⟩, fun a e2 => ?_⟩
      cases e2
      exact ⟨o, e, ex.2.1⟩
    · obtain ⟨o, _, _, _, e, ex, _⟩ := I.hok p _ hk
      refine ⟨⟨o, e, ex.1⟩, fun a e2 => ?_⟩
      cases e2
      exact ⟨o, e, ex.2.1⟩
  | _ => exact False.elim ty
def tBM (K : PySem.W.Frag) (T : String) (r : V → List V → Hp → VK → Prop) (to : TE) (t : TA) : TE := fun σ H Q => to σ H fun x H1 => tyV K T x H1 ∧ t σ H1 fun xs H2 => r x xs H2 Q
variable {o e : Expr} {es : List Expr} {to : TE} {t : TA} {name : Str} {apos cpos : Pos} {T id : String} {r : V → List V → Hp → VK → Prop}
theorem pe_bm (pa : PlainAttrs T) (slot : Slot T name id) (hty : typeOf (.builtin id) = pure (.type "method_descriptor")) (hm : MtR X id r) (ho : PE X o to) (ha : PA X (e :: es) t)
    (hbase : attributeBase o name X.env (eval o X.env) = eval o X.env := by rfl)
    (hfew : ((backTo cpos (starEach (e :: es) X.env)).all (fun x => !x.1) && (backToKw cpos (keywordEach [] X.env)).all (fun x => x.1.isSome)
      && decide ((e :: es).length + ([] : List Keyword).length + (if ([] : List Keyword).isEmpty then 0 else 1) < 30)) = true := by rfl)
    (hline : (apos.endLine == cpos.line) = true := by rfl) (hs : starEach (e :: es) X.env = (false, eval e X.env) :: starEach es X.env := by rfl) (hplain : (backTo cpos (starEach es X.env)).any (·.1) = false := by rfl) :
    PE X (.Call (.Attribute o name apos) (e :: es) [] cpos) (tBM X.K T r to t) := by
  intro pins s σ H Q I h
  refine wpAny_Call_method_late hbase hfew hline rfl (thn (ho pins s σ H _ I h) fun v s1 ⟨x, H1, I1, r1, ty, q1⟩ => ?_)
  obtain ⟨h1, h2⟩ := tyV_is I1 r1 ty
  refine ⟨T, id, pa, slot, hty, h1, h2, ?_⟩
  have hA := ha cpos pins s1 σ H1 _ I1 q1
  rw [hs] at hA ⊢
  refine Calls.callWith_builtin (by show (false || (backTo cpos (starEach es X.env)).any (·.1)) = false; rw [hplain] <;> rfl) (Calls.evalArgs_plain ?_)
  exact thn hA fun us s2 ⟨vs, H2, I2, r2, q2⟩ => hm pins s2 σ H2 x vs v us Q I2 r1 r2 q2
/- xs.append(e), list.index on a module's tuple .. are MtR facts of 06m -/
end
end L2
namespace L2
open PySem PySem.Spec PyProof.Rows
def MtM (X : Cx) (id : String) (r : V → List V → Hp → VK → Prop) : Prop :=
  ∀ (pins : List (Addr × Obj)) (s : Shared) (σ : St) (H : Hp) (x : V) (xs : List V) (v : Value) (us : List Value) (Q : VK), Inv X pins σ H s → RelV x v → Vals xs us → r x xs H Q →
    wpAny (model X.prog X.w) X.A (call (.builtin id) (v :: us)) (EP X pins σ Q) X.xe s
theorem Vals.one : ∀ {x : V} {us : List Value}, Vals [x] us → ∃ u, us = [u] ∧ RelV x u
  | _, _, .cons r .nil => ⟨_, rfl, r⟩
theorem Vals.two : ∀ {x y : V} {us : List Value}, Vals [x, y] us → ∃ u v, us = [u, v] ∧ RelV x u ∧ RelV y v
  | _, _, _, .cons r (.cons q .nil) => ⟨_, _, rfl, r, q⟩
theorem Vals.zero : ∀ {us : List Value}, Vals [] us → us = []
  | _, .nil => rfl
theorem Vals.dropLast {xs : List V} {us : List Value} (h : Vals xs us) : Vals xs.dropLast us.dropLast := by
  induction h with
  | nil => exact .nil
  | cons r t ih =>
    cases t with
    | nil => exact .nil
    | cons q t' => exact .cons r ih
theorem Vals.eraseIdx : ∀ {xs : List V} {us : List Value} (i : Nat), Vals xs us → Vals (xs.eraseIdx i) (us.eraseIdx i)
  | _, _, _, .nil => .nil
  | _, _, 0, .cons _ t => t
  | _, _, i + 1, .cons r t => .cons r (Vals.eraseIdx i t)
theorem Vals.reverse {xs : List V} {us : List Value} (h : Vals xs us) : Vals xs.reverse us.reverse := by
  induction h with
  | nil => exact .nil
  | cons r t ih => rw [List.reverse_cons, List.reverse_cons]; exact Vals.append ih (.cons r .nil)
theorem Vals.rep {xs : List V} {us : List Value} (h : Vals xs us) : ∀ k : Nat, Vals (List.replicate k xs).flatten (List.replicate k us).flatten
  | 0 => .nil
  | k + 1 => by
    rw [List.replicate_succ, List.replicate_succ, List.flatten_cons, List.flatten_cons]
    exact Vals.append h (Vals.rep h k)
section
variable {X : Cx} {pins : List (Addr × Obj)} {σ : St} {H : Hp} {s : Shared} {l b : Addr} {xs ys zs : List V}
theorem Inv.lset {its its' : List Value} {n : Nat} {f : Array Value → Array Value} {t' : Nat} (I : Inv X pins σ H s) (hH : H l = some (.lst xs))
    (e : s.heap.get? l = some { cls := .type "list", data := .seq its.toArray n }) (hf : f its.toArray = its'.toArray) (hv : Vals ys its') (hz : ys.length ≤ sizeLine) :
    Inv X pins σ (upd H l (.lst ys)) { s with heap := s.heap.update l (Obj.mapSeq f), toks := t' } := by
  have q := PySem.IsL.update e f
  rw [hf] at q
  refine I.write (x := l) (e := l) (by rw [hH]; exact trivial) (.inl rfl) (fun b' u hb hu => (Heap.get?_update_other s.heap (Obj.mapSeq f) (Ne.symm hb)).trans hu) ⟨_, q⟩ ?_
  exact ⟨hz, its', _, hv, q⟩
theorem Inv.lnew {its : List Value} {t' : Nat} (I : Inv X pins σ H s) (hv : Vals ys its) (hz : ys.length ≤ sizeLine) :
    Inv X pins σ (upd H s.heap.objs.size (.lst ys)) { s with heap := s.heap.push { cls := .type "list", data := .seq its.toArray }, toks := t' } :=
  I.laid (fun _ _ q => Heap.get?_push_of_some _ q) (Nat.le_refl _) ⟨hz, its, 0, hv, Heap.get?_push_size _ rfl⟩
theorem Inv.fresh (I : Inv X pins σ H s) : H s.heap.objs.size = none := I.hok.fresh (Nat.le_refl _)
theorem Inv.lstM (I : Inv X pins σ H s) (hH : H l = some (.lst xs)) : xs.length ≤ sizeLine ∧ ∃ (its : List Value) (n : Nat), Vals xs its ∧ xs.length = its.length ∧ s.heap.get? l = some { cls := .type "list", data := .seq its.toArray n } := by
  obtain ⟨z, its, n, r, e⟩ := I.hok l _ hH
  exact ⟨z, its, n, r, r.length, e⟩
theorem notLongL {n : Nat} (h : n ≤ sizeLine) : Builtin.List.listTooLong n = false := by
  unfold Builtin.List.listTooLong
  exact decide_eq_false (by omega)
end
section
variable {X : Cx}
def rAppend : V → List V → Hp → VK → Prop := fun x vs H Q => ∃ l xs y, x = .ref l ∧ vs = [y] ∧ H l = some (.lst xs) ∧ xs.length < sizeLine ∧ Q .non (upd H l (.lst (xs ++ [y])))
theorem mt_append : MtM X "list.append" rAppend := by
  intro pins s σ H x vs v us Q I rx rv h
  obtain ⟨l, xs, y, rfl, rfl, hH, hz, q⟩ := h
  cases rx
  obtain ⟨u, rfl, ru⟩ := rv.one
  obtain ⟨z, its, n, r, hl, e⟩ := I.lstM hH
  refine call_meets F.slot_list_append ⟨_, e, rfl⟩ F.entry_list_append (F.args_list_append_2 _ _) (PySem.list_append l its.toArray n u (by rw [List.size_toArray]; omega)) ⟨e, ?_⟩
  refine ⟨.non, _, I.lset (its' := its ++ [u]) hH e (by simp) (r.append (.cons ru .nil)) ?_, rfl, q⟩
  rw [List.length_append, List.length_singleton]
  omega
def rExtend : V → List V → Hp → VK → Prop := fun x vs H Q => ∃ l b xs zs, x = .ref l ∧ vs = [.ref b] ∧ H l = some (.lst xs) ∧ H b = some (.lst zs) ∧ xs.length + zs.length ≤ sizeLine ∧ Q .non (upd H l (.lst (xs ++ zs)))
theorem mt_extend : MtM X "list.extend" rExtend := by
  intro pins s σ H x vs v us Q I rx rv h
  obtain ⟨l, b, xs, zs, rfl, rfl, hH, hB, hz, q⟩ := h
  cases rx
  obtain ⟨u, rfl, ru⟩ := rv.one
  cases ru
  obtain ⟨z, its, n, r, hl, e⟩ := I.lstM hH
  obtain ⟨z2, its2, n2, r2, hl2, e2⟩ := I.lstM hB
  have hsz : its.toArray.size + its2.toArray.size ≤ sizeLine := by rw [List.size_toArray, List.size_toArray]; omega
  have hlong : ¬ (!its.toArray.isEmpty && Builtin.List.listTooLong (its.toArray.size + its2.toArray.size)) = true := by
    rw [notLongL hsz, Bool.and_false]
    exact Bool.false_ne_true
  refine call_meets F.slot_list_extend ⟨_, e, rfl⟩ F.entry_list_extend (F.args_list_extend_2 _ _)
    (AutoSeq1.list_extend_list_list_0 l its.toArray n b its2.toArray n2 hlong (by rw [List.size_toArray]; omega) (by omega)) ⟨e, e2, ?_⟩
  refine ⟨.non, _, I.lset (its' := its ++ its2) hH e (by simp) (r.append r2) ?_, rfl, q⟩
  rw [List.length_append]
  omega
def rCat : R2 := fun x y H Q => ∃ l b xs zs, x = .ref l ∧ y = .ref b ∧ H l = some (.lst xs) ∧ H b = some (.lst zs) ∧ xs.length + zs.length ≤ sizeLine ∧ ∀ p, H p = none → Q (.ref p) (upd H p (.lst (xs ++ zs)))
theorem op_cat : OpR X (binaryOp .Add) rCat := by
  intro pins s σ H x y v u Q I rx ry h
  obtain ⟨l, b, xs, zs, rfl, rfl, hH, hB, hz, q⟩ := h
  cases rx
  cases ry
  obtain ⟨z, its, n, r, hl, e⟩ := I.lstM hH
  obtain ⟨z2, its2, n2, r2, hl2, e2⟩ := I.lstM hB
  refine PySem.P.add_list e e2 ?_ (by rw [List.size_toArray, List.size_toArray]; omega)
  have ea : its.toArray ++ its2.toArray = (its ++ its2).toArray := by simp
  rw [ea]
  exact ⟨.ref _, _, I.lnew (t' := s.toks) (r.append r2) (by rw [List.length_append]; omega), rfl, q _ I.fresh⟩
end
section
variable {prog : Program} {w : World} {A : Around} {E : Value → Shared → Prop} {s : Shared}
end
section
variable {X : Cx}
end
end L2
namespace Att
open PySem PySem.W PySem.Calls PyProof.Rows
theorem ints_of_wellAll {P : Params} {h : Heap} : ∀ (ns : List Int) (vs : List Value), WellAll P h vs (ns.map WData.int) → IntsAre vs ns := by
  intro ns
  induction ns with
  | nil =>
    intro vs w
    rw [List.map_nil] at w
    cases w
    exact .nil
  | cons n ns ih =>
    intro vs w
    rw [List.map_cons] at w
    cases w with
    | cons a b =>
      cases a
      exact .cons _ _ (ih _ b)
theorem script_of {l : OpenLaw} {n : Nat} (hn : l.most = some n) {P : Params} {h : Heap} {args : List WData} {vals : List Value}
    (hpre : l.row.toRowW.claim.pre args = true) (hwl : WellAll P h vals args) :
    ∃ a vs ns, vals = [Value.ref a] ∧ args = [WData.list (ns.map WData.int)] ∧ h.get? a = some { cls := .type "list", data := .seq vs.toArray } ∧ IntsAre vs ns ∧ ns.length ≤ n := by
  have hsh : WShape.hasAll [] args [.list .int] = true := (pre_splitW hpre).1
  have hc : l.pre.holds [] { args := args } = true := (pre_splitW hpre).2
  obtain ⟨d, r, rfl, h1, h2⟩ := hasAllW_cons hsh
  obtain rfl := hasAllW_nil h2
  obtain ⟨xs, rfl, h3⟩ := hasW_list h1
  obtain ⟨ns, rfl⟩ := items_int h3
  have hlen : ns.length ≤ n := by
    unfold OpenLaw.pre at hc
    have h4 : (WTm.not (.lt (.lit (.int (n : Int))) (.len (.arg 0)))).holds [] { args := [.list (ns.map .int)] } = true := by
      have h4 := (holds_andW hc).1
      rw [hn] at h4
      exact h4
    have h5 := condW_of h4 (w_not (w_lt w_lit (w_len_list (w_arg rfl))))
    rw [List.length_map] at h5
    refine Nat.le_of_not_lt fun q => ?_
    have q' : (n : Int) < ((ns.length : Nat) : Int) := by omega
    first
      | (rw [decide_eq_true q'] at h5; exact absurd h5 (by decide))
      | (simp at h5; omega)
  cases hwl with
  | cons w1 w2 =>
    cases w2
    cases w1 with
    | list ho hall => exact ⟨_, _, ns, rfl, rfl, ho, ints_of_wellAll ns _ hall, hlen⟩
theorem post_true (l : OpenLaw) (args : List WData) : l.row.toRowW.claim.post args (.bool true) args = true :=
  postW_of (r := l.row.toRowW) (X := (true == true))
    (show WShape.has [] (.bool true) .bool = true by first | rfl | decide | simp [WShape.has, WShape.arms, WShape.armsAll])
    (show (WTm.eq .res (.lit (.bool true))).value [] { args := args, res := some (.bool true), after := args } = some (.bool (true == true)) from w_eq_bool (w_res rfl) w_lit) rfl
theorem attach_call {l : OpenLaw} {n : Nat} {q : Program} {loose : List Str} {XP : (Str → Option Value) → Heap → Prop} {YP : World → Heap → Prop} {d : DefRec}
    (hn : l.most = some n) (hdf : d.params.defaults = [])
    (call : ∀ (w : World) (s₀ s₁ : Shared) (mg mb : Str → Option Value) (fa : Addr) (o : Obj) (pm cd doc : Value) (a : Addr) (vs : List Value) (ns : List Int),
      Ground q loose [] XP w s₀ mg mb s₁.heap → YP w s₁.heap →
      s₁.heap.get? fa = some o → o.data = .func (docDef d.name d.params d.body d.scope pm cd doc) → s₁.heap.CodeRec cd d.name → mg d.name = some (.ref fa) →
      s₁.heap.get? a = some { cls := .type "list", data := .seq vs.toArray } → IntsAre vs ns → ns.length ≤ n → s₁.gens = #[] →
      codeAny (model l.prog w) callerA (.call (.ref fa) ⟨[.ref a], []⟩) (fun r s' => r = .ok (.ret (.bool true)) ∧ OldK s₁.heap s'.heap ∧ s'.os = s₁.os ∧ AllBare s'.gens) s₁) :
    WalkO q loose XP YP l.row.toRowW d [] (fun f vs => PySem.call f vs) := by
  intro w s₀ s₁ mg mb G Y fa o pm cd doc dV kV ho hd hcd hD hmg hg args vals as hpre hlay hrd hwl hlo
  obtain rfl : dV = .none := Dflts.none hD hdf
  obtain rfl : kV = .none := Dflts.noKw hD
  obtain ⟨a, vs, ns, rfl, rfl, hobj, hints, hlen⟩ := script_of hn hpre hwl
  refine enter_call (codeAny_mono (call w s₀ s₁ mg mb fa o pm cd doc a vs ns G Y ho (fd_plain hd) hcd hmg hobj hints hlen hg) fun r s' hq => ?_)
  obtain ⟨rfl, h2, h3, h4⟩ := hq
  exact ⟨.inl ⟨.bool true, .bool true, [], rfl, fun _ => rfl, .bool true, post_true l _, fun _ => ⟨List.Pairwise.nil, fun _ hm => (nomatch hm)⟩⟩, h2, h3, h4⟩
section
variable {prog : Program} {w : World} {A : Around} {E : Value → Shared → Prop} {s : Shared} {K : Frag}
def ledger (h : Heap) (L d : Addr) : List (Addr × Obj) := (List.range h.objs.size).filterMap fun a => if a = L ∨ a = d then none else (h.get? a).map fun o => (a, o)
end
end Att
namespace L2
open PySem PySem.Spec PyProof.Rows
theorem vals_ints : ∀ {vs : List Value} {ns : List Int}, IntsAre vs ns → Vals (ns.map V.int) vs
  | _, _, .nil => .nil
  | _, _, .cons n t h => .cons ⟨t, rfl⟩ (vals_ints h)
def Only (H : Hp) : Prop := ∀ b, H b = none ∨ ∃ o xs, H b = some (.frz o (.lst xs))
theorem law_call {P : Program} {w : World} {K : PySem.W.Frag} {mg mb : Str → Option Value} {CX : CXT} {k : Nat} {fa a : Addr} {fd : FuncData} {x : Str} {sp : Sp} {s₁ : Shared} {vs : List Value} {ns : List Int}
    (KX : K.In s₁.heap) (hns : s₁.heap.Ns mainGlobals mg) (hb : s₁.heap.Ns builtinsNs mb) (hbb : ∀ x : Str, x ≠ "__name__" → mb x = bootBuiltins x) (hlim : s₁.heap.NoLimit) (hg : s₁.gens = #[])
    (ha : s₁.heap.get? a = some { cls := .type "list", data := .seq vs.toArray }) (hi : IntsAre vs ns) (hl : ns.length ≤ sizeLine) (hr : Room k callerA)
    (F : ∀ base : Heap, K.In base → base.Ns mainGlobals mg → FnOk P w K mg base CX k fa fd [x] sp) (hbind : ∀ (s : Shared) (u : Value), BindsTo s fd ⟨[u], []⟩ [(x, u)])
    (hsp : ∀ H : Hp, Only H → SqL K H a (ns.map V.int) → sp [.ref a] H (fun v _ => v = .bl true) fun _ _ _ => False)
    (hCX : ∀ H e s', CX [] H s₁ (fun _ _ _ => False) e s' → False) :
    codeAny (model P w) callerA (.call (.ref fa) ⟨[.ref a], []⟩) (fun r s' => r = .ok (.ret (.bool true)) ∧ OldK s₁.heap s'.heap ∧ s'.os = s₁.os ∧ AllBare s'.gens) s₁ := by
  have rv := vals_ints hi
  have lenV := hi.length
  have core : ∀ H : Hp, Only H → SqL K H a (ns.map V.int) → HOk P w H s₁.heap → (∀ b, H b ≠ none → b = a) → (H a ≠ none → K.lookup a = none) →
      codeAny (model P w) callerA (.call (.ref fa) ⟨[.ref a], []⟩) (fun r s' => r = .ok (.ret (.bool true)) ∧ OldK s₁.heap s'.heap ∧ s'.os = s₁.os ∧ AllBare s'.gens) s₁ := by
    intro H hO hS hok hA hK
    have base_of : ∀ {b : Addr} {o : Obj}, s₁.heap.get? b = some o → H b = none → (hidT s₁.heap H).get? b = some o := fun e n => hidT_get e n
    have noA : ∀ {b : Addr} {o : Obj} {es : Array DictEntry} {ep : Nat}, s₁.heap.get? b = some o → o.data = .dict es ep → H b = none := fun {b o es ep} e d => by
      cases q : H b with
      | none => rfl
      | some u =>
        have e' : b = a := hA b (by rw [q]; simp)
        subst e'
        rw [ha] at e; cases e
        have d' : Data.seq vs.toArray _ = Data.dict es ep := d
        cases d'
    have nsK : ∀ {b : Addr} {m : Str → Option Value}, s₁.heap.Ns b m → (hidT s₁.heap H).Ns b m := fun {b m} ⟨o, es, ep, e, d, r⟩ => ⟨o, es, ep, base_of e (noA e d), d, r⟩
    have hKb : K.In (hidT s₁.heap H) := fun b o e => base_of (KX b o e) (by
      cases q : H b with
      | none => rfl
      | some u =>
        have e' : b = a := hA b (by rw [q]; simp)
        subst e'
        rw [hK (by rw [q]; simp)] at e; cases e)
    have hM : Mod K mg (hidT s₁.heap H) := ⟨hKb, nsK hns, ⟨mb, nsK hb, hbb⟩, let ⟨mc, h1, h2⟩ := hlim; ⟨mc, nsK h1, h2⟩⟩
    have e0 : Env0 P w K mg (hidT s₁.heap H) callerA [] s₁ H := ⟨rfl, hM, fun b o e => of_hidT e, Nat.le_of_eq (hidT_size _ _), trivial, fun b hb => absurd (show b ∈ ([] : List Addr) from hb) (by simp), hok, .of_eq hg⟩
    refine codeAny_mono ((F _ hKb (nsK hns)).run callerA [] s₁ H ⟨[.ref a], []⟩ [.ref a] [.ref a] _ _ hr e0 (hbind s₁ (.ref a)) (.cons rfl .nil) (hsp H hO hS)) fun r s' h => ?_
    cases r with
    | error e => exact (hCX H e s' h).elim
    | ok fl =>
      cases fl with
      | next => exact False.elim h
      | brk => exact False.elim h
      | cont => exact False.elim h
      | ret u =>
        obtain ⟨v, H', os, bare, un, hok', r', q⟩ := h
        have q' : v = .bl true := q
        subst q'
        obtain rfl : u = Value.bool true := r'
        refine ⟨rfl, OldK.of_keep fun b o e => ?_, os, bare⟩
        cases q : H b with
        | none => exact un.keep b o e q (by intro z; exact absurd (show b ∈ ([] : List Addr) from z) (by simp)) (by simp)
        | some u =>
          rcases hO b with z | ⟨ob, xs, z⟩
          · rw [q] at z; cases z
          · have z2 := un.frzs b ob _ z
            obtain ⟨e1, _⟩ := hok b _ z
            obtain ⟨e2, _⟩ := hok' b _ z2
            rw [e] at e1; cases e1
            exact e2
  cases hk : K.lookup a with
  | some o =>
    have e := KX a o hk
    rw [ha] at e
    cases e
    refine core (fun _ => none) (fun _ => .inl rfl) (.inr ⟨_, vs.toArray, _, hk, rfl, rfl, rfl, by rw [List.size_toArray, lenV]; exact hl, by simpa using rv⟩) (fun b u z => by have z' : (none : Option HO) = some u := z; cases z') (fun b z => absurd rfl z) fun z => absurd rfl z
  | none =>
    refine core (fun b => if b = a then some (.frz { cls := .type "list", data := .seq vs.toArray } (.lst (ns.map V.int))) else none) (fun b => ?_) (.inl (.inr ⟨{ cls := .type "list", data := .seq vs.toArray }, if_pos rfl⟩)) (fun b u z => ?_) (fun b z => ?_) fun _ => hk
    · by_cases hb : b = a
      · exact .inr ⟨_, _, if_pos hb⟩
      · exact .inl (if_neg hb)
    · by_cases hb : b = a
      · have z' := (if_pos hb).symm.trans z
        cases z'
        subst hb
        exact ⟨ha, by rw [List.length_map]; exact hl, vs, _, rv, ha⟩
      · have z' := (if_neg hb).symm.trans z
        cases z'
    · by_cases hb : b = a
      · exact hb
      · exact absurd (if_neg hb) z
end L2
namespace L2
open PySem PySem.Spec PyProof.Rows
abbrev KOf {K : PySem.W.Frag} {h : Heap} (_ : K.In h) : PySem.W.Frag := K
theorem walk_of {l : PySem.W.OpenLaw} {n k : Nat} {q : Program} {loose : List Str} {XP : (Str → Option Value) → Heap → Prop} {YP : World → Heap → Prop} {d : DefRec} {K : Params → PySem.W.Frag} {CX : World → CXT} {sp : World → Sp} {x : Str}
    (hn : l.most = some n) (hn2 : n ≤ sizeLine) (hdf : d.params.defaults = []) (hr : Room k callerA)
    (hY : ∀ (w : World) (h : Heap), YP w h → (K w.params).In h)
    (F : ∀ (w : World) (mg : Str → Option Value) (fa : Addr) (h : Heap), (K w.params).In h → h.Ns mainGlobals mg → mg d.name = some (.ref fa) →
      ∃ fd : FuncData, (∀ (s : Shared) (u : Value), BindsTo s fd ⟨[u], []⟩ [(x, u)]) ∧
        ∀ base : Heap, (K w.params).In base → base.Ns mainGlobals mg → FnOk l.prog w (K w.params) mg base (CX w) k fa fd [x] (sp w))
    (hsp : ∀ (w : World) (H : Hp) (a : Addr) (ns : List Int), ns.length ≤ n → Only H → SqL (K w.params) H a (ns.map V.int) → sp w [.ref a] H (fun v _ => v = .bl true) fun _ _ _ => False)
    (hCX : ∀ (w : World) (H : Hp) (s : Shared) (e : Value) (s' : Shared), CX w [] H s (fun _ _ _ => False) e s' → False) :
    PySem.W.WalkO q loose XP YP l.row.toRowW d [] (fun f vs => PySem.call f vs) := by
  refine Att.attach_call hn hdf fun w s₀ s₁ mg mb fa o pm cd doc a vs ns G Y ho hd hcd hmg hobj hints hlen hg => ?_
  have KX := hY w _ Y
  obtain ⟨fd, hb, hF⟩ := F w mg fa _ KX G.T.g hmg
  exact law_call KX G.T.g G.T.b G.T.builtins G.T.nolimit hg hobj hints (Nat.le_trans hlen hn2) hr hF hb (fun H hO hS => hsp w H a ns hlen hO hS) fun H e s' => hCX w H s₁ e s'
end L2
/- THE LAST THEOREM (shape; LID, My.* are yours):
   My.Adr: a structure of the addresses that your layer names (classes, functions); My.Txt K t: a structure (Prop) of the equations over K;
   My.txt_mk : {K} {implicit addresses ..} (e1 : nsIn K mainGlobals "law" = some (some (.ref f))) (e2 : K.lookup f = some ⟨oc, od, .func (fnOf "law" "law" params body scope dV kV doc pm an cdv ct), sl⟩) (e3 : codeIn K cdv "law" = true) .. : ∃ t, My.Txt K t
set_option maxRecDepth 100000 in
set_option maxHeartbeats 0 in
theorem PySem.Challenge.cw_LID_holds : PySem.Challenge.rw_LID.Holds := by
  w_on; o_law; k_head; (case hw => w_witness2)
  k_fill
  refine L2.walk_of (l := PySem.Challenge.rw_LID) (n := 63) (k := 40) (x := "script") (CX := fun w => ..) (sp := fun _ => My.sp_law) rfl (by decide) rfl ⟨rfl, by decide, by decide⟩ (fun w h Y => PySem.W.kIn_of Y) ?F ?S ?C
  case F =>
    intro w mg fa h KX G hmg
    have T : ∃ t, My.Txt (L2.KOf KX) t := by
      dsimp only [L2.KOf]                          -- K must stand as «<heap const> w.params» for k_is
      refine' My.txt_mk ?e1 ?e2 ?e3 ..
      (case e1 => PySem.W.k_is)                    -- in the order: a name -> its address -> its object -> its parts
      (case e2 => PySem.W.k_is)
      ..
    obtain ⟨t, T⟩ := T
    have e0 := hmg.symm.trans (PySem.W.mg_of KX G T.law)
    cases e0                                       -- fa is the law's own address
    exact ⟨_, fun s u => .of_eq rfl, fun base kb nb => My.law_fn T kb nb⟩     -- if «.of_eq rfl» comes too early: refine' ⟨_, ?b, fun base kb nb => My.law_fn T kb nb⟩; exact fun s u => .of_eq rfl
  case S => exact fun w H a ns hl hO hS => ..
  case C => exact ..
(the tactic k_is has no namespace: write k_is) -/
namespace L2
open PySem PySem.Spec PyProof.Rows
def defArgs (s : Stmt) : Arguments := match s with
  | .FunctionDef _ a _ _ _ _ _ _ _ _ => a
  | _ => { posonlyargs := [], args := [], vararg := none, kwonlyargs := [], kw_defaults := [], kwarg := none, defaults := [] }
def defBody (s : Stmt) : List Stmt := match s with
  | .FunctionDef _ _ b _ _ _ _ _ _ _ => b
  | _ => []
def defScope (s : Stmt) : Scope := match s with
  | .FunctionDef _ _ _ _ _ _ sc _ _ _ => sc
  | _ => { kind := .function, names := [], isGenerator := false, isCoroutine := false }
abbrev CX0 : CXT := fun _ _ _ _ _ _ => False
abbrev E0 : XK := fun _ _ _ => False
theorem pass0 {X : Cx} : Passes CX0 X E0 := fun _ _ _ _ _ _ _ h => h.elim
structure Fun (K : PySem.W.Frag) (x qual : Str) (st : Stmt) (f : Addr) (fd : FuncData) : Prop where
  ex : ∃ (oc : Value) (od : Option Addr) (kV doc pm : Value) (an : Option Addr) (cdv ct : Value) (osl : Array (Option Value)),
    fd = PySem.W.fnOf x qual (defArgs st) (defBody st) (defScope st) .none kV doc pm an cdv ct ∧ K.lookup f = some ⟨oc, od, .func fd, osl⟩ ∧ PySem.W.codeIn K cdv qual = true
  kp : PySem.W.keepIn K (.ref f) = true
section
variable {P : Program} {w : World} {K : PySem.W.Frag} {mg : Str → Option Value} {base : Heap}
theorem Fun.ok {x qual : Str} {st : Stmt} {f : Addr} {fd : FuncData} {N ps : List Str} {k : Nat} {sp : Sp} (F : Fun K x qual st f fd) (S : FnScope N ps (defScope st)) (len : ∀ vs H Q E, sp vs H Q E → vs.length = ps.length)
    (hbody : ∀ (cdv : Value) (A : Around) (outer : List Env) (s : Shared) (H : Hp) (vs : List V) (Q : VK) (E : XK), Room k (A.deeper (envOfC qual (defScope st) s.heap.objs.size f cdv)) → sp vs H Q E →
      ∃ t, PSs (cxOf CX0 P w K mg base N qual (defScope st) f cdv A outer s H E).nox (defBody st) t ∧ t { nx := fun _ H' => Q .non H', rt := Q } (start N vs) H) : FnOk P w K mg base CX0 (k + 1) f fd ps sp := by
  obtain ⟨oc, od, kV, doc, pm, an, cdv, ct, osl, rfl, lk, hcd⟩ := F.ex
  refine fn_of lk hcd S len fun A outer s H vs Q E hr hsp => ?_
  obtain ⟨t, h, q⟩ := hbody cdv A outer s H vs Q E hr hsp
  exact ⟨t, h.nox, q⟩
theorem Fun.binds {x qual : Str} {st : Stmt} {f : Addr} {fd : FuncData} {ps : List Str} (F : Fun K x qual st f fd)
    (h : ∀ (kV doc pm : Value) (an : Option Addr) (cdv ct : Value) (us : List Value), us.length = ps.length → bindArgs (PySem.W.fnOf x qual (defArgs st) (defBody st) (defScope st) .none kV doc pm an cdv ct) ⟨us, []⟩ = pure (ps.zip us)) : Binds K fd ps [] := by
  obtain ⟨oc, od, kV, doc, pm, an, cdv, ct, osl, rfl, lk, hcd⟩ := F.ex
  exact .all (h kV doc pm an cdv ct)
theorem fun_mk {x qual : Str} {st : Stmt} {f : Addr} {oc : Value} {od an : Option Addr} {osl : Array (Option Value)} {kV doc pm cdv ct : Value} (l : K.lookup f = some ⟨oc, od, .func (PySem.W.fnOf x qual (defArgs st) (defBody st) (defScope st) .none kV doc pm an cdv ct), osl⟩)
    (c : PySem.W.codeIn K cdv qual = true) (k : PySem.W.keepIn K (.ref f) = true) : Fun K x qual st f (PySem.W.fnOf x qual (defArgs st) (defBody st) (defScope st) .none kV doc pm an cdv ct) := ⟨⟨oc, od, kV, doc, pm, an, cdv, ct, osl, rfl, l, c⟩, k⟩
end
theorem small1000 {n : Nat} (h : n ≤ 1000) : n < sizeLine := Nat.lt_of_le_of_lt h (by decide)
section
variable {X : Cx}
theorem pv (i : Nat) {x : Str} {pos : Pos} (hN : X.N[i]? = some x := by rfl) (hv : Vis X.env.scope x := by first | exact Or.inl rfl | exact Or.inr (Or.inl rfl) | exact Or.inr (Or.inr rfl)) (hd : (x == ("__debug__" : Str)) = false := by decide)
    (hcd : (x == ("__classdict__" : Str)) = false := by decide) : PE X (.Name x pos) (tVar i) := pe_var hN hv hd hcd
end
def Same (H H' : Hp) : Prop := ∀ b o, H b = some o → H' b = some o
theorem Same.refl (H : Hp) : Same H H := fun _ _ h => h
theorem Same.trans {H H1 H2 : Hp} (a : Same H H1) (b : Same H1 H2) : Same H H2 := fun c o h => b c o (a c o h)
theorem Same.free {H H' : Hp} (e : Same H H') {l : Addr} (h : H' l = Option.none) : H l = Option.none := by
  cases q : H l with
  | none => rfl
  | some o =>
    rw [e l o q] at h
    cases h
theorem Same.seq {K : PySem.W.Frag} {H H' : Hp} {a : Addr} {xs : List V} (e : Same H H') (h : SqL K H a xs) : SqL K H' a xs := by
  rcases h with (h | ⟨o, h⟩) | h
  · exact .inl (.inl (e _ _ h))
  · exact .inl (.inr ⟨o, e _ _ h⟩)
  · exact .inr h
end L2
namespace Hk
open PySem
def Rise (xs : Array Nat) : Prop := xs.toList.Pairwise (· < ·)
theorem rise_lt {l : List Nat} (h : l.Pairwise (· < ·)) {i j : Nat} (hi : i < l.length) (hj : j < l.length) (hij : i < j) : l[i] < l[j] := List.pairwise_iff_getElem.mp h i j hi hj hij
theorem below_go {xs : Array Nat} {j : Nat} (h : Rise xs) : ∀ (fuel lo hi : Nat), lo ≤ hi → hi ≤ xs.size → hi - lo ≤ fuel → (∀ k (z : k < xs.toList.length), k < lo → xs.toList[k] < j) → (∀ k (z : k < xs.toList.length), hi ≤ k → j ≤ xs.toList[k]) →
    SetTable.below.go xs j fuel lo hi ≤ xs.size ∧ (∀ k (z : k < xs.toList.length), k < SetTable.below.go xs j fuel lo hi → xs.toList[k] < j) ∧ (∀ k (z : k < xs.toList.length), SetTable.below.go xs j fuel lo hi ≤ k → j ≤ xs.toList[k]) := by
  intro fuel
  induction fuel with
  | zero =>
    intro lo hi h1 h2 h3 h4 h5
    have e : lo = hi := by omega
    subst e
    exact ⟨h2, h4, h5⟩
  | succ n ih =>
    intro lo hi h1 h2 h3 h4 h5
    unfold SetTable.below.go
    by_cases hl : lo < hi
    · rw [if_pos hl]
      have hm : (lo + hi) / 2 < xs.toList.length := by rw [Array.length_toList]; omega
      have hg : xs.getD ((lo + hi) / 2) j = xs.toList[(lo + hi) / 2] := by
        rw [Array.getD_eq_getD_getElem?, ← Array.getElem?_toList, List.getElem?_eq_getElem hm]; rfl
      by_cases hc : xs.getD ((lo + hi) / 2) j < j
      · simp only [hc, if_true]
        refine ih _ _ (by omega) h2 (by omega) (fun k z hk => ?_) h5
        by_cases e : k = (lo + hi) / 2
        · subst e; rw [hg] at hc; exact hc
        · have := rise_lt h z hm (by omega)
          rw [hg] at hc; omega
      · simp only [hc, if_false]
        refine ih _ _ (by omega) (by omega) (by omega) h4 (fun k z hk => ?_)
        by_cases e : k = (lo + hi) / 2
        · subst e; rw [hg] at hc; omega
        · have := rise_lt h hm z (by omega)
          rw [hg] at hc; omega
    · rw [if_neg hl]
      have e : lo = hi := by omega
      subst e
      exact ⟨h2, h4, h5⟩
theorem below_ok {xs : Array Nat} (h : Rise xs) (j : Nat) : SetTable.below xs j ≤ xs.size ∧ (∀ k (z : k < xs.toList.length), k < SetTable.below xs j → xs.toList[k] < j) ∧ (∀ k (z : k < xs.toList.length), SetTable.below xs j ≤ k → j ≤ xs.toList[k]) :=
  below_go h xs.size 0 xs.size (Nat.zero_le _) (Nat.le_refl _) (by omega) (fun k z hk => absurd hk (Nat.not_lt_zero _)) (fun k z hk => by rw [Array.length_toList] at z; omega)
theorem insertAt_list {α : Type} (xs : Array α) (p : Nat) (x : α) : (SetTable.insertAt xs p x).toList = xs.toList.take p ++ x :: xs.toList.drop p := by
  unfold SetTable.insertAt
  simp [Array.toList_extract, List.take_of_length_le]
theorem rise_insert {xs : Array Nat} (h : Rise xs) {j : Nat} (hn : xs[SetTable.below xs j]? ≠ some j) : Rise (SetTable.insertAt xs (SetTable.below xs j) j) := by
  obtain ⟨h1, h2, h3⟩ := below_ok h j
  unfold Rise
  rw [insertAt_list, List.pairwise_append]
  have lt : ∀ y ∈ xs.toList.drop (SetTable.below xs j), j < y := by
    intro y hy
    obtain ⟨k, hk, e⟩ := List.mem_iff_getElem.mp hy
    rw [List.length_drop] at hk
    rw [List.getElem_drop] at e
    have hb : SetTable.below xs j < xs.toList.length := by omega
    have hh := h3 _ hb (Nat.le_refl _)
    have ne : xs.toList[SetTable.below xs j] ≠ j := fun z => hn (by rw [← Array.getElem?_toList, List.getElem?_eq_getElem hb, z])
    have hle : xs.toList[SetTable.below xs j] ≤ y := by
      by_cases e0 : k = 0
      · subst e0; rw [← e]; simp
      · rw [← e]; exact Nat.le_of_lt (rise_lt h hb (by omega) (by omega))
    omega
  refine ⟨List.Pairwise.sublist (List.take_sublist _ _) h, List.pairwise_cons.mpr ⟨lt, List.Pairwise.sublist (List.drop_sublist _ _) h⟩, fun a ha b hb => ?_⟩
  have haj : a < j := by
    obtain ⟨k, hk, e⟩ := List.mem_iff_getElem.mp ha
    rw [List.length_take] at hk
    rw [List.getElem_take] at e
    rw [← e]
    exact h2 k (by omega) (by omega)
  rcases List.mem_cons.mp hb with rfl | hb
  · exact haj
  · exact Nat.lt_trans haj (lt b hb)
structure Tb (t : SetTable) (n : Nat) : Prop where
  fits : t.fits n = true
  rise : Rise t.place
  dum : t.dummies = #[]
theorem slot_nodummy {t : SetTable} (hd : t.dummies = #[]) (j : Nat) : t.slot j ≠ .dummy := by
  unfold SetTable.slot
  rw [hd]
  dsimp only
  split
  · exact fun z => nomatch z
  · have : SetTable.has #[] j = false := by simp [SetTable.has]
    rw [this]
    exact fun z => nomatch z
theorem probe_empty {t : SetTable} (hd : t.dummies = #[]) {h : Int} : ∀ (fuel : Nat) (p : SetTable.Probe) (m : SetTable.Met), p.dummy = none → SetTable.probe.go t (fun _ => h + 1) h fuel p = some m → ∃ j, m = .empty j none ∧ t.slot j = .empty := by
  intro fuel
  induction fuel with
  | zero => intro p m _ e; cases e
  | succ n ih =>
    intro p m hp e
    unfold SetTable.probe.go at e
    cases hs : t.slot p.j with
    | empty =>
      rw [hs] at e
      cases e
      exact ⟨p.j, by rw [hp], hs⟩
    | dummy => exact absurd hs (slot_nodummy hd _)
    | live i =>
      rw [hs] at e
      have hne : (h + 1 == h) = false := by simp only [beq_eq_false_iff_ne, ne_eq]; omega
      dsimp only at e
      rw [hne] at e
      refine ih _ m ?_ e
      unfold SetTable.advance
      split
      · exact hp
      · exact hp
theorem freeSlot_ok {t : SetTable} (hd : t.dummies = #[]) {h : Int} {slot : Nat} {b : Bool} (e : t.freeSlot h = some (slot, b)) : b = false ∧ t.place[SetTable.below t.place slot]? ≠ some slot := by
  unfold SetTable.freeSlot at e
  cases q : t.probe (fun _ => h + 1) h (t.probeStart h) with
  | none => rw [q] at e; cases e
  | some m =>
    rw [q] at e
    obtain ⟨j, rfl, hs⟩ := probe_empty hd _ _ m (by rfl) q
    cases e
    refine ⟨rfl, fun z => ?_⟩
    unfold SetTable.slot at hs
    dsimp only at hs
    have : (t.place[SetTable.below t.place j]? == some j) = true := by
      rw [show t.place[SetTable.below t.place j]? = some j from z]; simp
    rw [if_pos this] at hs
    cases hs
theorem rise_range (n : Nat) : Rise (Array.range n) := by
  unfold Rise
  rw [Array.toList_range]
  exact List.pairwise_lt_range
theorem tb_standIn (t : SetTable) (n : Nat) : Tb (t.standIn n) n := by
  refine ⟨?_, rise_range n, rfl⟩
  unfold SetTable.fits SetTable.standIn SetTable.fill
  simp
  omega
theorem tb_or {t : SetTable} {n : Nat} (h : Rise t.place) (hd : t.dummies = #[]) : Tb (t.orStandIn n) n := by
  unfold SetTable.orStandIn
  by_cases z : t.fits n = true
  · rw [if_pos z]; exact ⟨z, h, hd⟩
  · rw [if_neg z]; exact tb_standIn t n
theorem led_or (t : SetTable) (n : Nat) : (t.orStandIn n).led = t.led := by
  unfold SetTable.orStandIn
  split <;> rfl
theorem layNew_ok {t : SetTable} {es : Array (Int × Value)} {h : Int} {x : Value} (T : Tb t es.size) :
    (layNew t es h x).2.2.1 = false ∧ Tb (layNew t es h x).2.1 (layNew t es h x).1.size ∧ (layNew t es h x).2.1.led = t.led ∧ (layNew t es h x).1.toList.Perm ((h, x) :: es.toList) := by
  unfold layNew
  cases q : t.freeSlot h with
  | none =>
    refine ⟨rfl, ?_, rfl, ?_⟩
    · rw [Array.size_push]; exact tb_standIn t _
    · rw [Array.toList_push]
      exact List.perm_append_singleton _ _
  | some p =>
    obtain ⟨slot, b⟩ := p
    obtain ⟨rfl, hn⟩ := freeSlot_ok T.dum q
    have hd : (t.put slot).1.dummies = #[] := by
      unfold SetTable.put
      dsimp only
      rw [T.dum]
      simp [SetTable.has]
    refine ⟨rfl, tb_or (rise_insert T.rise hn) hd, (led_or _ _).trans rfl, ?_⟩
    rw [insertAt_list]
    refine List.Perm.trans List.perm_middle ?_
    rw [List.take_append_drop]
theorem some_sub {α : Type} {f : α → Option α} (h : ∀ x y, f x = some y → y = x) : ∀ l : List α, (l.filterMap f).Sublist l
  | [] => by simp
  | a :: r => by
    rw [List.filterMap_cons]
    cases q : f a with
    | none => exact (some_sub h r).cons a
    | some b => rw [h a b q]; exact (some_sub h r).cons_cons a
theorem all_places {α : Type} : ∀ l : List α, (List.range l.length).filterMap (fun i => l[i]?) = l
  | [] => rfl
  | a :: r => by
    rw [List.length_cons, List.range_succ_eq_map, List.filterMap_cons]
    simp only [List.getElem?_cons_zero]
    rw [List.filterMap_map]
    have e : ((fun i => (a :: r)[i]?) ∘ Nat.succ) = fun i => r[i]? := by funext i; simp
    rw [e, all_places r]
theorem laid_ok {mask finger moves : Nat} {led plain : Bool} {hs : Array Int} {t : SetTable} {o : Array Nat} (e : SetTable.laid mask finger moves led plain hs = some (t, o)) : Rise t.place ∧ t.dummies = #[] ∧ t.led = led := by
  unfold SetTable.laid at e
  cases q : SetTable.layClean mask hs with
  | none => rw [q] at e; cases e
  | some owner =>
    rw [q] at e
    cases e
    refine ⟨?_, rfl, rfl⟩
    unfold Rise
    dsimp only
    rw [List.map_filterMap]
    refine List.Pairwise.sublist (some_sub (fun x y z => ?_) _) List.pairwise_lt_range
    cases q2 : owner.getD x none with
    | none => rw [q2] at z; cases z
    | some c => rw [q2] at z; exact (Option.some.inj z).symm
theorem relay_ok {t : SetTable} {es : Array (Int × Value)} (w : Nat) : Tb (relayAll t es w).2.1 (relayAll t es w).1.size ∧ (relayAll t es w).2.1.led = t.led ∧ (relayAll t es w).1.toList.Perm es.toList := by
  unfold relayAll
  cases q : t.relaid (es.map (·.1)) w with
  | none => exact ⟨tb_standIn t _, rfl, List.Perm.refl _⟩
  | some p =>
    obtain ⟨t', order⟩ := p
    dsimp only
    obtain ⟨h1, h2, h3⟩ := laid_ok q
    by_cases z : (coversAll order es.size && t'.fits (order.filterMap (es[·]?)).size) = true
    · rw [if_pos z]
      rw [Bool.and_eq_true] at z
      refine ⟨⟨z.2, h1, h2⟩, h3, ?_⟩
      have hp : order.toList.Perm (List.range es.size) := List.isPerm_iff.mp z.1
      rw [Array.toList_filterMap]
      have e : (fun (i : Nat) => es[i]?) = fun (i : Nat) => es.toList[i]? := by funext i; simp
      rw [e]
      have q2 := hp.filterMap fun i => es.toList[i]?
      rw [← Array.length_toList, all_places] at q2
      exact q2
    · rw [if_neg z]
      exact ⟨tb_standIn t _, rfl, List.Perm.refl _⟩
end Hk
set_option maxRecDepth 100000
namespace Hk
open PySem PySem.Spec PyProof.Rows
def vI : Value → Int
  | .int i _ => i
  | _ => 0
def GoodE (e : Int × Value) : Prop := ∃ x t, e = (hashInt x, Value.int x t)
theorem good_elems {prog : Program} {w : World} {l : List (Int × Value)} (h : ∀ e ∈ l, GoodE e) : ElemsOf (intKind prog w) l := fun e he => by
  obtain ⟨x, t, rfl⟩ := h e he
  exact ⟨⟨x, intKind_is _ _ _ _, rfl⟩, rfl⟩
def SetI (h : Heap) (a : Addr) (led : Bool) (xs : List Int) : Prop := ∃ o es ep t, h.get? a = some o ∧ o.ExactSet ∧ o.data = .set es ep t ∧ Tb t es.size ∧ t.led = led ∧ es.size < scanBound ∧
  (∀ e ∈ es.toList, GoodE e) ∧ es.toList.map (fun e => vI e.2) = xs ∧ xs.Nodup
theorem SetI.len {h : Heap} {a : Addr} {led : Bool} {xs : List Int} (S : SetI h a led xs) : xs.length < scanBound := by
  obtain ⟨o, es, ep, t, _, _, _, _, _, z, _, e, _⟩ := S
  rw [← e, List.length_map, Array.length_toList]; exact z
theorem SetI.at {h h' : Heap} {a : Addr} {led : Bool} {xs : List Int} (S : SetI h a led xs) (k : ∀ o, h.get? a = some o → h'.get? a = some o) : SetI h' a led xs := by
  obtain ⟨o, es, ep, t, e, r⟩ := S
  exact ⟨o, es, ep, t, k o e, r⟩
theorem good_is {prog : Program} {w : World} {e : Int × Value} (h : GoodE e) (x : Int) : (intKind prog w).is x e.2 = decide (vI e.2 = x) := by
  obtain ⟨y, t, rfl⟩ := h
  show Value.isInt x (.int y t) = decide (y = x)
  by_cases z : y = x
  · subst z; simp [Value.isInt]
  · simp [Value.isInt, z]
theorem find_none {prog : Program} {w : World} {l : List (Int × Value)} (h : ∀ e ∈ l, GoodE e) {x : Int} (q : l.findIdx? (fun e => (intKind prog w).is x e.2) = none) : x ∉ l.map (fun e => vI e.2) := fun z => by
  obtain ⟨e, he, ex⟩ := List.mem_map.mp z
  have := List.findIdx?_eq_none_iff.mp q e he
  rw [good_is (h e he), ex] at this
  simp at this
theorem find_some {prog : Program} {w : World} {l : List (Int × Value)} (h : ∀ e ∈ l, GoodE e) {x : Int} {j : Nat} (q : l.findIdx? (fun e => (intKind prog w).is x e.2) = some j) : x ∈ l.map (fun e => vI e.2) := by
  obtain ⟨hj, hp, _⟩ := List.findIdx?_eq_some_iff_getElem.mp q
  rw [good_is (h _ (List.getElem_mem hj))] at hp
  exact List.mem_map.mpr ⟨_, List.getElem_mem hj, of_decide_eq_true hp⟩
section
variable {prog : Program} {w : World} {A : Around} {E : Value → Shared → Prop} {s : Shared}
theorem store_I {h : Heap} {a : Addr} {o : Obj} {es es' : Array (Int × Value)} {ep : Nat} {t t' : SetTable} {led : Bool} {xs : List Int} (go : h.get? a = some o) (gx : o.ExactSet) (gd : o.data = .set es ep t)
    (T : Tb t' es'.size) (gl : t'.led = led) (gb : es'.size < scanBound) (gg : ∀ e ∈ es'.toList, GoodE e) (gv : es'.toList.map (fun e => vI e.2) = xs) (gn : xs.Nodup) :
    (h.update a (Obj.putSet es' t')).get? a = some { o with data := .set es' (ep + 1) t' } ∧ SetI (h.update a (Obj.putSet es' t')) a led xs := by
  have q := Heap.get?_update_self (Obj.putSet es' t') go (by rw [putSet_of es' t' gd]; rfl)
  rw [putSet_of es' t' gd] at q
  exact ⟨q, _, es', ep + 1, t', q, gx, rfl, T, gl, gb, gg, gv, gn⟩
theorem tail_I {g : Bool → Sem Unit} (gw : ∀ (b : Bool) (s1 : Shared) (Q' : Unit → Shared → Prop), Q' () s1 → wpAny (model prog w) A (g b) Q' E s1)
    {a : Addr} {o : Obj} {es es1 : Array (Int × Value)} {ep : Nat} {t t2 : SetTable} {led : Bool} {xs : List Int} (go : s.heap.get? a = some o) (gx : o.ExactSet) (gd : o.data = .set es ep t)
    (T : Tb t2 es1.size) (gl : t2.led = led) (gb : es1.size < scanBound) (gg : ∀ e ∈ es1.toList, GoodE e) (gv : es1.toList.map (fun e => vI e.2) = xs) (gn : xs.Nodup) {dm : Bool} {R : Option Bool → Shared → Prop}
    (k : ∀ h' ys, Heap.SameBut a s.heap h' → SetI h' a led ys → ys.Perm xs → R (some true) { s with heap := h' }) :
    wpAny (model prog w) A (do
        storeSet a es1 t2
        if (!dm && t2.tooFull) = true then do
            g (relayAll t2 es1 (SetTable.grown es1.size)).2.2
            storeSet a (relayAll t2 es1 (SetTable.grown es1.size)).1 (relayAll t2 es1 (SetTable.grown es1.size)).2.1
            pure (some true)
          else pure (some true)) R E s := by
  refine wpAny_bind (wpAny_storeSet_of go gd ?_ (fits_of_scanBound gb))
  obtain ⟨g1, S1⟩ := store_I go gx gd T gl gb gg gv gn
  have sb := Heap.SameBut.update s.heap a (Obj.putSet es1 t2)
  split
  · obtain ⟨T2, l2, p2⟩ := relay_ok (t := t2) (es := es1) (SetTable.grown es1.size)
    generalize relayAll t2 es1 (SetTable.grown es1.size) = rl at T2 l2 p2 ⊢
    obtain ⟨es2, t3, gv2⟩ := rl
    dsimp only at T2 l2 p2 ⊢
    have hz : es2.size = es1.size := by rw [← Array.length_toList, p2.length_eq, Array.length_toList]
    have gb2 : es2.size < scanBound := by rw [hz]; exact gb
    have pv : (es2.toList.map fun e => vI e.2).Perm xs := by rw [← gv]; exact p2.map _
    refine wpAny_bind (gw _ _ _ ?_)
    refine wpAny_bind (wpAny_storeSet_of g1 rfl ?_ (fits_of_scanBound gb2))
    obtain ⟨_, S2⟩ := store_I g1 gx rfl T2 (l2.trans gl) gb2 (fun e he => gg e (p2.mem_iff.mp he)) rfl (pv.nodup_iff.mpr gn)
    exact wpAny_pure (k _ _ (sb.trans (Heap.SameBut.update _ a _)) S2 pv)
  · exact wpAny_pure (k _ _ sb S1 (List.Perm.refl _))
theorem add_I {a : Addr} {led : Bool} {xs : List Int} {x : Int} {tk : Tok} {Q : Bool → Shared → Prop} (S : SetI s.heap a led xs) (room : xs.length + 1 < scanBound)
    (k : ∀ b h' ys, Heap.SameBut a s.heap h' → SetI h' a led ys → (x ∈ xs → ys = xs) → (x ∉ xs → ys.Perm (x :: xs)) → Q b { s with heap := h' }) :
    wpAny (model prog w) A (setAddHashed a (.int x tk) (hashInt x)) Q E s := by
  obtain ⟨o, es, ep, t, go, gx, gd, T, gl, gb, gg, gv, gn⟩ := id S
  have hl : es.size = xs.length := by rw [← gv, List.length_map, Array.length_toList]
  have el : ElemsOf (intKind prog w) es.toList := good_elems gg
  unfold setAddHashed setAddHashedIn
  refine wpAny_holding (wpAny_bind (wpAny_setState_of go gd T.fits ?_))
  dsimp only
  rw [byScan_of (knd := intKind prog w) (x := .int x tk) rfl gb el]
  simp only [↓reduceIte]
  unfold setAddByScan
  refine wpAny_bind (wpAny_bind (wpAny_rule (wpAny_bind (wpAny_setScan_of (knd := intKind prog w) (k := x) (intKind_is _ _ _ _) go gd T.fits el ?_))))
  cases q : List.findIdx? (fun e => (intKind prog w).is x e.2) es.toList with
  | some j =>
    dsimp only
    have hx : x ∈ xs := by rw [← gv]; exact find_some gg q
    refine wpAny_pure (wpAny_pure ?_)
    exact k false s.heap xs (Heap.SameBut.refl a s.heap) S (fun _ => rfl) fun z => absurd hx z
  | none =>
    dsimp only
    have hx : x ∉ xs := by rw [← gv]; exact find_none gg q
    obtain ⟨d0, T1, l1, p1⟩ := layNew_ok (t := t) (es := es) (h := hashInt x) (x := .int x tk) T
    generalize layNew t es (hashInt x) (.int x tk) = ly at d0 T1 l1 p1 ⊢
    obtain ⟨es1, t1, dm, gave⟩ := ly
    dsimp only at d0 T1 l1 p1 ⊢
    have gg1 : ∀ e ∈ es1.toList, GoodE e := fun e he => by
      rcases List.mem_cons.mp (p1.mem_iff.mp he) with rfl | he
      · exact ⟨x, tk, rfl⟩
      · exact gg e he
    have pv : (es1.toList.map fun e => vI e.2).Perm (x :: xs) := by rw [← gv]; exact p1.map _
    have gn1 : (es1.toList.map fun e => vI e.2).Nodup := pv.nodup_iff.mpr (List.nodup_cons.mpr ⟨hx, gn⟩)
    have gb1 : es1.size < scanBound := by
      have := pv.length_eq
      rw [List.length_map, Array.length_toList, List.length_cons] at this
      omega
    have gw : ∀ (b : Bool) (s1 : Shared) (Q' : Unit → Shared → Prop), Q' () s1 → wpAny (model prog w) A (match b with | true => rule "set.scan.the-table-gave-way" | false => pure ()) Q' E s1 :=
      fun b s1 Q' z => by cases b <;> first | exact wpAny_pure z | exact wpAny_rule z
    refine wpAny_bind (gw _ _ _ ?_)
    have fin : ∀ h' ys, Heap.SameBut a s.heap h' → SetI h' a led ys → ys.Perm (es1.toList.map fun e => vI e.2) → Q true { s with heap := h' } := fun h' ys sb S' p => k true h' ys sb S' (fun z => absurd z hx) fun _ => p.trans pv
    split
    · refine wpAny_bind ?_
      rw [hashByValue_scannable 8 (x := Value.int x tk) rfl]
      refine wpAny_pure ?_
      refine tail_I (fun b s1 Q' z => by cases b <;> first | exact wpAny_pure z | exact wpAny_rule z) go gx gd T1 (l1.trans gl) gb1 gg1 rfl gn1 fun h' ys sb S' p => ?_
      exact wpAny_pure (fin h' ys sb S' p)
    · refine wpAny_bind (wpAny_pure ?_)
      simp only [↓reduceIte]
      refine tail_I (fun b s1 Q' z => by cases b <;> first | exact wpAny_pure z | exact wpAny_rule z) go gx gd T1 (l1.trans gl) gb1 gg1 rfl gn1 fun h' ys sb S' p => ?_
      exact wpAny_pure (fin h' ys sb S' p)
end
def SetV (h : Heap) (S : Addr) (led : Bool) (val : Nat → Int) (m : Nat) : Prop := ∃ xs, SetI h S led xs ∧ xs.length ≤ m ∧ ∀ x, x ∈ xs ↔ ∃ i, i < m ∧ val i = x
theorem SetV.at {h h' : Heap} {a : Addr} {led : Bool} {val : Nat → Int} {m : Nat} (S : SetV h a led val m) (k : ∀ o, h.get? a = some o → h'.get? a = some o) : SetV h' a led val m := by
  obtain ⟨xs, q, r⟩ := S
  exact ⟨xs, q.at k, r⟩
section
variable {prog : Program} {w : World} {A : Around} {R : Result → Shared → Prop} {I : Addr} {fp wr : List Addr} {G : Array GenState → Array GenState → Prop} {n : Nat} {P : Nat → Value → Prop} {St : Nat → Shared → Prop}
theorem updLoop (W : WalksS prog w A.in1 I fp wr G n P St) (S : Addr) (hS : S ∉ fp) {led : Bool} (val : Nat → Int) (hv : ∀ i v, P i v → ∃ t, v = .int (val i) t) (hb : n + 1 < scanBound) :
    ∀ (k i : Nat) (s : Shared), n - i = k → i ≤ n → St i s → SetV s.heap S led val i → (∀ s', Moved (S :: wr) G s s' → SetV s'.heap S led val n → R (.ok (.ret .none)) s') →
      codeAny (model prog w) A (.builtin "set.update.loop" ⟨[.ref S, .ref I], []⟩) R s := by
  have hw : S ∉ wr := fun z => hS (W.sub _ z)
  have hsub : ∀ b ∈ wr, b ∈ S :: wr := fun b z => List.mem_cons_of_mem _ z
  intro k
  induction k with
  | zero =>
    intro i s hk hi st SV hR
    have hin : i = n := by omega
    subst hin
    refine codeAny_builtin PyProof.Rows.F.entry_set_update_loop ?_
    rw [Around.under_plainId PyProof.Rows.F.plain_set_update_loop _]
    show wpAny _ A.in1 (pyNext (.ref I) >>= _) _ _ s
    refine wpAny_bind (W.done s _ _ st fun s' hm => ?_)
    show wpAny _ A.in1 (ret Value.none) _ _ s'
    exact wpAny_pure (hR s' (hm.mono hsub) (SV.at fun o e => hm.heap S o hw e))
  | succ k ih =>
    intro i s hk hi st SV hR
    have hlt : i < n := by omega
    refine codeAny_builtin PyProof.Rows.F.entry_set_update_loop ?_
    rw [Around.under_plainId PyProof.Rows.F.plain_set_update_loop _]
    show wpAny _ A.in1 (pyNext (.ref I) >>= _) _ _ s
    refine wpAny_bind (W.item i s _ _ hlt st fun v s1 hP st1 hm => ?_)
    obtain ⟨t, rfl⟩ := hv i v hP
    obtain ⟨xs, S1, hl, hx⟩ := SV.at (h' := s1.heap) fun o e => hm.heap S o hw e
    show wpAny _ A.in1 (holding [Value.int (val i) t] (setAdd S (.int (val i) t)) >>= _) _ _ s1
    refine wpAny_bind (wpAny_holding ?_)
    unfold setAdd
    refine wpAny_holding ?_
    refine wpAny_bind ((intKind prog w).pyHash (k := val i) (intKind_is _ _ _ _) ?_)
    refine add_I (s := { s1 with toks := s1.toks + 1 }) (x := val i) S1 (by omega) fun b h' ys sb S2 y1 y2 => ?_
    have SV2 : SetV h' S led val (i + 1) := by
      refine ⟨ys, S2, ?_, fun x => ?_⟩
      · by_cases z : val i ∈ xs
        · rw [y1 z]; omega
        · rw [(y2 z).length_eq, List.length_cons]; omega
      · by_cases z : val i ∈ xs
        · rw [y1 z, hx]
          refine ⟨fun ⟨j, h1, h2⟩ => ⟨j, by omega, h2⟩, fun ⟨j, h1, h2⟩ => ?_⟩
          by_cases e : j = i
          · subst e; exact (hx x).mp (by rw [← h2]; exact z)
          · exact ⟨j, by omega, h2⟩
        · rw [(y2 z).mem_iff, List.mem_cons, hx]
          refine ⟨fun h => ?_, fun ⟨j, h1, h2⟩ => ?_⟩
          · rcases h with h | ⟨j, h1, h2⟩
            · exact ⟨i, by omega, h.symm⟩
            · exact ⟨j, by omega, h2⟩
          · by_cases e : j = i
            · subst e; exact .inl h2.symm
            · exact .inr ⟨j, by omega, h2⟩
    refine wpAny_pure ⟨plainId_quiet PyProof.Rows.F.plain_set_update_loop _, ih (i + 1) _ (by omega) hlt (W.frame _ s1 _ _ st1 (Nat.le_succ _) fun b z o e => ?_) SV2 fun s2 hm2 S3 => ?_⟩
    · rw [sb.2 b (fun y : b = S => hS (by rw [← y]; exact z))]; exact e
    · refine hR s2 (Moved.trans W.gtrans ((hm.mono hsub).then_heap (Nat.le_succ _) fun b o z e => ?_) hm2) S3
      rw [sb.2 b (fun y : b = S => z (by rw [y]; exact List.mem_cons_self))]; exact e
end
end Hk
set_option maxRecDepth 100000
namespace Hk
open PySem PySem.Spec PyProof.Rows
abbrev ledOf (w : World) : Bool := !w.params.followText "set-order"
section
variable {prog : Program} {w : World} {A : Around} {E : Value → Shared → Prop} {s : Shared}
theorem set_new (a : Value) {Q1 : Value → Shared → Prop} (h : Q1 (.ref s.heap.objs.size) { s with heap := s.heap.push { cls := .type "set", data := .set #[] 0 (.fresh 0 0 (ledOf w)) } }) :
    codeAny (model prog w) A (.call (.builtin "set.__new__") ⟨[.type "set", a], []⟩) (wants Q1 E) s := by
  refine codeAny_of_tree ?_
  show wpAny _ A.in1 (checkBuiltinCall "set.__new__" ⟨[.type "set", a], []⟩ >>= fun _ => again (.builtin "set.__new__" ⟨[.type "set", a], []⟩)) _ _ s
  refine wpAny_bind (wpAny_of_eq (PySem.F.newCall_set_1 a) (wpAny_pure ⟨plainId_quiet PySem.F.plain_set_new _, codeAny_builtin PySem.F.entry_set_new ?_⟩))
  rw [Around.under_plainId PySem.F.plain_set_new _]
  unfold Builtin.«set.__new__» Builtin.Frozenset.newClass
  have p1 := sub_set_self
  obtain ⟨hp, g, d, tk, os⟩ := s
  dsimp only
  wp_walk
  refine wpAny_askSetting (wpAny_pure ?_)
  dsimp only
  simp only [newObj]
  refine wpAny_bind (wpAny_alloc (wpAny_pure ?_))
  exact wpAny_pure h
set_option maxHeartbeats 3200000 in
theorem set_of_list {l : Addr} {items : Array Value} {ns : List Int} {Q : Value → Shared → Prop} (hh : A.handled = none) (il : s.heap.IsList l items) (ia : IntsAre items.toList ns) (hb : items.size + 1 < scanBound)
    (k : ∀ (h' : Heap) (tk : Nat), SetV h' s.heap.objs.size (ledOf w) (fun i => ns.getD i 0) items.size → (∀ b o, b < s.heap.objs.size → s.heap.get? b = some o → h'.get? b = some o) → Q (.ref s.heap.objs.size) { s with heap := h', toks := tk }) :
    wpAny (model prog w) A (call (.type "set") [.ref l]) Q E s := by
  obtain ⟨c, tl, c1⟩ := PySem.F.called_set.mro
  have c2 := PySem.F.called_set.made
  have c3 := PySem.F.called_set.sub
  refine wpAny_call (codeAny_of_tree ?_)
  show wpAny _ _ (callAny (.type "set") _) _ _ _
  refine wpAny_pure ⟨Code.quiet_builtin _ (by decide +kernel), codeAny_builtin PySem.F.entry_type_call ?_⟩
  rw [Around.under_plain (weight_type_call_type "set" [.ref l] []) rfl]
  have c4 := PySem.F.called_set.notType
  have c5 := PySem.F.called_set.canCreate
  have c6 := PySem.F.typeCall_set_1 (.ref l)
  repeat (any_goals (first | assumption | wp_step))
  refine codeAny_mono (set_new (.ref l) (E := E) (Q1 := fun obj s1 => obj = .ref s.heap.objs.size ∧ s1 = { s with heap := s.heap.push { cls := .type "set", data := .set #[] 0 (.fresh 0 0 (ledOf w)) } }) ⟨rfl, rfl⟩) fun r s1 hr => ?_
  cases r with
  | error e => exact hr
  | ok fl =>
    cases fl with
    | ret obj =>
      obtain ⟨rfl, rfl⟩ := hr
      have hS : (s.heap.push { cls := .type "set", data := .set #[] 0 (.fresh 0 0 (ledOf w)) }).get? s.heap.objs.size = some { cls := .type "set", data := .set #[] 0 (.fresh 0 0 (ledOf w)) } := Heap.get?_push_size _ rfl
      have hT : Shared.TypeIs { s with heap := s.heap.push { cls := .type "set", data := .set #[] 0 (.fresh 0 0 (ledOf w)) } } (.ref s.heap.objs.size) "set" := ⟨_, hS, rfl⟩
      have c7 := PySem.F.called_set.init.lookup
      have c8 := PySem.F.called_set.init.bind (.ref s.heap.objs.size)
      repeat (any_goals (first | assumption | wp_step))
      refine codeAny_mono (codeAny_call_builtin (R := wants (fun r s2 => r = .none ∧ ∃ h' tk, s2 = { s with heap := h', toks := tk } ∧ SetV h' s.heap.objs.size (ledOf w) (fun i => ns.getD i 0) items.size ∧
          (∀ b o, b < s.heap.objs.size → s.heap.get? b = some o → h'.get? b = some o)) E) PySem.F.called_set.init.plain PySem.F.entry_set_init (check_set_init_1 hT ?_)) fun r2 s2 hr2 => ?_
      · obtain ⟨ol, e1, e2, nl, e3⟩ := il
        obtain ⟨ocls, odict, odata, oslots⟩ := ol
        simp only at e2 e3
        subst e2; subst e3
        have e1' : (s.heap.push { cls := .type "set", data := .set #[] 0 (.fresh 0 0 (ledOf w)) }).get? l = some { cls := .type "list", dict := odict, data := .seq items nl, slots := oslots } := Heap.get?_push_of_some _ e1
        have d1 := PySem.F.sub_list_set
        have d2 := PySem.F.sub_list_frozenset
        have d3 : (Value.type "list" == Value.type "dict") = false := by decide
        have il1 : (s.heap.push { cls := .type "set", data := .set #[] 0 (.fresh 0 0 (ledOf w)) }).IsList l items := ⟨_, e1', rfl, nl, rfl⟩
        unfold Builtin.«set.__init__» noKeywords Builtin.Frozenset.updateFrom
        generalize hPI : pyIter = PI
        wp_walk
        subst hPI
        refine wpAny_pyIter_list il1 ?_
        refine wpAny_bind (wpAny_runValue ?_)
        have lS : l < s.heap.objs.size := Heap.lt_size e1
        have h3 : A.in1.in1.in1.handled = none := by simp [hh]
        have nI : l ≠ (s.heap.push { cls := .type "set", data := .set #[] 0 (.fresh 0 0 (ledOf w)) }).objs.size := by rw [Heap.size_push]; exact Nat.ne_of_lt (Nat.lt_succ_of_lt lS)
        have nS : s.heap.objs.size ∉ [(s.heap.push { cls := .type "set", data := .set #[] 0 (.fresh 0 0 (ledOf w)) }).objs.size, l] := by
          rw [Heap.size_push]; simp only [List.mem_cons, List.mem_singleton, List.not_mem_nil, or_false, not_or]
          exact ⟨Nat.ne_of_lt (Nat.lt_succ_self _), Nat.ne_of_gt lS⟩
        have hv : ∀ (i : Nat) (v : Value), items[i]? = some v → ∃ t, v = .int ((fun i => ns.getD i 0) i) t := fun i v z => IntsAre.int_at ia i v (by rw [Array.getElem?_toList]; exact z)
        refine updLoop ((Walks.list h3 _ l nI items).toS) s.heap.objs.size nS (led := ledOf w) (fun i => ns.getD i 0) hv hb (items.size - 0) 0 _ (by omega) (Nat.zero_le _) ⟨⟨_, Heap.get?_push_size _ rfl, rfl, rfl⟩, (il1.push _)⟩ ?S0 ?RR
        case S0 =>
          refine ⟨[], ⟨_, #[], 0, .fresh 0 0 (ledOf w), Heap.get?_push_of_some _ hS, ⟨rfl, rfl, rfl⟩, rfl, ⟨rfl, List.Pairwise.nil, rfl⟩, rfl, by show 0 < scanBound; decide, fun e z => by simp at z, rfl, List.nodup_nil⟩, Nat.le_refl _, fun x => ⟨fun z => (by cases z), fun ⟨i, z, _⟩ => absurd z (Nat.not_lt_zero _)⟩⟩
        case RR =>
          intro s' hm S'
          obtain ⟨h', g', d', tk', os'⟩ := s'
          have eg : g' = s.gens := hm.gens
          have ed : d' = s.drawn := hm.drawn
          have eos : os' = s.os := hm.os
          subst eg; subst ed; subst eos
          show wpAny _ _ _ _ _ _
          refine wpAny_pure ?_
          show wpAny _ _ (ret Value.none) _ _ _
          refine wpAny_pure ⟨rfl, h', tk', rfl, S', fun b o z y => ?_⟩
          refine hm.heap b o ?_ (Heap.get?_push_of_some _ (Heap.get?_push_of_some _ y))
          simp only [List.mem_cons, List.mem_singleton, List.not_mem_nil, or_false, not_or]
          exact ⟨Nat.ne_of_lt z, by rw [Heap.size_push]; exact Nat.ne_of_lt (Nat.lt_succ_of_lt z)⟩
      · cases r2 with
        | error e => exact hr2
        | ok fl2 =>
          cases fl2 with
          | ret r =>
            obtain ⟨rfl, h', tk, rfl, S', kp⟩ := hr2
            repeat (any_goals (first | assumption | wp_step))
            exact k _ _ S' kp
          | next => exact hr2.elim
          | brk => exact hr2.elim
          | cont => exact hr2.elim
    | next => exact hr.elim
    | brk => exact hr.elim
    | cont => exact hr.elim
end
end Hk
set_option maxRecDepth 100000
namespace PySem.F
theorem slotSetNext : Slot "set_iterator" "__next__" "set_iterator.__next__" := .of (owner := "set_iterator") (n := "__next__") (by rw [typeLookup_type, builtinLookup_eq_fast]; kernel_rfl) (by decide +kernel) (by decide +kernel) (by decide +kernel) (by first | exact .inl (by decide +kernel) | exact .inr (by decide +kernel)) (by rw [isSubtype_type]; kernel_rfl)
theorem slotSetIt : Slot "set_iterator" "__iter__" "set_iterator.__iter__" := .of (owner := "set_iterator") (n := "__iter__") (by rw [typeLookup_type, builtinLookup_eq_fast]; kernel_rfl) (by decide +kernel) (by decide +kernel) (by decide +kernel) (by first | exact .inl (by decide +kernel) | exact .inr (by decide +kernel)) (by rw [isSubtype_type]; kernel_rfl)
theorem ownSetIt : Manifest.owners.lookup (String.ofList ['r', 'o', 't', 'a', 'r', 'e', 't', 'i', '_', 't', 'e', 's'].reverse) = some Manifest.sig_set_iterator := by kernel_rfl
theorem argsSetNext (a : Value) : argsOk "set_iterator.__next__" ⟨[a], []⟩ := by
  unfold argsOk
  rw [signature?_of (id := "set_iterator.__next__") (n := ['_', '_', 't', 'x', 'e', 'n', '_', '_']) (o := ['r', 'o', 't', 'a', 'r', 'e', 't', 'i', '_', 't', 'e', 's']) (by kernel_rfl) ownSetIt]
  kernel_rfl
theorem argsSetIt (a : Value) : argsOk "set_iterator.__iter__" ⟨[a], []⟩ := by
  unfold argsOk
  rw [signature?_of (id := "set_iterator.__iter__") (n := ['_', '_', 'r', 'e', 't', 'i', '_', '_']) (o := ['r', 'o', 't', 'a', 'r', 'e', 't', 'i', '_', 't', 'e', 's']) (by kernel_rfl) ownSetIt]
  kernel_rfl
theorem entSetNext : entryFor table "set_iterator.__next__" = some Builtin.«set_iterator.__next__» := entryFor_of_tree (by kernel_rfl)
theorem entSetIter : entryFor table "set.__iter__" = some Builtin.«frozenset.__iter__» := entryFor_alias (id' := "frozenset.__iter__") (by kernel_rfl) rfl (by decide +kernel) (by kernel_rfl)
theorem entSetIt : entryFor table "set_iterator.__iter__" = some Builtin.«dict_keyiterator.__iter__» := entryFor_alias (id' := "dict_keyiterator.__iter__") (by kernel_rfl) rfl (by decide +kernel) (by kernel_rfl)
end PySem.F
namespace Hk
open PySem PySem.Spec PyProof.Rows
section
variable {prog : Program} {w : World} {A : Around} {E : Value → Shared → Prop} {s : Shared}
theorem perm_erase {α : Type} : ∀ (l : List α) (k : Nat) (h : k < l.length), (l[k] :: l.eraseIdx k).Perm l
  | a :: r, 0, _ => List.Perm.refl _
  | a :: r, k + 1, h => by
    have h' : k < r.length := by simpa using h
    show (r[k] :: a :: r.eraseIdx k).Perm (a :: r)
    exact (List.Perm.swap a r[k] _).trans ((perm_erase r k h').cons a)
theorem pick_go {α : Type} (next : Nat → Nat) : ∀ (fuel k : Nat) (left : List α) (out : Array α), left.length = fuel → (pickOrder.go next fuel k left out).toList.Perm (out.toList ++ left)
  | 0, k, left, out, h => by
    have e : left = [] := List.eq_nil_of_length_eq_zero h
    subst e
    unfold pickOrder.go
    rw [List.append_nil]
  | fuel + 1, k, left, out, h => by
    unfold pickOrder.go
    have hlt : next k % left.length < left.length := Nat.mod_lt _ (by omega)
    rw [List.getElem?_eq_getElem hlt]
    dsimp only
    refine (pick_go next fuel (k + 1) _ _ (by rw [List.length_eraseIdx_of_lt hlt, h]; rfl)).trans ?_
    rw [Array.toList_push, List.append_assoc]
    exact List.Perm.append_left _ (perm_erase left _ hlt)
theorem pick_perm {α : Type} (next : Nat → Nat) (xs : Array α) : (pickOrder next xs).toList.Perm xs.toList := by
  have := pick_go next xs.size 0 xs.toList #[] (by simp)
  simpa [pickOrder] using this
theorem wp_choose {M : Model} {src : Source} {n : Nat} {Q : Nat → Shared → Prop} (hn : n ≠ 0) (h : Q (M.w.draws src (s.drawn.get src) % n) { s with drawn := s.drawn.bump src }) : wpAny M A (choose src n) Q E s := fun _ _ _ => ⟨hn, h⟩
theorem wp_drawOrder {M : Model} {α : Type} : ∀ (n : Nat) (xs : List α) (s : Shared) (Q : List α → Shared → Prop), xs.length = n → (∀ ys d, ys.Perm xs → Q ys { s with drawn := d }) → wpAny M A (drawOrder n xs) Q E s
  | 0, xs, s, Q, hl, h => by
    have e : xs = [] := List.eq_nil_of_length_eq_zero hl
    subst e
    exact wpAny_pure (h [] s.drawn (List.Perm.refl _))
  | n + 1, [], s, Q, hl, h => by cases hl
  | n + 1, x :: r, s, Q, hl, h => by
    unfold drawOrder
    refine wpAny_bind (wp_choose (by simp) ?_)
    generalize hk : M.w.draws Source.order (s.drawn.get Source.order) % (x :: r).length = k
    have hlt : k < (x :: r).length := by rw [← hk]; exact Nat.mod_lt _ (by simp)
    rw [List.getElem?_eq_getElem hlt]
    dsimp only
    have hl2 : ((x :: r).eraseIdx k).length = n := by rw [List.length_eraseIdx_of_lt hlt, hl]; rfl
    refine wpAny_bind (wp_drawOrder n _ _ _ hl2 fun ys d p => wpAny_pure (h _ d ?_))
    refine List.Perm.trans (p.cons _) ?_
    exact perm_erase _ k hlt
end
end Hk
set_option maxRecDepth 100000
namespace Hk
open PySem PySem.Spec PyProof.Rows
abbrev itObj (f : Value) (i : Nat) (a : Addr) (n ep : Nat) : Obj := { cls := .type "set_iterator", data := .fields #[f, .int i 0, .ref a, .int n 0, .int ep 0] }
section
variable {prog : Program} {w : World} {A : Around} {E : Value → Shared → Prop} {s : Shared}
theorem entries_of {a : Addr} {o : Obj} {es : Array (Int × Value)} {ep : Nat} {t : SetTable} {Q : Array (Int × Value) → Shared → Prop} (go : s.heap.get? a = some o) (gd : o.data = .set es ep t) (gf : t.fits es.size = true) (h : Q es s) : wpAny (model prog w) A (setEntries a) Q E s := by
  unfold setEntries
  exact wpAny_bind (wpAny_setState_of go gd gf (wpAny_pure h))
theorem next_slot {it a : Addr} {slot i n ep : Nat} {o : Obj} {es : Array (Int × Value)} {t : SetTable} {x : Value} {nxt : Nat} {Q : Option Value → Shared → Prop} (e : s.heap.get? it = some (itObj (.int slot 0) i a n ep))
    (go : s.heap.get? a = some o) (gd : o.data = .set es ep t) (gf : t.fits es.size = true) (hn : es.size = n)
    (hnext : ∀ A' Q' E', Q' (some (x, nxt)) s → wpAny (model prog w) A' (setNext a slot i ep) Q' E' s) (k : ∀ h', h'.get? it = some (itObj (.int nxt 0) (i + 1) a n ep) → Heap.SameBut it s.heap h' → Q (some x) { s with heap := h' }) :
    wpAny (model prog w) A (pyNext (.ref it)) Q E s := by
  have hT : s.TypeIs (.ref it) "set_iterator" := ⟨_, e, rfl⟩
  unfold pyNext
  refine wpAny_bind (wpAny_attempt (wpAny_callSpecial?_slot (name := Str.ofString "__next__") hT F.slotSetNext (wpAny_call_entry F.slotSetNext hT F.entSetNext ?_ (F.argsSetNext _))))
  unfold Builtin.«set_iterator.__next__»
  refine wpAny_bind (m := slotArgs "__next__" 0 ⟨[.ref it], []⟩) (wpAny_pure ?_)
  refine wpAny_bind (wpAny_fieldsOf e rfl ?_)
  dsimp only
  refine wpAny_bind (entries_of go gd gf ?_)
  rw [if_neg (by rw [hn]; simp)]
  simp only [Int.toNat_natCast]
  refine wpAny_bind (hnext _ _ _ ?_)
  dsimp only
  refine wpAny_bind (wpAny_setField_rec e (by simp) fun h1 e1 sb1 => ?_)
  refine wpAny_bind (wpAny_setField_rec (s := { s with heap := h1 }) e1 (by simp) fun h2 e2 sb2 => ?_)
  refine wpAny_pure ⟨_, rfl, wpAny_pure (k h2 ?_ (sb1.trans sb2))⟩
  rw [e2]
  simp [rawInt]
theorem stop_slot {it a : Addr} {slot i n ep : Nat} {o : Obj} {es : Array (Int × Value)} {t : SetTable} {Q : Option Value → Shared → Prop} (hh : A.handled = none) (e : s.heap.get? it = some (itObj (.int slot 0) i a n ep))
    (go : s.heap.get? a = some o) (gd : o.data = .set es ep t) (gf : t.fits es.size = true) (hn : es.size = n)
    (hnext : ∀ A' Q' E', Q' none s → wpAny (model prog w) A' (setNext a slot i ep) Q' E' s) (k : ∀ h', Heap.ExtBut it s.heap h' → Q none { s with heap := h' }) :
    wpAny (model prog w) A (pyNext (.ref it)) Q E s := by
  have hT : s.TypeIs (.ref it) "set_iterator" := ⟨_, e, rfl⟩
  unfold pyNext
  refine wpAny_bind (wpAny_attempt (wpAny_callSpecial?_slot (name := Str.ofString "__next__") hT F.slotSetNext (wpAny_call_entry F.slotSetNext hT F.entSetNext ?_ (F.argsSetNext _))))
  unfold Builtin.«set_iterator.__next__»
  refine wpAny_bind (m := slotArgs "__next__" 0 ⟨[.ref it], []⟩) (wpAny_pure ?_)
  refine wpAny_bind (wpAny_fieldsOf e rfl ?_)
  dsimp only
  refine wpAny_bind (entries_of go gd gf ?_)
  rw [if_neg (by rw [hn]; simp)]
  simp only [Int.toNat_natCast]
  refine wpAny_bind (hnext _ _ _ ?_)
  dsimp only
  refine wpAny_bind (wpAny_setField_rec e (by simp) fun h1 e1 sb1 => ?_)
  show wpAny _ _ (newExc (.type "StopIteration") [] >>= fun x => raiseNew x) _ _ _
  refine wpAny_bind ?_
  simp only [newExc, newTuple]
  refine wpAny_bind (wpAny_newObj_type ?_ (by size_fits))
  refine wpAny_bind (m := firstArgMember _ _) (wpAny_of_eq (a := Value.none) (by first | rfl | (simp only [firstArgMember]; rfl)) ?_)
  refine wpAny_newObj_type ?_ (by size_fits)
  simp only [raiseNew]
  refine wpAny_bind (wpAny_handled ?_)
  rw [show A.in1.handled = none from hh]
  refine wpAny_bind (wpAny_pure (wpAny_throw ?_))
  refine wpAny_bind (wpAny_isInstance (T := "StopIteration") (b := true) ⟨_, Heap.get?_push_size _ rfl, rfl⟩ isSubtype_stop ?_)
  exact wpAny_pure (k _ ((sb1.extBut.push _).push _))
end
end Hk
set_option maxRecDepth 100000
namespace Hk
open PySem PySem.Spec PyProof.Rows
section
variable {prog : Program} {w : World} {A : Around} {E : Value → Shared → Prop} {s : Shared}
theorem byText_is {Q : Bool → Shared → Prop} (h : Q (w.params.followText "set-order") s) : wpAny (model prog w) A setsByText Q E s := by
  unfold setsByText
  exact wpAny_bind (wpAny_askSetting (wpAny_pure h))
theorem next_place {a : Addr} {o : Obj} {es : Array (Int × Value)} {ep : Nat} {t : SetTable} {slot i : Nat} {r : Option (Value × Nat)} {Q : Option (Value × Nat) → Shared → Prop} (go : s.heap.get? a = some o) (gd : o.data = .set es ep t) (gf : t.fits es.size = true)
    (hB : w.params.followText "set-order" = false) (hl : t.led = true) (hd : (!t.plain && decide (es.size > 1)) = false)
    (hr : (match es[SetTable.below t.place slot]?, t.place[SetTable.below t.place slot]? with | some (_, x), some j => some (x, j + 1) | _, _ => none) = r) (h : Q r s) : wpAny (model prog w) A (setNext a slot i ep) Q E s := by
  unfold setNext
  refine wpAny_bind (wpAny_setState_of go gd gf ?_)
  dsimp only
  refine wpAny_bind (byText_is ?_)
  rw [hB]
  refine wpAny_ite_split (fun z => absurd z (by decide)) (fun _ => ?_)
  refine wpAny_ite_split (fun z => absurd ((show (!t.plain && decide (es.size > 1)) = true from z).symm.trans hd) (by decide)) (fun _ => ?_)
  refine wpAny_bind ?_
  refine wpAny_ite_split (fun z => ?_) (fun _ => ?_)
  · have z' : (!t.led && !es.isEmpty) = true := z
    rw [hl] at z'
    exact absurd z' (by simp)
  · refine wpAny_pure ?_
    refine wpAny_pure ?_
    rw [← hr] at h
    exact h
theorem walk_text {a : Addr} {o : Obj} {es : Array (Int × Value)} {ep : Nat} {t : SetTable} {Q : Array (Int × Value) → Shared → Prop} (go : s.heap.get? a = some o) (gd : o.data = .set es ep t) (gf : t.fits es.size = true)
    (hB : w.params.followText "set-order" = true) (h : Q (pickOrder (w.params.setOrder a ep) es) s) : wpAny (model prog w) A (setWalk a) Q E s := by
  unfold setWalk
  refine wpAny_bind (wpAny_setState_of go gd gf ?_)
  dsimp only
  refine wpAny_bind (byText_is ?_)
  rw [hB]
  refine wpAny_ite_split (fun _ => ?_) (fun z => absurd rfl z)
  exact wpAny_bind (wpAny_askSetting (wpAny_pure h))
theorem next_text {a : Addr} {o : Obj} {es : Array (Int × Value)} {ep : Nat} {t : SetTable} {slot i : Nat} {Q : Option (Value × Nat) → Shared → Prop} (go : s.heap.get? a = some o) (gd : o.data = .set es ep t) (gf : t.fits es.size = true)
    (hB : w.params.followText "set-order" = true) (h : Q (((pickOrder (w.params.setOrder a ep) es)[i]?).map fun e => (e.2, slot)) s) : wpAny (model prog w) A (setNext a slot i ep) Q E s := by
  unfold setNext
  refine wpAny_bind (wpAny_setState_of go gd gf ?_)
  dsimp only
  refine wpAny_bind (byText_is ?_)
  rw [hB]
  refine wpAny_ite_split (fun _ => ?_) (fun z => absurd rfl z)
  refine wpAny_ite_split (fun z => absurd z (by simp)) (fun _ => ?_)
  exact wpAny_bind (walk_text go gd gf hB (wpAny_pure h))
theorem iter_it {it : Addr} {f : Value} {i : Nat} {a : Addr} {n ep : Nat} {Q : Value → Shared → Prop} (e : s.heap.get? it = some (itObj f i a n ep)) (h : Q (.ref it) s) : wpAny (model prog w) A (pyIter (.ref it)) Q E s := by
  have hT : s.TypeIs (.ref it) "set_iterator" := ⟨_, e, rfl⟩
  refine wpAny_pyIter_slot hT F.slotSetIt (wpAny_call_entry F.slotSetIt hT F.entSetIt ?_ (F.argsSetIt _))
  show wpAny _ _ (ret (.ref it)) _ _ s
  exact wpAny_pure ⟨_, rfl, "set_iterator", _, hT, F.slotSetNext.lookup, h⟩
theorem walks_slot (hh : A.handled = none) {I a : Addr} (hne : a ≠ I) {o : Obj} {es : Array (Int × Value)} {ep : Nat} {t : SetTable} (gd : o.data = .set es ep t) (gf : t.fits es.size = true) (slot : Nat → Nat) (val : Nat → Value)
    (hn : ∀ (i : Nat) (s : Shared), i < es.size → s.heap.get? a = some o → ∀ A' Q' E', Q' (some (val i, slot (i + 1))) s → wpAny (model prog w) A' (setNext a (slot i) i ep) Q' E' s)
    (hz : ∀ (s : Shared), s.heap.get? a = some o → ∀ A' Q' E', Q' none s → wpAny (model prog w) A' (setNext a (slot es.size) es.size ep) Q' E' s) :
    Walks prog w A I [I, a] [I] es.size (fun i v => v = val i) (fun i h => h.get? I = some (itObj (.int (slot i) 0) i a es.size ep) ∧ h.get? a = some o) where
  sub := fun b hb => by simp at hb; simp [hb]
  frame := fun _ _ _ st hk => ⟨hk I (by simp) _ st.1, hk a (by simp) _ st.2⟩
  item := fun i s Q E hi st hQ => by
    refine next_slot st.1 st.2 gd gf rfl (hn i s hi st.2) fun h' e' sb => ?_
    exact hQ _ h' s.toks rfl ⟨e', sb.extBut a o hne st.2⟩ fun b u hb e => sb.extBut b u (fun z => hb (by simp [z])) e
  done := fun s Q E st hQ => stop_slot hh st.1 st.2 gd gf rfl (hz s st.2) fun h' eb => hQ h' s.toks fun b u hb e => eb b u (fun z => hb (by simp [z])) e
  self := fun _ _ _ _ st hQ => iter_it st.1 hQ
theorem next_drawn {it a tp : Addr} {i n ep p : Nat} {o : Obj} {es : Array (Int × Value)} {t : SetTable} {x : Int × Value} {ps : Array Value} {ot : Obj} {nt : Nat} {Q : Option Value → Shared → Prop} (e : s.heap.get? it = some (itObj (.ref tp) i a n ep))
    (go : s.heap.get? a = some o) (gd : o.data = .set es ep t) (gf : t.fits es.size = true) (hn : es.size = n) (gt : s.heap.get? tp = some ot) (gtd : ot.data = .seq ps nt) (hp : ps[i]? = some (.int p 0)) (hx : es[p]? = some x)
    (k : ∀ h', h'.get? it = some (itObj (.ref tp) (i + 1) a n ep) → Heap.SameBut it s.heap h' → Q (some x.2) { s with heap := h' }) :
    wpAny (model prog w) A (pyNext (.ref it)) Q E s := by
  have hT : s.TypeIs (.ref it) "set_iterator" := ⟨_, e, rfl⟩
  unfold pyNext
  refine wpAny_bind (wpAny_attempt (wpAny_callSpecial?_slot (name := Str.ofString "__next__") hT F.slotSetNext (wpAny_call_entry F.slotSetNext hT F.entSetNext ?_ (F.argsSetNext _))))
  unfold Builtin.«set_iterator.__next__»
  refine wpAny_bind (m := slotArgs "__next__" 0 ⟨[.ref it], []⟩) (wpAny_pure ?_)
  refine wpAny_bind (wpAny_fieldsOf e rfl ?_)
  dsimp only
  refine wpAny_bind (entries_of go gd gf ?_)
  rw [if_neg (by rw [hn]; simp)]
  refine wpAny_bind (wpAny_seqItems gt gtd ?_)
  dsimp only
  simp only [Int.toNat_natCast]
  rw [hp]
  dsimp only
  unfold setNextDrawn
  refine wpAny_bind (wpAny_bind (wpAny_setState_of go gd gf ?_))
  dsimp only
  refine wpAny_ite_split (fun z => absurd z (by simp)) (fun _ => ?_)
  simp only [Int.toNat_natCast]
  rw [hx]
  refine wpAny_pure ?_
  refine wpAny_bind (wpAny_setField_rec e (by simp) fun h1 e1 sb1 => ?_)
  refine wpAny_pure ⟨_, rfl, wpAny_pure (k h1 ?_ sb1)⟩
  rw [e1]
  simp [rawInt]
theorem stop_drawn {it a tp : Addr} {i n ep : Nat} {o : Obj} {es : Array (Int × Value)} {t : SetTable} {ps : Array Value} {ot : Obj} {nt : Nat} {Q : Option Value → Shared → Prop} (hh : A.handled = none) (e : s.heap.get? it = some (itObj (.ref tp) i a n ep))
    (go : s.heap.get? a = some o) (gd : o.data = .set es ep t) (gf : t.fits es.size = true) (hn : es.size = n) (gt : s.heap.get? tp = some ot) (gtd : ot.data = .seq ps nt) (hp : ps[i]? = none)
    (k : ∀ h', Heap.ExtBut it s.heap h' → Q none { s with heap := h' }) :
    wpAny (model prog w) A (pyNext (.ref it)) Q E s := by
  have hT : s.TypeIs (.ref it) "set_iterator" := ⟨_, e, rfl⟩
  unfold pyNext
  refine wpAny_bind (wpAny_attempt (wpAny_callSpecial?_slot (name := Str.ofString "__next__") hT F.slotSetNext (wpAny_call_entry F.slotSetNext hT F.entSetNext ?_ (F.argsSetNext _))))
  unfold Builtin.«set_iterator.__next__»
  refine wpAny_bind (m := slotArgs "__next__" 0 ⟨[.ref it], []⟩) (wpAny_pure ?_)
  refine wpAny_bind (wpAny_fieldsOf e rfl ?_)
  dsimp only
  refine wpAny_bind (entries_of go gd gf ?_)
  rw [if_neg (by rw [hn]; simp)]
  refine wpAny_bind (wpAny_seqItems gt gtd ?_)
  dsimp only
  simp only [Int.toNat_natCast]
  rw [hp]
  dsimp only
  refine wpAny_bind (wpAny_setField_rec e (by simp) fun h1 e1 sb1 => ?_)
  refine wpAny_bind (wpAny_setField_rec (s := { s with heap := h1 }) e1 (by simp) fun h2 e2 sb2 => ?_)
  show wpAny _ _ (newExc (.type "StopIteration") [] >>= fun x => raiseNew x) _ _ _
  refine wpAny_bind ?_
  simp only [newExc, newTuple]
  refine wpAny_bind (wpAny_newObj_type ?_ (by size_fits))
  refine wpAny_bind (m := firstArgMember _ _) (wpAny_of_eq (a := Value.none) (by first | rfl | (simp only [firstArgMember]; rfl)) ?_)
  refine wpAny_newObj_type ?_ (by size_fits)
  simp only [raiseNew]
  refine wpAny_bind (wpAny_handled ?_)
  rw [show A.in1.handled = none from hh]
  refine wpAny_bind (wpAny_pure (wpAny_throw ?_))
  refine wpAny_bind (wpAny_isInstance (T := "StopIteration") (b := true) ⟨_, Heap.get?_push_size _ rfl, rfl⟩ isSubtype_stop ?_)
  exact wpAny_pure (k _ (((sb1.trans sb2).extBut.push _).push _))
theorem walks_drawn (hh : A.handled = none) {I a tp : Addr} (hne : a ≠ I) (htp : tp ≠ I) {o : Obj} {es : Array (Int × Value)} {ep : Nat} {t : SetTable} (gd : o.data = .set es ep t) (gf : t.fits es.size = true) {ot : Obj} {nt : Nat} (ord : List Nat) (hp : ord.Perm (List.range es.size)) (gtd : ot.data = .seq (ord.map fun (i : Nat) => rawInt i).toArray nt) :
    Walks prog w A I [I, a, tp] [I] es.size (fun i v => ∃ p x, ord[i]? = some p ∧ es[p]? = some x ∧ v = x.2) (fun i h => h.get? I = some (itObj (.ref tp) i a es.size ep) ∧ h.get? a = some o ∧ h.get? tp = some ot) where
  sub := fun b hb => by simp at hb; simp [hb]
  frame := fun _ _ _ st hk => ⟨hk I (by simp) _ st.1, hk a (by simp) _ st.2.1, hk tp (by simp) _ st.2.2⟩
  item := fun i s Q E hi st hQ => by
    have hl : ord.length = es.size := by rw [hp.length_eq, List.length_range]
    have ho : ord[i]? = some (ord[i]'(by omega)) := List.getElem?_eq_getElem _
    have hlt : ord[i]'(by omega) < es.size := List.mem_range.mp (hp.mem_iff.mp (List.getElem_mem _))
    refine next_drawn (p := ord[i]'(by omega)) (x := es[ord[i]'(by omega)]) st.1 st.2.1 gd gf rfl st.2.2 gtd (by simp [rawInt, ho]) (by simp [hlt]) fun h' e' sb => ?_
    exact hQ _ h' s.toks ⟨_, _, ho, by simp [hlt], rfl⟩ ⟨e', sb.extBut a o hne st.2.1, sb.extBut tp ot htp st.2.2⟩ fun b u hb e => sb.extBut b u (fun z => hb (by simp [z])) e
  done := fun s Q E st hQ => stop_drawn hh st.1 st.2.1 gd gf rfl st.2.2 gtd (by simp [hp.length_eq]) fun h' eb => hQ h' s.toks fun b u hb e => eb b u (fun z => hb (by simp [z])) e
  self := fun _ _ _ _ st hQ => iter_it st.1 hQ
end
end Hk
set_option maxRecDepth 100000
namespace PySem.F
theorem slotSetLen : typeLookup (.type "set") "__len__" = pure (some (.builtin "set.__len__")) := by rw [typeLookup_type, builtinLookup_eq_fast]; kernel_rfl
theorem slotSetIter : Slot "set" "__iter__" "set.__iter__" := .of (owner := "set") (n := "__iter__") (by rw [typeLookup_type, builtinLookup_eq_fast]; kernel_rfl) (by decide +kernel) (by decide +kernel) (by decide +kernel) (by first | exact .inl (by decide +kernel) | exact .inr (by decide +kernel)) (by rw [isSubtype_type]; kernel_rfl)
theorem argsSetIter (a : Value) : argsOk "set.__iter__" ⟨[a], []⟩ := by
  unfold argsOk; kernel_rfl
end PySem.F
namespace Hk
open PySem PySem.Spec PyProof.Rows
def slotAt (xs : Array Nat) : Nat → Nat
  | 0 => 0
  | i + 1 => xs.toList.getD i 0 + 1
theorem below_slot {xs : Array Nat} (h : Rise xs) : ∀ i, i ≤ xs.size → SetTable.below xs (slotAt xs i) = i := by
  intro i hi
  obtain ⟨h1, h2, h3⟩ := below_ok h (slotAt xs i)
  have hz : xs.toList.length = xs.size := Array.length_toList
  cases i with
  | zero =>
    rcases Nat.eq_zero_or_pos (SetTable.below xs (slotAt xs 0)) with z | z
    · exact z
    · exact absurd (h2 0 (by omega) z) (Nat.not_lt_zero _)
  | succ i =>
    have hlt : i < xs.toList.length := by omega
    have e : slotAt xs (i + 1) = xs.toList[i] + 1 := by
      show xs.toList.getD i 0 + 1 = _
      rw [List.getD_eq_getElem?_getD, List.getElem?_eq_getElem hlt]; rfl
    rw [e] at h2 h3 h1 ⊢
    generalize SetTable.below xs (xs.toList[i] + 1) = b at h1 h2 h3 ⊢
    have a1 : i < b := by
      rcases Nat.lt_or_ge i b with z | z
      · exact z
      · have := h3 i hlt z; omega
    have a2 : b ≤ i + 1 := by
      rcases Nat.lt_or_ge (i + 1) b with z | z
      · have y := h2 (i + 1) (by omega) z
        have y' := rise_lt h hlt (show i + 1 < xs.toList.length by omega) (Nat.lt_succ_self i)
        omega
      · exact z
    omega
theorem items_val {val : Nat → Value} {n : Nat} {acc : Array Value} (h : ItemsOf (fun i v => v = val i) acc n) : acc.toList = (List.range n).map val := by
  apply List.ext_getElem?
  intro i
  rw [Array.getElem?_toList, List.getElem?_map]
  rcases Nat.lt_or_ge i n with z | z
  · rw [List.getElem?_range z]
    have hz : i < acc.size := by rw [h.1]; exact z
    have : acc[i]? = some acc[i] := Array.getElem?_eq_getElem hz
    rw [this, h.2 i _ this]; rfl
  · rw [List.getElem?_eq_none (by rw [List.length_range]; exact z), Array.getElem?_eq_none (by rw [h.1]; exact z)]; rfl
theorem ints_good : ∀ {l : List (Int × Value)}, (∀ e ∈ l, GoodE e) → IntsAre (l.map (·.2)) (l.map fun e => vI e.2)
  | [], _ => .nil
  | e :: r, h => by
    obtain ⟨x, t, rfl⟩ := h e List.mem_cons_self
    exact .cons _ _ (ints_good fun e he => h e (List.mem_cons_of_mem _ he))
section
variable {prog : Program} {w : World} {A : Around} {E : Value → Shared → Prop} {s : Shared}
theorem hint_set {r : Addr} {Q : Bool → Shared → Prop} (hT : s.TypeIs (.ref r) "set") (h : Q false s) : wpAny (model prog w) A (Builtin.List.listLengthHint (.ref r)) Q E s := by
  unfold Builtin.List.listLengthHint
  refine wpAny_bind (wpAny_specialOf hT F.slotSetLen ?_)
  generalize hid : ("set.__len__" : String) = id0
  wp_delta
  rw [show splitId id0 = some ("set", "__len__") from by subst hid; decide +kernel]
  subst hid
  refine wpAny_bind (wpAny_isInstance (T := "set") (b := true) hT (by rw [isSubtype_type]; kernel_rfl) ?_)
  refine wpAny_ite_split (fun hab => absurd hab (by decide)) (fun _ => ?_)
  refine wpAny_ite_split (fun _ => ?_) (fun hab => absurd (by decide +kernel) hab)
  refine wpAny_bind (wpAny_typeOf hT ?_)
  exact wpAny_pure h
theorem iter_set {a : Addr} {xs : List Int} {Q : Value → Shared → Prop} (S : SetI s.heap a (ledOf w) xs)
    (k : ∀ (h' : Heap) (d : Drawn) (I : Addr) (fp : List Addr) (P : Nat → Value → Prop) (St : Nat → Heap → Prop), (∀ b o, s.heap.get? b = some o → h'.get? b = some o) → s.heap.objs.size ≤ I → (∀ b ∈ fp, b = a ∨ s.heap.objs.size ≤ b) →
      (∀ A : Around, A.handled = none → Walks prog w A I fp [I] xs.length P St) → St 0 h' → (∀ acc : Array Value, ItemsOf P acc xs.length → ∃ ys, IntsAre acc.toList ys ∧ ys.Perm xs) → (∀ b ∈ fp, b < h'.objs.size) → Q (.ref I) { s with heap := h', drawn := d }) :
    wpAny (model prog w) A (pyIter (.ref a)) Q E s := by
  obtain ⟨o, es, ep, t, go, gx, gd, T, gl, gb, gg, gv, gn⟩ := id S
  have hl : es.size = xs.length := by rw [← gv, List.length_map, Array.length_toList]
  have hlt : a < s.heap.objs.size := Heap.lt_size go
  have hps : t.place.size = es.size := by
    have := T.fits
    unfold SetTable.fits at this
    simp only [Bool.and_eq_true, beq_iff_eq] at this
    exact this.1
  have hT : s.TypeIs (.ref a) "set" := ⟨o, go, gx.1⟩
  refine wpAny_pyIter_slot hT F.slotSetIter (wpAny_call_entry F.slotSetIter hT F.entSetIter ?_ (F.argsSetIter _))
  unfold Builtin.«frozenset.__iter__» Builtin.Frozenset.slot0 Builtin.Frozenset.sizeOf
  refine wpAny_bind ?_
  refine wpAny_bind (m := slotArgs "__iter__" 0 ⟨[.ref a], []⟩) (wpAny_pure ?_)
  show wpAny _ _ (pure a) _ _ s
  refine wpAny_pure ?_
  refine wpAny_bind (wpAny_bind (entries_of go gd T.fits (wpAny_pure ?_)))
  refine wpAny_bind ?_
  unfold setDrawn
  refine wpAny_bind (wpAny_setState_of go gd T.fits ?_)
  dsimp only
  refine wpAny_bind (byText_is (wpAny_pure ?_))
  have perm_ok : ∀ (l : List (Int × Value)), l.Perm es.toList → ∃ ys, IntsAre (l.map (·.2)) ys ∧ ys.Perm xs := fun l p =>
    ⟨_, ints_good fun e he => gg e (p.mem_iff.mp he), by rw [← gv]; exact p.map _⟩
  have slots : ∀ (slot : Nat → Nat) (l : List (Int × Value)), slot 0 = 0 → l.Perm es.toList →
      (∀ (i : Nat) (s : Shared), i < es.size → s.heap.get? a = some o → ∀ A' Q' E', Q' (some ((l.map (·.2)).getD i .none, slot (i + 1))) s → wpAny (model prog w) A' (setNext a (slot i) i ep) Q' E' s) →
      (∀ (s : Shared), s.heap.get? a = some o → ∀ A' Q' E', Q' none s → wpAny (model prog w) A' (setNext a (slot es.size) es.size ep) Q' E' s) →
      Q (.ref s.heap.objs.size) { s with heap := s.heap.push (itObj (.int (slot 0 : Nat) 0) 0 a es.size ep) } := fun slot l h0 p hn hz => by
    have := k (s.heap.push (itObj (.int (slot 0 : Nat) 0) 0 a es.size ep)) s.drawn s.heap.objs.size [s.heap.objs.size, a] (fun i v => v = (l.map (·.2)).getD i .none) (fun i h => h.get? s.heap.objs.size = some (itObj (.int (slot i) 0) i a es.size ep) ∧ h.get? a = some o)
      (fun b u e => Heap.get?_push_of_some _ e) (Nat.le_refl _) (fun b hb => by
        simp only [List.mem_cons, List.not_mem_nil, or_false] at hb
        rcases hb with rfl | rfl
        · exact .inr (Nat.le_refl _)
        · exact .inl rfl) (fun A hh => by rw [← hl]; exact walks_slot hh (Nat.ne_of_lt hlt) gd T.fits slot _ hn hz) ⟨Heap.get?_push_size _ rfl, Heap.get?_push_of_some _ go⟩ (fun acc hacc => by
        rw [items_val hacc]
        obtain ⟨ys, y1, y2⟩ := perm_ok l p
        have e : (List.range xs.length).map (fun i => (l.map (·.2)).getD i .none) = l.map (·.2) := by
          apply List.ext_getElem?
          intro i
          have hll : l.length = xs.length := by rw [p.length_eq, Array.length_toList, hl]
          rw [List.getElem?_map]
          rcases Nat.lt_or_ge i xs.length with z | z
          · rw [List.getElem?_range z]
            show some ((l.map (·.2)).getD i .none) = _
            rw [List.getD_eq_getElem?_getD, List.getElem?_eq_getElem (by rw [List.length_map, hll]; exact z)]; rfl
          · rw [List.getElem?_eq_none (by rw [List.length_range]; exact z), List.getElem?_eq_none (by rw [List.length_map, hll]; exact z)]; rfl
        rw [e]
        exact ⟨ys, y1, y2⟩) (fun b hb => by
        rw [Heap.size_push]
        simp only [List.mem_cons, List.not_mem_nil, or_false] at hb
        rcases hb with rfl | rfl
        · exact Nat.lt_succ_self _
        · exact Nat.lt_succ_of_lt hlt)
    exact this
  have getD_at : ∀ (l : List (Int × Value)) (i : Nat) (e : Int × Value), l[i]? = some e → (l.map (·.2)).getD i .none = e.2 := fun l i e h => by
    rw [List.getD_eq_getElem?_getD, List.getElem?_map, h]; rfl
  cases hB : w.params.followText "set-order" with
  | true =>
    refine wpAny_bind (wpAny_pure ?_)
    refine wpAny_bind ?_
    unfold setEpoch
    refine wpAny_bind (wpAny_setState_of go gd T.fits (wpAny_pure ?_))
    refine wpAny_bind (wpAny_newObj_type (wpAny_pure ⟨_, rfl, "set_iterator", _, ⟨_, Heap.get?_push_size _ rfl, rfl⟩, F.slotSetNext.lookup, ?_⟩))
    have pp := pick_perm (w.params.setOrder a ep) es
    have hpl : (pickOrder (w.params.setOrder a ep) es).size = es.size := by rw [← Array.length_toList, pp.length_eq, Array.length_toList]
    refine slots (fun _ => 0) _ rfl pp (fun i s hi go' A' Q' E' q => ?_) fun s go' A' Q' E' q => ?_
    · refine next_text go' gd T.fits hB ?_
      have hz : i < (pickOrder (w.params.setOrder a ep) es).size := by rw [hpl]; exact hi
      rw [Array.getElem?_eq_getElem hz]
      have := getD_at (pickOrder (w.params.setOrder a ep) es).toList i (pickOrder (w.params.setOrder a ep) es)[i] (by rw [Array.getElem?_toList, Array.getElem?_eq_getElem hz])
      rw [this] at q
      exact q
    · refine next_text go' gd T.fits hB ?_
      rw [Array.getElem?_eq_none (by rw [hpl]; exact Nat.le_refl _)]
      exact q
  | false =>
    have led : t.led = true := by rw [gl]; unfold ledOf; rw [hB]; rfl
    cases hD : (!t.plain && decide (es.size > 1)) with
    | false =>
      refine wpAny_ite_split (fun z => absurd ((show (!false && (!t.plain && decide (es.size > 1))) = true from z)) (by rw [hD]; decide)) (fun _ => ?_)
      refine wpAny_bind (wpAny_pure ?_)
      refine wpAny_bind ?_
      unfold setEpoch
      refine wpAny_bind (wpAny_setState_of go gd T.fits (wpAny_pure ?_))
      refine wpAny_bind (wpAny_newObj_type (wpAny_pure ⟨_, rfl, "set_iterator", _, ⟨_, Heap.get?_push_size _ rfl, rfl⟩, F.slotSetNext.lookup, ?_⟩))
      refine slots (slotAt t.place) es.toList rfl (List.Perm.refl _) (fun i s hi go' A' Q' E' q => ?_) fun s go' A' Q' E' q => ?_
      · refine next_place go' gd T.fits hB led hD rfl ?_
        rw [below_slot T.rise i (by omega), Array.getElem?_eq_getElem hi, Array.getElem?_eq_getElem (show i < t.place.size by omega)]
        have := getD_at es.toList i es[i] (by rw [Array.getElem?_toList, Array.getElem?_eq_getElem hi])
        rw [this] at q
        have e2 : slotAt t.place (i + 1) = t.place[i]'(by omega) + 1 := by
          show t.place.toList.getD i 0 + 1 = _
          rw [List.getD_eq_getElem?_getD, Array.getElem?_toList, Array.getElem?_eq_getElem (show i < t.place.size by omega)]; rfl
        rw [e2] at q
        exact q
      · refine next_place go' gd T.fits hB led hD rfl ?_
        rw [below_slot T.rise es.size (by omega), Array.getElem?_eq_none (Nat.le_refl _)]
        exact q
    | true =>
      refine wpAny_ite_split (fun _ => ?_) (fun z => absurd (show (!false && (!t.plain && decide (es.size > 1))) = true by rw [hD]; rfl) z)
      refine wpAny_bind (wp_drawOrder es.size (List.range es.size) _ _ List.length_range fun ord d po => ?_)
      have hol : ord.length = es.size := by rw [po.length_eq, List.length_range]
      refine wpAny_bind (wpAny_newTuple ?_ (by rw [List.length_map, hol]; exact Nat.le_trans (Nat.le_of_lt gb) (by decide)))
      refine wpAny_bind ?_
      unfold setEpoch
      have go2 : (s.heap.push { cls := .type "tuple", data := .seq (ord.map fun (i : Nat) => rawInt i).toArray }).get? a = some o := Heap.get?_push_of_some _ go
      refine wpAny_bind (wpAny_setState_of go2 gd T.fits (wpAny_pure ?_))
      refine wpAny_bind (wpAny_newObj_type (wpAny_pure ⟨_, rfl, "set_iterator", _, ⟨_, Heap.get?_push_size _ rfl, rfl⟩, F.slotSetNext.lookup, ?_⟩))
      have hs1 : (s.heap.push { cls := .type "tuple", data := .seq (ord.map fun (i : Nat) => rawInt i).toArray }).objs.size = s.heap.objs.size + 1 := Heap.size_push _ _
      have ht1 : (s.heap.push { cls := .type "tuple", data := .seq (ord.map fun (i : Nat) => rawInt i).toArray }).get? s.heap.objs.size = some { cls := .type "tuple", data := .seq (ord.map fun (i : Nat) => rawInt i).toArray } := Heap.get?_push_size _ rfl
      refine k _ d _ [(s.heap.push { cls := .type "tuple", data := .seq (ord.map fun (i : Nat) => rawInt i).toArray }).objs.size, a, s.heap.objs.size] (fun i v => ∃ p x, ord[i]? = some p ∧ es[p]? = some x ∧ v = x.2)
        (fun i h => h.get? (s.heap.push { cls := .type "tuple", data := .seq (ord.map fun (i : Nat) => rawInt i).toArray }).objs.size = some (itObj (.ref s.heap.objs.size) i a es.size ep) ∧ h.get? a = some o ∧ h.get? s.heap.objs.size = some { cls := .type "tuple", data := .seq (ord.map fun (i : Nat) => rawInt i).toArray }) (fun b u e => Heap.get?_push_of_some _ (Heap.get?_push_of_some _ e)) (by rw [hs1]; exact Nat.le_succ _) (fun b hb => ?_) (fun A hh => by
        rw [← hl]
        exact walks_drawn (tp := s.heap.objs.size) hh (by rw [hs1]; exact Nat.ne_of_lt (Nat.lt_succ_of_lt hlt)) (by rw [hs1]; exact Nat.ne_of_lt (Nat.lt_succ_self _)) gd T.fits ord po rfl)
        ⟨Heap.get?_push_size _ rfl, Heap.get?_push_of_some _ go2, Heap.get?_push_of_some _ ht1⟩ (fun acc hacc => ?_) (fun b hb => ?_)
      · simp only [List.mem_cons, List.not_mem_nil, or_false] at hb
        rcases hb with rfl | rfl | rfl
        · exact .inr (by rw [hs1]; exact Nat.le_succ _)
        · exact .inl rfl
        · exact .inr (Nat.le_refl _)
      · have e : acc.toList = (ord.map fun p => es.toList.getD p (0, .none)).map (·.2) := by
          apply List.ext_getElem?
          intro i
          rw [Array.getElem?_toList, List.getElem?_map, List.getElem?_map]
          rcases Nat.lt_or_ge i acc.size with z | z
          · obtain ⟨p, x, h1, h2, h3⟩ := hacc.2 i acc[i] (Array.getElem?_eq_getElem z)
            rw [Array.getElem?_eq_getElem z, h1, h3]
            show _ = some (es.toList.getD p (0, .none)).2
            rw [List.getD_eq_getElem?_getD, Array.getElem?_toList, h2]; rfl
          · rw [Array.getElem?_eq_none z, List.getElem?_eq_none (by rw [hol, hl, ← hacc.1]; exact z)]; rfl
        have p2 : (ord.map fun p => es.toList.getD p (0, .none)).Perm es.toList := by
          refine (po.map _).trans ?_
          have : (List.range es.size).map (fun p => es.toList.getD p (0, Value.none)) = es.toList := by
            apply List.ext_getElem?
            intro i
            rw [List.getElem?_map]
            rcases Nat.lt_or_ge i es.size with z | z
            · rw [List.getElem?_range z]
              show some (es.toList.getD i (0, Value.none)) = _
              rw [List.getD_eq_getElem?_getD, List.getElem?_eq_getElem (by rw [Array.length_toList]; exact z)]; rfl
            · rw [List.getElem?_eq_none (by rw [List.length_range]; exact z), List.getElem?_eq_none (by rw [Array.length_toList]; exact z)]; rfl
          rw [this]
        rw [e]
        exact perm_ok _ p2
      · rw [Heap.size_push, hs1]
        simp only [List.mem_cons, List.not_mem_nil, or_false] at hb
        rcases hb with rfl | rfl | rfl
        · rw [hs1]; exact Nat.lt_succ_self _
        · exact Nat.lt_succ_of_lt (Nat.lt_succ_of_lt hlt)
        · exact Nat.lt_succ_of_lt (Nat.lt_succ_self _)
end
end Hk
set_option maxRecDepth 100000
namespace Hk
open PySem PySem.Spec PyProof.Rows
section
variable {prog : Program} {w : World} {A : Around} {E : Value → Shared → Prop} {s : Shared}
theorem extend_set {R : Result → Shared → Prop} {a : Addr} {xs : List Int} (hh : A.handled = none) (SI : SetI s.heap a (ledOf w) xs) (S : Addr) (hSa : S ≠ a) (res : Value) (c₀ : Nat) (hS : s.heap.get? S = some { cls := .type "list", data := .seq #[] c₀ })
    (hR : ∀ h' tk d acc' c', (∀ b o, b ≠ S → s.heap.get? b = some o → h'.get? b = some o) → h'.get? S = some { cls := .type "list", dict := none, data := .seq acc' c', slots := #[] } → (∃ ys, IntsAre acc'.toList ys ∧ ys.Perm xs) → R (.ok (.ret res)) { s with heap := h', toks := tk, drawn := d }) :
    wpAny (model prog w) A.in1 (Builtin.List.listExtendWith (.ref S) (.ref a) res)
      (fun fin s' => match fin with | .done f => R (.ok f) s' | .again c' => c'.quiet = true ∧ codeAny (model prog w) A c' R s') (fun e s' => R (.error e) s') s := by
  have hn : xs.length ≤ sizeLine := Nat.le_trans (Nat.le_of_lt SI.len) (by decide)
  obtain ⟨o, es, ep, t, go, gx, gd, T, gl, gb, gg, gv, gn⟩ := id SI
  have hTy : ∀ h : Heap, h.get? a = some o → Shared.TypeIs { s with heap := h } (.ref a) "set" := fun h e => ⟨o, e, gx.1⟩
  unfold Builtin.List.listExtendWith
  refine wpAny_bind (wpAny_typeOf (T := "set") ⟨o, go, gx.1⟩ ?_)
  have h1 : Builtin.List.listSameRef (.ref S) (.ref a) = false := by simp [Builtin.List.listSameRef, hSa]
  have h2 : (Value.type "set" == Value.type "list") = false := by decide
  have h3 : (Value.type "set" == Value.type "tuple") = false := by decide
  simp only [h1, h2, h3, Bool.or_false, Bool.false_eq_true, if_false]
  refine wpAny_bind (iter_set SI fun h1 d I fp P St keep hI hfp W st items hlt => ?_)
  have hS1 : h1.get? S = some { cls := .type "list", data := .seq #[] c₀ } := keep _ _ hS
  have hSlt : S < s.heap.objs.size := Heap.lt_size hS
  have hSf : S ∉ fp := fun hm => by
    rcases hfp S hm with z | z
    · exact hSa z
    · exact absurd hSlt (Nat.not_lt.mpr z)
  have key : ∀ (h : Heap) (c₁ tk : Nat), St 0 h → (∀ b o, b ≠ S → s.heap.get? b = some o → h.get? b = some o) →
      h.get? S = some { cls := .type "list", data := .seq #[] c₁ } → codeAny (model prog w) A (.builtin "list.extend.loop" ⟨[.ref S, .ref I, res], []⟩) R { s with heap := h, toks := tk, drawn := d } := by
    intro h c₁ tk hst hk hS₁
    refine codeAny_extend_loopS (W A.in1 hh).toS hn S hSf res xs.length 0 _ #[] c₁ rfl (Nat.zero_le _) hst hS₁ (ItemsOf.nil _) fun s' acc' c' hm hS' hacc => ?_
    rw [Moved.eq_with hm]
    refine hR s'.heap s'.toks d acc' c' (fun b o hb e => hm.heap b o (fun hmem => ?_) (hk b o hb e)) hS' (items acc' hacc)
    rcases List.mem_cons.mp hmem with e' | hmem
    · exact hb e'
    · exact absurd (Heap.lt_size e) (by rw [List.mem_singleton.mp hmem]; exact Nat.not_lt.mpr hI)
  refine wpAny_bind (wpAny_holding (hint_set ⟨o, keep _ _ go, gx.1⟩ ?_))
  refine wpAny_ite_split (fun _ => ?_) (fun _ => wpAny_pure ⟨plainId_quiet PySem.F.plain_extend_loop _, key _ c₀ _ st (fun b o _ e => keep b o e) hS1⟩)
  refine wpAny_bind (wpAny_rule ?_)
  refine wpAny_bind ?_
  show wpAny _ _ (updateSeq S (·.push .none) >>= fun _ => updateSeq S (·.pop)) _ _ _
  refine wpAny_bind (wpAny_updateSeq hS1 rfl ?_)
  have hS₂ := Heap.get?_update_self (Obj.mapSeq (·.push Value.none)) hS1 rfl
  refine wpAny_updateSeq (hz := by seq_fits) hS₂ rfl ?_
  have hS₃ := Heap.get?_update_self (Obj.mapSeq (·.pop)) hS₂ rfl
  refine wpAny_pure ⟨plainId_quiet PySem.F.plain_extend_loop _, key _ _ _ ?_ (fun b o hb e => ?_) hS₃⟩
  · refine (W A.in1 hh).frame 0 _ _ st fun b hb o e => ?_
    have hbS : b ≠ S := fun h => hSf (h ▸ hb)
    exact (Heap.get?_update_other _ _ (Ne.symm hbS)).trans ((Heap.get?_update_other _ _ (Ne.symm hbS)).trans e)
  · exact (Heap.get?_update_other _ _ (Ne.symm hb)).trans ((Heap.get?_update_other _ _ (Ne.symm hb)).trans (keep b o e))
theorem collect_set {R : List Value → Shared → Prop} {a : Addr} {xs : List Int} (hh : A.handled = none) (SI : SetI s.heap a (ledOf w) xs)
    (h : ∀ (h' : Heap) (tk : Nat) (d : Drawn) (vs : List Value) (ys : List Int), (∀ b o, s.heap.get? b = some o → h'.get? b = some o) → s.heap.objs.size < h'.objs.size → IntsAre vs ys → ys.Perm xs → R vs { s with heap := h', toks := tk, drawn := d }) :
    wpAny (model prog w) A (collect (.ref a)) R E s := by
  obtain ⟨o, es, ep, t, go, gx, gd, T, gl, gb, gg, gv, gn⟩ := id SI
  have hlt : a < s.heap.objs.size := Heap.lt_size go
  unfold collect
  refine wpAny_bind (wpAny_runValue (codeAny_builtin entry_proto_collect' ?_))
  rw [Around.under_plainId PySem.F.plain_proto_collect _]
  show wpAny _ A.in1 (newList [] >>= fun l => again (.builtin "list.__iadd__" ⟨[l, .ref a], []⟩)) _ _ s
  refine wpAny_bind (wpAny_newObj_type ?_)
  refine wpAny_pure ⟨plainId_quiet PySem.F.plain_list_iadd _, codeAny_builtin entry_list_iadd' ?_⟩
  rw [Around.under_plainId PySem.F.plain_list_iadd _]
  have hS₁ : (s.heap.push { cls := .type "list", data := .seq ([] : List Value).toArray }).get? s.heap.objs.size = some { cls := .type "list", data := .seq #[] } := Heap.get?_push_size _ rfl
  show wpAny _ A.in1 (Builtin.List.listExtendWith (.ref s.heap.objs.size) (.ref a) (.ref s.heap.objs.size)) _ _ _
  have key := extend_set (prog := prog) (A := A) (s := { s with heap := s.heap.push { cls := .type "list", data := .seq ([] : List Value).toArray } })
    (R := fun (q : Result) (s' : Shared) => ∃ (h' : Heap) (tk : Nat) (d : Drawn) (acc' : Array Value) (c' : Nat), q = .ok (.ret (.ref s.heap.objs.size)) ∧ s' = { s with heap := h', toks := tk, drawn := d } ∧
      (∀ b o, s.heap.get? b = some o → h'.get? b = some o) ∧ h'.get? s.heap.objs.size = some { cls := .type "list", dict := none, data := .seq acc' c', slots := #[] } ∧ ∃ ys, IntsAre acc'.toList ys ∧ ys.Perm xs)
    hh (SI.at fun o e => Heap.get?_push_of_some _ e) s.heap.objs.size (Nat.ne_of_gt hlt) (.ref s.heap.objs.size) 0 hS₁
    (fun h' tk d acc' c' hk hS' hacc => ⟨h', tk, d, acc', c', rfl, rfl, fun b o e => hk b o (Nat.ne_of_lt (Heap.lt_size e)) (Heap.get?_push_of_some _ e), hS', hacc⟩)
  refine wpAny_mono key (fun fin s' x => ?_) fun e s' x => ?_
  · cases fin with
    | done f =>
      obtain ⟨h', tk, d, acc', c', e, rfl, hk, hS', ys, y1, y2⟩ := x
      cases e
      show wpAny _ A (load s.heap.objs.size >>= _) _ _ _
      refine wpAny_bind (wpAny_load hS' ?_)
      exact wpAny_pure (h h' tk d _ ys hk (Heap.lt_size hS') y1 y2)
    | again c₁ =>
      refine ⟨x.1, codeAny_mono x.2 fun q s₂ y => ?_⟩
      obtain ⟨h', tk, d, acc', c', rfl, rfl, hk, hS', ys, y1, y2⟩ := y
      show wpAny _ A (load s.heap.objs.size >>= _) _ _ _
      refine wpAny_bind (wpAny_load hS' ?_)
      exact wpAny_pure (h h' tk d _ ys hk (Heap.lt_size hS') y1 y2)
  · obtain ⟨_, _, _, _, _, e', _⟩ := x
    cases e'
theorem sorted_set {a : Addr} {xs : List Int} {Q : Value → Shared → Prop} (hh : A.handled = none) (SI : SetI s.heap a (ledOf w) xs) (h64 : xs.length < 64)
    (h : ∀ (D : Addr) (h' : Heap) (tk : Nat) (d : Drawn) (vs : List Value) (ys : List Int) (n : Nat), (∀ b o, s.heap.get? b = some o → h'.get? b = some o) → s.heap.objs.size ≤ D → h'.get? D = some (seqObj "list" vs.toArray n) → IntsAre vs ys → ys.Perm xs → ys.Pairwise (· ≤ ·) → Q (.ref D) { s with heap := h', toks := tk, drawn := d }) :
    wpAny (model prog w) A (call (.builtin "sorted") [.ref a]) Q E s := by
  refine Calls.call_function_entry kind_sorted plain_sorted entry_sorted (args_sorted1 _) ?_
  unfold Builtin.«sorted»
  refine wpAny_bind (m := checkCount "sorted" 1 1 _) (wpAny_pure ?_)
  refine wpAny_bind (collect_set (A := A.in1) hh SI fun h1 tk d vs ys hk hz y1 y2 => ?_)
  have hlen : vs.length = xs.length := by rw [IntsAre.length y1, y2.length_eq]
  refine wpAny_bind (wpAny_newList ?_ (Nat.le_trans (by rw [hlen]; exact Nat.le_of_lt h64) (by decide)))
  have hoL : (h1.push (seqObj "list" vs.toArray 0)).get? h1.objs.size = some (seqObj "list" vs.toArray 0) := Heap.get?_push_size _ rfl
  refine wpAny_bind (wpAny_holding (wpAny_call_entry slot_list_sort ⟨_, hoL, rfl⟩ entry_list_sort (list_sort_tree hoL y1 (by rw [hlen]; exact h64) fun out ns' a1 a2 a3 => ⟨_, rfl, ?_⟩) (args_list_sort _)))
  obtain ⟨n, hn⟩ := sortedHeap_at (vs := vs) (out := out) hoL
  refine wpAny_pure ⟨_, rfl, h h1.objs.size _ tk d out.toList ns' n (fun b o e => ?_) ?_ ?_ a1 (a2.trans y2) a3⟩
  · have e1 := hk b o e
    rw [sortedHeap_old (Nat.ne_of_lt (Heap.lt_size e1)) (by rw [Heap.size_push]; exact Nat.lt_succ_of_lt (Heap.lt_size e1))]
    exact Heap.get?_push_of_some _ e1
  · exact Nat.le_of_lt hz
  · rw [Array.toArray_toList]; exact hn
end
end Hk
set_option maxRecDepth 100000
namespace L2
open PySem PySem.Spec PyProof.Rows
def closL (names : List (Str × NameKind)) (cells : List (Str × Addr)) (cs : List (Str × Addr)) : List (Str × Addr) :=
  match names with
  | [] => cs
  | p :: r => closL r cells (if p.2 == .free then (p.1, (cells.lookup p.1).getD 0) :: cs else cs)
theorem closureFor_is {scope : Scope} {env : Env} (h : ∀ p ∈ scope.names, p.2 = NameKind.free → (env.cells.lookup p.1).isSome = true) :
    closureFor scope env = pure (closL scope.names env.cells []) := by
  simp only [closureFor]
  generalize scope.names = l at h ⊢
  have key : ∀ (l : List (Str × NameKind)) (cs : List (Str × Addr)), (∀ p ∈ l, p.2 = NameKind.free → (env.cells.lookup p.1).isSome = true) →
      (forIn l cs (fun (p : Str × NameKind) (r : List (Str × Addr)) => if (p.2 == NameKind.free) = true then (do let a ← cellOf env p.1; pure (ForInStep.yield ((p.1, a) :: r))) else pure (ForInStep.yield r)) : Sem _) = pure (closL l env.cells cs) := by
    intro l
    induction l with
    | nil => intro cs _; rfl
    | cons p r ih =>
      intro cs hp
      rw [List.forIn_cons]
      have hr := fun q hq => hp q (List.mem_cons_of_mem _ hq)
      by_cases hf : p.2 = NameKind.free
      · have hs := hp p List.mem_cons_self hf
        obtain ⟨a, ha⟩ := Option.isSome_iff_exists.mp hs
        have e : cellOf env p.1 = pure a := by unfold cellOf; rw [ha]
        have hb : (p.2 == NameKind.free) = true := by rw [hf]; rfl
        rw [if_pos hb, e, pure_bind, pure_bind]
        show forIn r _ _ = _
        rw [ih _ hr]
        show _ = pure (closL r env.cells (if p.2 == .free then _ else _))
        rw [if_pos hb, ha]; rfl
      · have hb : ¬ (p.2 == NameKind.free) = true := by intro z; exact hf (by cases hk : p.2 <;> simp_all)
        rw [if_neg hb, pure_bind]
        show forIn r _ _ = _
        rw [ih _ hr]
        show _ = pure (closL r env.cells (if p.2 == .free then _ else _))
        rw [if_neg hb]
  rw [key l [] h]
  rfl
theorem free_eq {k : NameKind} (h : (k == NameKind.free) = true) : k = NameKind.free := by cases k <;> first | rfl | cases h
theorem closL_sub {cells : List (Str × Addr)} : ∀ (l : List (Str × NameKind)) (cs : List (Str × Addr)), (∀ p ∈ l, p.2 = NameKind.free → (cells.lookup p.1).isSome = true) →
    (∀ x c, cs.lookup x = some c → cells.lookup x = some c) → ∀ x c, (closL l cells cs).lookup x = some c → cells.lookup x = some c
  | [], cs, _, h, x, c, e => h x c e
  | p :: r, cs, hp, h, x, c, e => by
    refine closL_sub r _ (fun q hq => hp q (List.mem_cons_of_mem _ hq)) (fun y d hy => ?_) x c e
    by_cases hb : (p.2 == NameKind.free) = true
    · rw [if_pos hb, List.lookup_cons] at hy
      cases hyp : y == p.1 with
      | true =>
        rw [hyp] at hy
        have hy' : (cells.lookup p.1).getD 0 = d := Option.some.inj hy
        obtain ⟨a, ha⟩ := Option.isSome_iff_exists.mp (hp p List.mem_cons_self (free_eq hb))
        rw [ha] at hy'
        rw [eq_of_beq hyp, ha, ← hy']; rfl
      | false => rw [hyp] at hy; exact h y d hy
    · rw [if_neg hb] at hy; exact h y d hy
theorem closL_has {cells : List (Str × Addr)} : ∀ (l : List (Str × NameKind)) (cs : List (Str × Addr)) (x : Str), ((x, NameKind.free) ∈ l ∨ (cs.lookup x).isSome = true) → ((closL l cells cs).lookup x).isSome = true
  | [], cs, x, h => by
    rcases h with h | h
    · cases h
    · exact h
  | p :: r, cs, x, h => by
    refine closL_has r _ x ?_
    rcases h with h | h
    · rcases List.mem_cons.mp h with rfl | h
      · right
        show (List.lookup x (if (NameKind.free == NameKind.free) = true then _ else _)).isSome = true
        rw [if_pos (by rfl), List.lookup_cons, beq_self_eq_true]
        rfl
      · exact .inl h
    · right
      by_cases hb : (p.2 == NameKind.free) = true
      · rw [if_pos hb, List.lookup_cons]
        cases hx : x == p.1 with
        | true => rfl
        | false => exact h
      · rw [if_neg hb]; exact h
def cxIn (X : Cx) (N : List Str) (scope : Scope) (C : Addr) (s : Shared) (H : Hp) (fp : List Addr) : Cx :=
  { X with N := N, s₀ := s, H₀ := H, env := compEnvC scope (closL scope.names X.env.cells []) C X.env, outer := X.stack, stack := X.stack, ex := fp, fn := fun _ => false, pn := [], xe := fun _ _ => False }
def sgIn (M : Nat) (frees : List Nat) (σ : St) : St := List.replicate M none ++ frees.map fun j => (σ[j]?).getD none
structure BlkOk (X : Cx) (N : List Str) (M : Nat) (frees : List Nat) (scope : Scope) : Prop where
  kind : scope.kind = .function
  nocell : ∀ y ∈ scope.names, y.2 ≠ .cell
  own : ∀ y ∈ scope.names, y.2 = .local → scope.names.lookup y.1 = some .local
  cells : ∀ p ∈ scope.names, p.2 = NameKind.free → (X.env.cells.lookup p.1).isSome = true
  fr : ∀ (k : Nat) (x : Str), N[M + k]? = some x → ∃ j, frees[k]? = some j ∧ X.N[j]? = some x ∧ (X.env.kindOf x = some .cell ∨ X.env.kindOf x = some .free) ∧ scope.names.lookup x = some .free
  len : N.length = M + frees.length
theorem relabel_free {env : Env} {x : Str} : ∀ {names : List (Str × NameKind)} {k : NameKind}, (∀ y ∈ names, y.2 ≠ .cell) → (k = .cell ∨ k = .free) →
    (names.map fun (n, k) => if (k == NameKind.free && env.scope.kind == .function && env.kindOf n == some .cell) then (n, NameKind.cell) else (n, k)).lookup x = some k → (x, NameKind.free) ∈ names
  | [], _, _, _, h => by cases h
  | (n, k0) :: r, k, hc, hk, h => by
    have ih := @relabel_free env x r k (fun y hy => hc y (List.mem_cons_of_mem _ hy)) hk
    rw [List.map_cons] at h
    by_cases hb : (k0 == NameKind.free && env.scope.kind == .function && env.kindOf n == some .cell) = true
    · have hf : k0 = NameKind.free := free_eq (by rw [Bool.and_eq_true, Bool.and_eq_true] at hb; exact hb.1.1)
      dsimp only at h
      rw [if_pos hb, List.lookup_cons] at h
      cases hx : x == n with
      | true => rw [eq_of_beq hx, hf]; exact List.mem_cons_self
      | false => rw [hx] at h; exact List.mem_cons_of_mem _ (ih h)
    · dsimp only at h
      rw [if_neg hb, List.lookup_cons] at h
      cases hx : x == n with
      | true =>
        rw [hx] at h
        have e : k0 = k := Option.some.inj h
        have z := hc (n, k0) List.mem_cons_self
        rw [eq_of_beq hx]
        rcases hk with rfl | rfl
        · exact absurd e z
        · rw [e]; exact List.mem_cons_self
      | false => rw [hx] at h; exact List.mem_cons_of_mem _ (ih h)
theorem relabel_look {env : Env} {x : Str} : ∀ {names : List (Str × NameKind)}, names.lookup x = some .free →
    (names.map fun (n, k) => if (k == NameKind.free && env.scope.kind == .function && env.kindOf n == some .cell) then (n, NameKind.cell) else (n, k)).lookup x = some .cell ∨
    (names.map fun (n, k) => if (k == NameKind.free && env.scope.kind == .function && env.kindOf n == some .cell) then (n, NameKind.cell) else (n, k)).lookup x = some .free
  | [], h => by cases h
  | (n, k0) :: r, h => by
    have ih := @relabel_look env x r
    rw [List.map_cons]
    dsimp only
    rw [List.lookup_cons] at h
    by_cases hb : (k0 == NameKind.free && env.scope.kind == .function && env.kindOf n == some .cell) = true
    · rw [if_pos hb, List.lookup_cons]
      cases hx : x == n with
      | true => exact .inl rfl
      | false => rw [hx] at h; exact ih h
    · rw [if_neg hb, List.lookup_cons]
      cases hx : x == n with
      | true => rw [hx] at h; exact .inr h
      | false => rw [hx] at h; exact ih h
section
variable {X : Cx} {pins : List (Addr × Obj)} {σ : St} {H : Hp} {s : Shared} {N : List Str} {M : Nat} {frees : List Nat} {scope : Scope} {fp : List Addr}
theorem Inv.enter {h1 : Heap} {C D tk : Nat} {m1 : Str → Option Value} (I : Inv X pins σ H s) (B : BlkOk X N M frees scope) (f : ∀ b ∈ fp, FpOk X pins H b) (lt : ∀ b ∈ fp, b < s.heap.objs.size)
    (hC : s.heap.objs.size < C) (hD : s.heap.objs.size ≤ D) (hDC : C ≠ D) (k : ∀ b u, s.heap.get? b = some u → h1.get? b = some u) (hns : h1.Ns C m1)
    (hl : h1.get? D = some { cls := .type "list", data := .seq ([] : List Value).toArray }) :
    Inv (cxIn X N scope C s H fp) [] (sgIn M frees σ) (upd H D (.lst [])) { s with heap := h1, toks := tk } := by
  have sub := closL_sub (cells := X.env.cells) scope.names [] B.cells (fun x c e => by cases e)
  have hfr : H D = none := I.hok.fresh hD
  have hfc : H C = none := I.hok.fresh (Nat.le_of_lt hC)
  have clt : ∀ x c, (closL scope.names X.env.cells []).lookup x = some c → c < s.heap.objs.size := fun x c e => by
    obtain ⟨v, q⟩ := I.cell x c (sub x c e)
    exact q.lt
  refine ⟨⟨I.ok.mod, B.kind, I.ok.glob, I.ok.blt, Nat.le_of_lt hC, fun x y c e1 e2 => I.ok.inj x y c (sub x c e1) (sub y c e2), fun x hx => ?_, fun x c e => absurd e (by intro z; cases z), I.ok.hd, I.ok.frames, .inl rfl, fun b hb => ?_, I.bs, Nat.le_trans I.ok.bsz I.sz, fun b o e hb => ?_,
    fun b hb hf => ?_, I.stack, I.stkFree⟩, rfl, I.bare, Un.laid k hD hfr, ⟨m1, hns, fun i x v e1 e2 e3 => ?_⟩, fun x c e => ?_, ?_, fun x c e => ?_, fun p hp => absurd (show p ∈ ([] : List (Addr × Obj)) from hp) (by simp), I.hok.laid k hD ⟨Nat.zero_le _, [], 0, .nil, hl⟩, ?_⟩
  · have hm : (x, NameKind.free) ∈ scope.names := by
      rcases hx with hx | hx
      · exact relabel_free B.nocell (.inl rfl) hx
      · exact relabel_free B.nocell (.inr rfl) hx
    exact Option.isSome_iff_exists.mp (closL_has scope.names [] x (.inl hm))
  · exact ⟨Nat.ne_of_lt (Nat.lt_trans (lt b hb) hC), fun x c e => (f b hb).2.2.2.2.1 x c (sub x c e)⟩
  · rcases (f b hb).2.2.2.1 with z | z
    · exact I.ok.noex b o e z
    · exact absurd (Nat.lt_of_lt_of_le (Heap.lt_size e) (Nat.le_trans I.ok.bsz z)) (Nat.lt_irrefl _)
  · rcases List.mem_cons.mp (I.stkSub b hf) with z | z
    · exact (f b hb).2.1 z
    · exact (f b hb).2.2.1 z
  · have hi : M ≤ i := by
      rcases Nat.lt_or_ge i M with z | z
      · unfold sgIn at e2
        rw [List.getElem?_append_left (by simpa using z), List.getElem?_replicate, if_pos z] at e2
        cases e2
      · exact z
    obtain ⟨q, rfl⟩ : ∃ q, i = M + q := ⟨i - M, by omega⟩
    obtain ⟨j, h1', h2', h3', h4'⟩ := B.fr q x e1
    have ev : σ[j]? = some (some v) := by
      unfold sgIn at e2
      rw [List.getElem?_append_right (by simp), List.length_replicate, Nat.add_sub_cancel_left, List.getElem?_map, h1'] at e2
      cases e : σ[j]? with
      | none => rw [Option.map_some, e] at e2; cases e2
      | some o => rw [Option.map_some, e] at e2; exact e2
    obtain ⟨m, hn, hl'⟩ := I.loc
    have vis : Vis X.env.scope x := by
      rcases h3' with z | z
      · exact .inr (.inl z)
      · exact .inr (.inr z)
    obtain ⟨u, ru, lk⟩ := hl' j x v h2' ev vis
    refine ⟨u, ru, .inr ?_⟩
    rcases lk with ⟨z, _⟩ | ⟨_, c, ec, ic⟩
    · rcases h3' with y | y <;> (rw [z] at y; cases y)
    · obtain ⟨c', ec'⟩ := Option.isSome_iff_exists.mp (closL_has (cells := X.env.cells) scope.names [] x (.inl (PySem.mem_of_lookup h4')))
      have : c' = c := Option.some.inj ((sub x c' ec').symm.trans ec)
      subst this
      exact ⟨relabel_look h4', c', ec', ic.keeps k⟩
  · obtain ⟨v, q⟩ := I.cell x c (sub x c e)
    exact ⟨v, q.keeps k⟩
  · show upd H D (.lst []) C = none
    rw [upd_ne hDC]; exact hfc
  · show upd H D (.lst []) c = none
    rw [upd_ne (Nat.ne_of_lt (Nat.lt_of_lt_of_le (clt x c e) hD))]
    exact I.freeC x c (sub x c e)
  · show (sgIn M frees σ).length = N.length
    unfold sgIn
    rw [List.length_append, List.length_replicate, List.length_map, B.len]
end
end L2
namespace L2
open PySem PySem.Spec PyProof.Rows
section
variable {prog : Program} {w : World} {A : Around} {R : Result → Shared → Prop} {s : Shared}
theorem compLoop_by {elt target iter : Expr} {ifs : List Expr} {scope : Scope} {pos : Pos} {it acc : Value} {env : Env} (J : Nat → Shared → Prop)
    (turn : ∀ n s, J n s → wpAny (model prog w) A (pyNext it) (fun r s1 => match r with
      | none => R (.ok .next) s1
      | some v => wpAny (model prog w) A (letOwnedTupleGo target it v) (fun _ s2 => wpAny (model prog w) A (assign target env v) (fun _ s3 =>
          wpAny (model prog w) A (forIn ifs true fun c r => if r = true then do let ok ← isTrue c env (eval c env); pure (ForInStep.yield ok) else pure (ForInStep.yield r)) (fun ok s4 =>
            if ok = true then wpAny (model prog w) A (eval elt env) (fun x s5 => wpAny (model prog w) A (call (.builtin "list.append") [acc, x]) (fun _ s6 => ∃ m, m < n ∧ J m s6) (fun _ _ => False) s5) (fun _ _ => False) s4
            else ∃ m, m < n ∧ J m s4) (fun _ _ => False) s3) (fun _ _ => False) s2) (fun _ _ => False) s1) (fun _ _ => False) s)
    (n : Nat) (h : J n s) : codeAny (model prog w) A (.compLoop (.ListComp elt [⟨target, iter, ifs, 0⟩] scope pos) 0 it acc env) R s := by
  refine codeAny_loop rfl J (fun n s hJ => ?_) n h
  show wpAny _ A ((compTurn (.ListComp elt [⟨target, iter, ifs, 0⟩] scope pos) 0 it acc env).onRaise (fun x => do noteFrame x env; theTreesLotGoes x)) _ _ s
  refine wpAny_noted (wpAny_mono (Q := fun fin s' => match fin with | .done f => R (.ok f) s' | .again c' => c' = .compLoop (.ListComp elt [⟨target, iter, ifs, 0⟩] scope pos) 0 it acc env ∧ ∃ m, m < n ∧ J m s') ?_ (fun _ _ q => q) fun _ _ (z : False) => z.elim)
  rw [compTurn_list]
  refine wpAny_bind (wpAny_standAt (wpAny_bind (wpAny_mono (turn n s hJ) (fun r s1 h1 => ?_) fun _ _ q => q)))
  cases r with
  | none => exact wpAny_pure h1
  | some v =>
    refine wpAny_bind (wpAny_mono h1 (fun _ s2 h2 => wpAny_bind (wpAny_mono h2 (fun _ s3 h3 => wpAny_bind (wpAny_mono h3 (fun ok s4 h4 => ?_) fun _ _ q => q)) fun _ _ q => q)) fun _ _ q => q)
    cases ok with
    | false => exact wpAny_pure ⟨rfl, h4⟩
    | true => exact wpAny_bind (wpAny_bind (wpAny_mono h4 (fun x s5 h5 => wpAny_bind (wpAny_mono h5 (fun _ s6 h6 => wpAny_pure (wpAny_pure ⟨rfl, h6⟩)) fun _ _ q => q)) fun _ _ q => q))
end
def PTs (X : Cx) (ifs : List Expr) (t : TT) : Prop :=
  ∀ (pins : List (Addr × Obj)) (s : Shared) (σ : St) (H : Hp) (Q : Bool → Hp → Prop), Inv X pins σ H s → t σ H Q →
    wpAny (model X.prog X.w) X.A (forIn ifs true fun c r => if r = true then do let ok ← isTrue c X.env (eval c X.env); pure (ForInStep.yield ok) else pure (ForInStep.yield r)) (TP X pins σ Q) X.xe s
theorem pts_nil {X : Cx} : PTs X [] (fun _ H Q => Q true H) := fun _ _ _ H _ I q => wpAny_tests_nil ⟨H, I, q⟩
theorem pts_one {X : Cx} {c : Expr} {t : TT} (h : PT X c t) : PTs X [c] t := fun pins s σ H Q I q => wpAny_tests_one (h pins s σ H Q I q)
def tComp (M : Nat) (frees : List Nat) (wi : TI) (g : TG) (tc : TT) (te : TE) : TE := fun σ H Q => wi σ H fun J H1 => ∀ D, H1 D = none →
  ∃ W : Nat → Nat → St → Hp → Prop, (∃ m, W 0 m (sgIn M frees σ) (upd H1 D (.lst []))) ∧ ∀ i m σ' H', W i m σ' H' →
    (J.stop i H' ∧ Q (.ref D) H') ∨ (J.go i H' ∧ ∀ x H2, J.yld i H' x H2 → g x σ' H2 fun σ2 H3 => tc σ2 H3 fun b H4 =>
      if b = true then te σ2 H4 fun v H5 => ∃ acc, H5 D = some (.lst acc) ∧ acc.length < sizeLine ∧ ∃ m', m' < m ∧ W (i + 1) m' σ2 (upd H5 D (.lst (acc ++ [v])))
      else ∃ m', m' < m ∧ W (i + 1) m' σ2 H4)
section
variable {X : Cx} {N : List Str} {M : Nat} {frees : List Nat} {scope : Scope} {tg iter elt : Expr} {ifs : List Expr} {pos : Pos} {wi : TI} {g : TG} {tc : TT} {te : TE}
theorem comp_blk (hc : X.calm = true) (B : BlkOk X N M frees scope)
    (hb : ∀ C s H fp, PG (cxIn X N scope C s H fp) tg g ∧ PTs (cxIn X N scope C s H fp) ifs tc ∧ PE (cxIn X N scope C s H fp) elt te)
    {pins : List (Addr × Obj)} {σ : St} {Q : VK} {s2 : Shared} {itv : Value} {E : Value → Shared → Prop} {RR : Value → Addr → Result → Shared → Prop}
    (h2 : PIE X pins σ tg (fun J H1 => ∀ D, H1 D = none →
      ∃ W : Nat → Nat → St → Hp → Prop, (∃ m, W 0 m (sgIn M frees σ) (upd H1 D (.lst []))) ∧ ∀ i m σ' H', W i m σ' H' →
        (J.stop i H' ∧ Q (.ref D) H') ∨ (J.go i H' ∧ ∀ x H2, J.yld i H' x H2 → g x σ' H2 fun σ2 H3 => tc σ2 H3 fun b H4 =>
          if b = true then te σ2 H4 fun v H5 => ∃ acc, H5 D = some (.lst acc) ∧ acc.length < sizeLine ∧ ∃ m', m' < m ∧ W (i + 1) m' σ2 (upd H5 D (.lst (acc ++ [v])))
          else ∃ m', m' < m ∧ W (i + 1) m' σ2 H4)) itv s2)
    (hR : ∀ D C s' H' m, Inv X pins σ H' s' → Q (.ref D) H' → s'.heap.Ns C m → H' C = none → C ≠ X.env.locals → X.s₀.heap.objs.size ≤ C → (∀ x c, X.env.cells.lookup x = some c → c ≠ C) → (∀ p ∈ X.pn ++ pins, p.1 ≠ C) → RR (.ref D) C (.ok .next) s') :
    wpAny (model X.prog X.w) X.A (newList []) (fun acc s3 => wpAny (model X.prog X.w) X.A (newFunctionEnv scope X.env.globals (closL scope.names X.env.cells []) [] X.env.qual none .none (some X.env)) (fun cenv s4 =>
      codeAny (model X.prog X.w) X.A (.compStart (.ListComp elt [⟨tg, iter, ifs, 0⟩] scope pos) 0 itv acc { cenv with scope := relabel scope X.env }) (RR acc cenv.locals) s4) E s3) E s2 := by
  obtain ⟨it, fp, tn, J, H2, e, I2, T, st2, f2, q⟩ := h2
  subst e
  refine wpAny_newObj_type (wpAny_newFunctionEnv B.nocell (by intro y hy; simp at hy) (fun h1 hns hsb => ?_) B.kind)
  dsimp only at hns hsb ⊢
  generalize hP : s2.heap.push { cls := .type "list", dict := none, data := .seq ([] : List Value).toArray } = P1 at hns hsb ⊢
  have hsz : P1.objs.size = s2.heap.objs.size + 1 := by rw [← hP, Heap.size_push]
  have below : ∀ b, b < s2.heap.objs.size → b ≠ P1.objs.size := fun b z => by rw [hsz]; exact Nat.ne_of_lt (Nat.lt_succ_of_lt z)
  have keep : ∀ b u, s2.heap.get? b = some u → h1.get? b = some u := fun b u z => hsb.extBut b u (below b (Heap.lt_size z)) (Heap.get?_push_of_some _ (hP ▸ Heap.get?_push_of_some _ z))
  have hne : s2.heap.objs.size ≠ P1.objs.size := by rw [hsz]; exact Nat.ne_of_lt (Nat.lt_succ_self _)
  have hl : h1.get? s2.heap.objs.size = some { cls := .type "list", data := .seq ([] : List Value).toArray } := hsb.extBut _ _ hne (Heap.get?_push_of_some _ (hP ▸ Heap.get?_push_size _ rfl))
  have lt2 : ∀ b ∈ fp, b < s2.heap.objs.size := fun b z => by
    obtain ⟨o, eo, _⟩ := T.obj _ _ st2 b z
    exact Heap.lt_size eo
  have hD0 : H2 s2.heap.objs.size = none := I2.hok.fresh (Nat.le_refl _)
  obtain ⟨W, ⟨m0, w0⟩, turn⟩ := q s2.heap.objs.size hD0
  have I4 := I2.enter (N := N) (M := M) (frees := frees) (scope := scope) (fp := fp) (h1 := h1) (C := P1.objs.size) (D := s2.heap.objs.size) (tk := s2.toks + ([] : List (Str × Value)).length) B f2 lt2 (by rw [hsz]; exact Nat.lt_succ_self _) (Nat.le_refl _) (Ne.symm hne) keep hns hl
  have hcx : ∀ (C : Addr), (cxIn X N scope C s2 H2 fp).calm = true := fun _ => hc
  have stat : ∀ {H' : Hp}, (∀ b ∈ fp, H' b = none) → ∀ b ∈ fp, FpOk (cxIn X N scope P1.objs.size s2 H2 fp) [] H' b := fun {H'} hn b z => by
    refine ⟨hn b z, below b (lt2 b z), fun y => ?_, .inl z, fun x c y => ?_, fun p y => absurd (show p ∈ ([] : List (Addr × Obj)) from y) (by simp)⟩
    · rcases List.mem_cons.mp (I2.stkSub b y) with u | u
      · exact (f2 b z).2.1 u
      · exact (f2 b z).2.2.1 u
    · exact (f2 b z).2.2.2.2.1 x c (closL_sub (cells := X.env.cells) scope.names [] B.cells (fun x c e => by cases e) x c y)
  have fr4 : ∀ b ∈ fp, (upd H2 s2.heap.objs.size (HO.lst [])) b = none := fun b z => by
    rw [upd_ne (Nat.ne_of_lt (lt2 b z))]; exact (f2 b z).1
  have st4 : tn 0 h1 := T.keep _ _ _ st2 fun b _ o z => keep b o z
  have fin : ∀ (s' : Shared) (σ' : St) (H' : Hp), Inv (cxIn X N scope P1.objs.size s2 H2 fp) [] σ' H' s' → Q (.ref s2.heap.objs.size) H' → RR (.ref s2.heap.objs.size) P1.objs.size (.ok .next) s' := fun s' σ' H' I' q' => by
    obtain ⟨m, hm, _⟩ := I'.loc
    have u' : Un (frs X.stack) fp H2 H' s2.heap s'.heap := I'.base
    have I0 : Inv X pins σ H' s' := I2.call' (ch := fp) I'.os u' I'.hok I'.bare fun b z => ⟨(f2 b z).2.2.2.1, (f2 b z).2.1, (f2 b z).2.2.2.2.1, (f2 b z).2.2.2.2.2⟩
    refine hR _ _ s' H' m I0 q' hm I'.free (Nat.ne_of_gt (Nat.lt_of_lt_of_le I2.lt (by rw [hsz]; exact Nat.le_succ _))) (Nat.le_trans I2.sz (by rw [hsz]; exact Nat.le_succ _)) (fun x c z => ?_) fun p z => ?_
    · obtain ⟨v, y⟩ := I2.cell x c z
      exact below c y.lt
    · exact below p.1 (Heap.lt_size (I2.pin p z).1)
  have loop : ∀ s4 : Shared, s4 = { s2 with heap := h1, toks := s2.toks + ([] : List (Str × Value)).length } →
      codeAny (model X.prog X.w) X.A (.compLoop (.ListComp elt [⟨tg, iter, ifs, 0⟩] scope pos) 0 (.ref it) (.ref s2.heap.objs.size) (compEnvC scope (closL scope.names X.env.cells []) P1.objs.size X.env)) (RR (.ref s2.heap.objs.size) P1.objs.size) s4 := by
    rintro s4 rfl
    refine compLoop_by (fun n s' => ∃ i σ' H', Inv (cxIn X N scope P1.objs.size s2 H2 fp) [] σ' H' s' ∧ tn i s'.heap ∧ (∀ b ∈ fp, H' b = none) ∧ W i n σ' H') ?_ m0 ⟨0, _, _, I4, st4, fr4, w0⟩
    rintro n s5 ⟨i, σ5, H5, I5, st5, fr5, w5⟩
    rcases turn i n σ5 H5 w5 with ⟨stop, qn⟩ | ⟨go, step⟩
    · refine thn (T.done (cxIn X N scope P1.objs.size s2 H2 fp) rfl rfl rfl hc i [] s5 σ5 H5 _ I5 (stat fr5) st5 stop) fun r s6 ⟨hr, I6⟩ => ?_
      subst hr
      exact fin s6 σ5 H5 I6 qn
    · refine thn (T.item (cxIn X N scope P1.objs.size s2 H2 fp) rfl rfl rfl hc i [] s5 σ5 H5 _ I5 (stat fr5) st5 go) fun r s6 ⟨u, hr, h6⟩ => ?_
      subst hr
      refine thn h6 fun _ s7 ⟨x, H7, I7, r7, y7, st7, fr7⟩ => ?_
      have I7' := I7.pinned (stat fr7) (T.obj _ _ st7)
      have B7 := hb P1.objs.size s2 H2 fp
      refine thn (B7.1 _ s7 σ5 H7 x u _ I7' r7 (step x H7 y7)) fun _ s8 ⟨σ8, H8, I8, q8⟩ => ?_
      refine thn (B7.2.1 _ s8 σ8 H8 _ I8 q8) fun ok s9 ⟨H9, I9, q9⟩ => ?_
      have again : ∀ {σa : St} {Ha : Hp} {sa : Shared}, Inv (cxIn X N scope P1.objs.size s2 H2 fp) ([] ++ pinsAt fp s7.heap) σa Ha sa → (∃ m', m' < n ∧ W (i + 1) m' σa Ha) →
          ∃ m, m < n ∧ ∃ i σ' H', Inv (cxIn X N scope P1.objs.size s2 H2 fp) [] σ' H' sa ∧ tn i sa.heap ∧ (∀ b ∈ fp, H' b = none) ∧ W i m σ' H' := fun {σa Ha sa} Ia ⟨m', hm, wa⟩ => by
        refine ⟨m', hm, i + 1, σa, Ha, Ia.unpinned, T.keep _ _ _ st7 fun b z o eo => (Ia.pin (b, o) (List.mem_append_right _ (List.mem_append_right _ (mem_pinsAt z eo)))).1, fun b z => ?_, wa⟩
        obtain ⟨o, eo, d⟩ := T.obj _ _ st7 b z
        exact (Ia.pin (b, o) (List.mem_append_right _ (List.mem_append_right _ (mem_pinsAt z eo)))).2.1
      cases ok with
      | false => exact again I9 q9
      | true =>
        rw [if_pos rfl]
        refine thn (B7.2.2 _ s9 σ8 H9 _ I9 q9) fun y s10 ⟨v, H10, I10, r10, acc, ha, hz, m', hm, wn⟩ => ?_
        refine thn (mt_append (X := cxIn X N scope P1.objs.size s2 H2 fp) _ s10 σ8 H10 (.ref s2.heap.objs.size) [v] (.ref s2.heap.objs.size) [y] (fun _ Hn => ∃ m', m' < n ∧ W (i + 1) m' σ8 Hn) I10 rfl (.cons r10 .nil) ⟨_, acc, v, rfl, rfl, ha, hz, m', hm, wn⟩) fun _ s11 ⟨_, H11, I11, _, q11⟩ => ?_
        exact again I11 q11
  exact codeAny_compStart_list (loop _ rfl) (T.self _ 0 _ _ _ st4 (loop _ rfl))
theorem pe_comp (hc : X.calm = true) (B : BlkOk X N M frees scope) (hi : PI X tg iter wi)
    (hb : ∀ C s H fp, PG (cxIn X N scope C s H fp) tg g ∧ PTs (cxIn X N scope C s H fp) ifs tc ∧ PE (cxIn X N scope C s H fp) elt te)
    (hs : ∀ x, foldedSetIterable iter X.env x = pure x := by intro _; rfl) : PE X (.ListComp elt [⟨tg, iter, ifs, 0⟩] scope pos) (tComp M frees wi g tc te) := by
  intro pins s σ H Q I h
  rw [eval_ListComp]
  refine wpAny_comprehension_free (use := none) rfl hs (closureFor_is B.cells) B.kind B.own (wpAny_mono (hi pins s σ H _ I h) (fun v s1 h1 => wpAny_mono h1 (fun itv s2 h2 => ?_) fun _ _ q => q) fun _ _ q => q)
  refine comp_blk (RR := fun acc C => compPost (model X.prog X.w) X.A X.xe none (EP X pins σ Q) acc C) hc B hb h2 fun D C s' H' m I' q' hm hC h1 h3 h4 h5 => ?_
  exact ⟨m, hm, fun h' hs' => ⟨.ref D, H', I'.turned (t' := s'.toks) (fun b o z y => hs'.extBut b o z y) hC h1 (.inr h3) h4 h5, rfl, q'⟩⟩
theorem ps_setc {i : Nat} {x : Str} {pos' spos : Pos} (hc : X.calm = true) (hN : X.N.Nodup) (hi' : X.N[i]? = some x) (hx : X.env.scope.names.lookup x = some .local) (B : BlkOk X N M frees scope) (hi : PI X tg iter wi)
    (hb : ∀ C s H fp, PG (cxIn X N scope C s H fp) tg g ∧ PTs (cxIn X N scope C s H fp) ifs tc ∧ PE (cxIn X N scope C s H fp) elt te)
    (hsw : swapsWith (.ListComp elt [⟨tg, iter, ifs, 0⟩] scope pos) (some (.Name x pos')) spos.line X.env = pure true := by rfl)
    (hs : ∀ x, foldedSetIterable iter X.env x = pure x := by intro _; rfl) : PS X (.Assign [.Name x pos'] (.ListComp elt [⟨tg, iter, ifs, 0⟩] scope pos) spos) (tAsg (tComp M frees wi g tc te) (gName i)) := by
  intro pins s σ H D I h
  rw [exec_Assign_Name_used _ _ _ _ hsw]
  refine wpAny_bind (wpAny_standAt (wpAny_bind ?_))
  show wpAny _ X.A (do let _ ← comprehension (.ListComp elt [⟨tg, iter, ifs, 0⟩] scope pos) scope X.env _ (newList []) false (eval iter X.env) (some (assign (.Name x pos') X.env))) _ _ s
  refine wpAny_bind (wpAny_mono (wpAny_comprehension_free (use := some (assign (.Name x pos') X.env)) (Q := fun _ s' => SP X pins D .next s') rfl hs (closureFor_is B.cells) B.kind B.own
    (wpAny_mono (hi pins s σ H _ I h) (fun v s1 h1 => wpAny_mono h1 (fun itv s2 h2 => ?_) fun _ _ q => q) fun _ _ q => q)) (fun _ s' hq => wpAny_pure (wpAny_pure hq)) fun _ _ q => q)
  refine comp_blk (Q := fun y H1 => gName i y σ H1 D.nx) (RR := fun acc C => compPost (model X.prog X.w) X.A X.xe (some (assign (.Name x pos') X.env)) (fun _ s' => SP X pins D .next s') acc C) hc B hb h2 fun Dd C s' H' m I' q' hm hC h1 h3 h4 h5 => ?_
  show wpAny _ X.A (assign (.Name x pos') X.env (.ref Dd)) _ _ _
  refine wpAny_assign_Name (store_ok2 I' hN hi' (.inl hx) (v := .ref Dd) (u := .ref Dd) rfl (fun s'' I'' ⟨a, hsb, ha⟩ => ?_) (.inr hx))
  have hCa : C ≠ a := by
    rcases ha with rfl | ha
    · exact h1
    · exact Ne.symm (h4 x a ha)
  refine ⟨m, hm.sameBut hsb hCa, fun h' hs' => ⟨_, H', I''.turned (t' := s''.toks) (fun b o z y => hs'.extBut b o z y) hC h1 (.inr h3) h4 h5, q'⟩⟩
end
end L2
set_option maxRecDepth 100000
namespace Hk
open PySem L2
inductive D where
  | non | bl (b : Bool) | int (i : Int) | str (x : Str) | lst (xs : List D) | tup (xs : List D) | scr (ns : List Int) | exc (c : Str) | dic (ks : List Int) (xs : List D)
def kvsOf : List Int → List V → List (Key × V)
  | k :: ks, v :: vs => (.inl k, v) :: kvsOf ks vs
  | _, _ => []
def excP (a C : Addr) (h : Heap) : Prop := ∃ o, h.get? a = some o ∧ o.cls = .ref C
mutual
def Rep (K : PySem.W.Frag) (H : Hp) : D → V → Prop
  | .non, v => v = .non
  | .bl b, v => v = .bl b
  | .int i, v => v = .int i
  | .str x, v => v = .str x
  | .lst ds, v => ∃ a vs, v = .ref a ∧ H a = some (.lst vs) ∧ Reps K H ds vs
  | .tup ds, v => ∃ a vs, v = .ref a ∧ H a = some (.tup vs) ∧ Reps K H ds vs
  | .scr ns, v => ∃ a, v = .ref a ∧ SqL K H a (ns.map V.int)
  | .exc c, v => ∃ a C, v = .ref a ∧ PySem.W.nsIn K mainGlobals c = some (some (.ref C)) ∧ H a = some (.ext (excP a C))
  | .dic ks ds, v => ∃ a vs, v = .ref a ∧ (∃ o, H a = some (.frz o (.dK (kvsOf ks vs)))) ∧ ks.length = ds.length ∧ Reps K H ds vs
def Reps (K : PySem.W.Frag) (H : Hp) : List D → List V → Prop
  | [], vs => vs = []
  | d :: ds, vs => ∃ v r, vs = v :: r ∧ Rep K H d v ∧ Reps K H ds r
end
mutual
theorem Rep.mono {K : PySem.W.Frag} {H H' : Hp} (e : Same H H') : ∀ {d : D} {v : V}, Rep K H d v → Rep K H' d v
  | .non, _, h => h
  | .bl _, _, h => h
  | .int _, _, h => h
  | .str _, _, h => h
  | .lst _, _, ⟨a, vs, h1, h2, h3⟩ => ⟨a, vs, h1, e _ _ h2, Reps.mono e h3⟩
  | .tup _, _, ⟨a, vs, h1, h2, h3⟩ => ⟨a, vs, h1, e _ _ h2, Reps.mono e h3⟩
  | .scr _, _, ⟨a, h1, h2⟩ => ⟨a, h1, e.seq h2⟩
  | .exc _, _, ⟨a, C, h1, h2, h3⟩ => ⟨a, C, h1, h2, e _ _ h3⟩
  | .dic _ _, _, ⟨a, vs, h1, ⟨o, h2⟩, h4, h3⟩ => ⟨a, vs, h1, ⟨o, e _ _ h2⟩, h4, Reps.mono e h3⟩
theorem Reps.mono {K : PySem.W.Frag} {H H' : Hp} (e : Same H H') : ∀ {ds : List D} {vs : List V}, Reps K H ds vs → Reps K H' ds vs
  | [], _, h => h
  | _ :: _, _, ⟨v, r, h1, h2, h3⟩ => ⟨v, r, h1, Rep.mono e h2, Reps.mono e h3⟩
end
section
variable {K : PySem.W.Frag} {H : Hp}
theorem Reps.nil : Reps K H [] [] := rfl
theorem Reps.cons {d : D} {ds : List D} {v : V} {vs : List V} (h : Rep K H d v) (t : Reps K H ds vs) : Reps K H (d :: ds) (v :: vs) := ⟨v, vs, rfl, h, t⟩
theorem Reps.len : ∀ {ds : List D} {vs : List V}, Reps K H ds vs → ds.length = vs.length
  | [], _, h => by cases (show _ = _ from h); rfl
  | _ :: _, _, ⟨v, r, h1, _, h3⟩ => by rw [h1, List.length_cons, List.length_cons, Reps.len h3]
theorem Reps.app : ∀ {ds es : List D} {vs us : List V}, Reps K H ds vs → Reps K H es us → Reps K H (ds ++ es) (vs ++ us)
  | [], _, _, _, h, t => by cases (show _ = _ from h); exact t
  | _ :: _, _, _, _, ⟨v, r, h1, h2, h3⟩, t => by rw [h1]; exact ⟨v, _, rfl, h2, Reps.app h3 t⟩
theorem Reps.get : ∀ {ds : List D} {vs : List V} {i : Nat} {d : D}, Reps K H ds vs → ds[i]? = some d → ∃ v, vs[i]? = some v ∧ Rep K H d v
  | [], _, _, _, _, e => by simp at e
  | _ :: _, _, 0, _, ⟨v, r, h1, h2, h3⟩, e => by simp at e; subst e; rw [h1]; exact ⟨v, rfl, h2⟩
  | _ :: _, _, i + 1, d, ⟨v, r, h1, h2, h3⟩, e => by
    obtain ⟨u, e1, e2⟩ := Reps.get (i := i) (d := d) h3 (by simpa using e)
    exact ⟨u, by rw [h1]; simpa using e1, e2⟩
theorem Reps.take : ∀ {ds : List D} {vs : List V} (n : Nat), Reps K H ds vs → Reps K H (ds.take n) (vs.take n)
  | _, _, 0, _ => rfl
  | [], _, _ + 1, h => by cases (show _ = _ from h); rfl
  | _ :: _, _, n + 1, ⟨v, r, h1, h2, h3⟩ => by rw [h1]; exact ⟨v, _, rfl, h2, Reps.take n h3⟩
theorem Reps.drop : ∀ {ds : List D} {vs : List V} (n : Nat), Reps K H ds vs → Reps K H (ds.drop n) (vs.drop n)
  | _, _, 0, h => h
  | [], _, _ + 1, h => by cases (show _ = _ from h); rfl
  | _ :: _, _, n + 1, ⟨v, r, h1, h2, h3⟩ => by rw [h1]; exact Reps.drop n h3
theorem Reps.ints : ∀ (ns : List Int), Reps K H (ns.map D.int) (ns.map V.int)
  | [] => rfl
  | n :: r => ⟨.int n, _, rfl, rfl, Reps.ints r⟩
theorem Reps.of_ints : ∀ {ns : List Int} {vs : List V}, Reps K H (ns.map D.int) vs → vs = ns.map V.int
  | [], _, h => h
  | n :: r, _, ⟨v, vs, h1, h2, h3⟩ => by
    have := Reps.of_ints h3
    have e : v = .int n := h2
    rw [h1, this, e]; rfl
theorem Reps.one {d : D} {vs : List V} (h : Reps K H [d] vs) : ∃ v, vs = [v] ∧ Rep K H d v := by
  obtain ⟨v, r, h1, h2, h3⟩ := h
  cases (show r = [] from h3)
  exact ⟨v, h1, h2⟩
theorem Reps.two {d e : D} {vs : List V} (h : Reps K H [d, e] vs) : ∃ v u, vs = [v, u] ∧ Rep K H d v ∧ Rep K H e u := by
  obtain ⟨v, r, h1, h2, h3⟩ := h
  obtain ⟨u, rfl, h4⟩ := Reps.one h3
  exact ⟨v, u, h1, h2, h4⟩
end
structure Ext (G H G' H' : Hp) : Prop where
  gg : Same G G'
  gh : Same G' H'
  hh : Same H H'
  new : ∀ b, G b = none → H b ≠ none → G' b = none
theorem Ext.refl {G H : Hp} (h : Same G H) : Ext G H G H := ⟨Same.refl _, h, Same.refl _, fun _ e _ => e⟩
theorem Ext.trans {G H G1 H1 G2 H2 : Hp} (a : Ext G H G1 H1) (b : Ext G1 H1 G2 H2) : Ext G H G2 H2 := by
  refine ⟨a.gg.trans b.gg, b.gh, a.hh.trans b.hh, fun c h1 h2 => ?_⟩
  have e1 := a.new c h1 h2
  refine b.new c e1 fun z => h2 ?_
  exact a.hh.free z
theorem same_upd {H : Hp} {p : Addr} (h : H p = none) (o : HO) : Same H (upd H p o) := fun b u q => by rw [upd_ne (ne_of_none q h)]; exact q
theorem same_upd2 {G H : Hp} {p : Addr} (e : Same G H) (o : HO) : Same (upd G p o) (upd H p o) := fun b u q => by
  by_cases z : b = p
  · subst z; rw [upd_same] at q ⊢; exact q
  · rw [upd_ne z] at q ⊢; exact e b u q
theorem same_updR {G H : Hp} {p : Addr} (e : Same G H) (h : G p = none) (o : HO) : Same G (upd H p o) := fun b u q => by rw [upd_ne (ne_of_none q h)]; exact e b u q
theorem Ext.lay {G H : Hp} {p : Addr} (e : Same G H) (h : H p = none) (o : HO) : Ext G H (upd G p o) (upd H p o) := by
  have g : G p = none := e.free h
  refine ⟨same_upd g o, same_upd2 e o, same_upd h o, fun b h1 h2 => ?_⟩
  by_cases z : b = p
  · subst z; exact absurd h h2
  · rw [upd_ne z]; exact h1
theorem Ext.hide {G H : Hp} {p : Addr} (e : Same G H) (h : H p = none) (o : HO) : Ext G H G (upd H p o) :=
  ⟨Same.refl _, same_updR e (e.free h) o, same_upd h o, fun _ z _ => z⟩
inductive W where
  | sh (d : D) | ow (ds : List D) | od (ks : List Int) (ds : List D) | pw (ds : List D)
abbrev WSt := List (Option W)
structure Fr where
  hp : Hp
  pin : Nat → Addr
instance : CoeFun Fr fun _ => Hp := ⟨Fr.hp⟩
instance : Coe Fr Hp := ⟨Fr.hp⟩
def fr (H : Hp) : Fr := ⟨H, fun _ => 0⟩
def PwOk (K : PySem.W.Frag) (F : Fr) (G : Hp) (ω : WSt) (σ : St) (H : Hp) : Prop := ∀ (i : Nat) ds, ω[i]? = some (some (.pw ds)) → ∃ vs, σ[i]? = some (some (.ref (F.pin i))) ∧ H (F.pin i) = some (.lst vs) ∧ G (F.pin i) = none ∧ F.hp (F.pin i) = none ∧ Reps K G ds vs ∧
  (∀ (j : Nat) es, ω[j]? = some (some (.pw es)) → F.pin j = F.pin i → j = i) ∧ ∀ (j : Nat) es, ω[j]? = some (some (.ow es)) → σ[j]? ≠ some (some (.ref (F.pin i)))
theorem PwOk.keep {K : PySem.W.Frag} {F : Fr} {G G' : Hp} {ω : WSt} {σ : St} {H H' : Hp} (o : PwOk K F G ω σ H) (e : Ext G H G' H') : PwOk K F G' ω σ H' := fun i ds h => by
  obtain ⟨vs, h1, h2, h3, h4, h5, h6⟩ := o i ds h
  exact ⟨vs, h1, e.hh _ _ h2, e.new _ h3 (by rw [h2]; exact fun z => by cases z), h4, h5.mono e.gg, h6⟩
theorem PwOk.no {K : PySem.W.Frag} {F : Fr} {G : Hp} {ω : WSt} {σ : St} {H : Hp} (h : ∀ (i : Nat) ds, ω[i]? ≠ some (some (.pw ds))) : PwOk K F G ω σ H := fun i ds e => absurd e (h i ds)
structure Own (K : PySem.W.Frag) (G0 : Hp) (H0 : Fr) (G : Hp) (ω : WSt) (σ : St) (H : Hp) : Prop where
  ext : Ext G0 H0.hp G H
  len : ω.length = σ.length
  sh : ∀ (i : Nat) d, ω[i]? = some (some (.sh d)) → ∃ v, σ[i]? = some (some v) ∧ Rep K G d v
  ow : ∀ (i : Nat) ds, ω[i]? = some (some (.ow ds)) → ∃ l vs, σ[i]? = some (some (.ref l)) ∧ H l = some (.lst vs) ∧ G l = none ∧ H0 l = none ∧ Reps K G ds vs
  nd : ∀ (i j : Nat) ds es l, ω[i]? = some (some (.ow ds)) → ω[j]? = some (some (.ow es)) → σ[i]? = some (some (.ref l)) → σ[j]? = some (some (.ref l)) → i = j
  od : ∀ (i : Nat) ks ds, ω[i]? = some (some (.od ks ds)) → ∃ p vs, σ[i]? = some (some (.ref p)) ∧ H p = some (.dK (kvsOf ks vs)) ∧ G p = none ∧ H0 p = none ∧ ks.length = ds.length ∧ Reps K G ds vs ∧
    ∀ (j : Nat) ks' es, ω[j]? = some (some (.od ks' es)) → σ[j]? = some (some (.ref p)) → i = j
  pw : PwOk K H0 G ω σ H
inductive R where
  | sh (d : D) | fr (ds : List D) | vw (ds : List D)
def R.d : R → D
  | .sh d => d
  | .fr ds => .lst ds
  | .vw ds => .lst ds
def RepR (K : PySem.W.Frag) (H G' H' : Hp) : R → V → Prop
  | .sh d, v => Rep K G' d v
  | .fr ds, v => ∃ l vs, v = .ref l ∧ H l = none ∧ G' l = none ∧ H' l = some (.lst vs) ∧ Reps K G' ds vs
  | .vw ds, v => ∃ l vs, v = .ref l ∧ H' l = some (.lst vs) ∧ Reps K G' ds vs
def Vw (K : PySem.W.Frag) (G H : Hp) (d : D) (v : V) : Prop := Rep K G d v ∨ ∃ ds l vs, d = .lst ds ∧ v = .ref l ∧ H l = some (.lst vs) ∧ Reps K G ds vs
theorem Own.keep {K : PySem.W.Frag} {G0 : Hp} {H0 : Fr} {G G' : Hp} {ω : WSt} {σ : St} {H H' : Hp} (o : Own K G0 H0 G ω σ H) (e : Ext G H G' H') : Own K G0 H0 G' ω σ H' := by
  refine ⟨o.ext.trans e, o.len, fun i d h => ?_, fun i ds h => ?_, o.nd, fun i ks ds h => ?_, o.pw.keep e⟩
  · obtain ⟨v, h1, h2⟩ := o.sh i d h
    exact ⟨v, h1, h2.mono e.gg⟩
  · obtain ⟨l, vs, h1, h2, h3, h4, h5⟩ := o.ow i ds h
    exact ⟨l, vs, h1, e.hh _ _ h2, e.new l h3 (by rw [h2]; exact fun z => by cases z), h4, h5.mono e.gg⟩
  · obtain ⟨l, vs, h1, h2, h3, h4, h6, h5, h7⟩ := o.od i ks ds h
    exact ⟨l, vs, h1, e.hh _ _ h2, e.new l h3 (by rw [h2]; exact fun z => by cases z), h4, h6, h5.mono e.gg, h7⟩
theorem Own.gh {K : PySem.W.Frag} {G0 : Hp} {H0 : Fr} {G : Hp} {ω : WSt} {σ : St} {H : Hp} (o : Own K G0 H0 G ω σ H) : Same G H := o.ext.gh
abbrev FE := WSt → Option R
abbrev FD := WSt → Option D
abbrev FT := WSt → Option Bool
abbrev FA := WSt → Option (List D)
def SimE (K : PySem.W.Frag) (t : TE) (f : FE) : Prop := ∀ G0 H0 G ω σ H r (Q : VK), Own K G0 H0 G ω σ H → f ω = some r →
  (∀ v G' H', Ext G H G' H' → RepR K H G' H' r v → Q v H') → t σ H Q
def SimD (K : PySem.W.Frag) (t : TE) (f : FD) : Prop := ∀ G0 H0 G ω σ H d (Q : VK), Own K G0 H0 G ω σ H → f ω = some d →
  (∀ v G' H', Ext G H G' H' → Rep K G' d v → Q v H') → t σ H Q
def SimV (K : PySem.W.Frag) (t : TE) (f : FD) : Prop := ∀ G0 H0 G ω σ H d (Q : VK), Own K G0 H0 G ω σ H → f ω = some d →
  (∀ v G' H', Ext G H G' H' → Vw K G' H' d v → Q v H') → t σ H Q
def SimT (K : PySem.W.Frag) (t : TT) (f : FT) : Prop := ∀ G0 H0 G ω σ H b (Q : Bool → Hp → Prop), Own K G0 H0 G ω σ H → f ω = some b →
  (∀ G' H', Ext G H G' H' → Q b H') → t σ H Q
def SimA (K : PySem.W.Frag) (t : TA) (f : FA) : Prop := ∀ G0 H0 G ω σ H ds (Q : List V → Hp → Prop), Own K G0 H0 G ω σ H → f ω = some ds →
  (∀ vs G' H', Ext G H G' H' → Reps K G' ds vs → Q vs H') → t σ H Q
def XE (X : Cx) (e : Expr) (f : FE) : Prop := ∃ t, PE X e t ∧ SimE X.K t f
def XD (X : Cx) (e : Expr) (f : FD) : Prop := ∃ t, PE X e t ∧ SimD X.K t f
def XV (X : Cx) (e : Expr) (f : FD) : Prop := ∃ t, PE X e t ∧ SimV X.K t f
def XT (X : Cx) (e : Expr) (f : FT) : Prop := ∃ t, PT X e t ∧ SimT X.K t f
def XW (X : Cx) (e : Expr) (f : FT) : Prop := ∃ t, PW X e t ∧ SimT X.K t f
def XA (X : Cx) (es : List Expr) (f : FA) : Prop := (∃ t, PA X es t ∧ SimA X.K t f) ∧ ∀ ω ds, f ω = some ds → ds.length = es.length
def eOf (f : FD) : FE := fun ω => (f ω).map R.sh
def dOf (f : FE) : FD := fun ω => match f ω with
  | some (.sh d) => some d
  | some (.fr ds) => some (.lst ds)
  | _ => none
def vOf (f : FE) : FD := fun ω => (f ω).map R.d
section
variable {X : Cx} {e : Expr}
theorem XD.toE {f : FD} (h : XD X e f) : XE X e (eOf f) := by
  obtain ⟨t, h1, h2⟩ := h
  refine ⟨t, h1, fun G0 H0 G ω σ H r Q o e k => ?_⟩
  unfold eOf at e
  cases q : f ω with
  | none => rw [q] at e; cases e
  | some d => rw [q] at e; cases e; exact h2 G0 H0 G ω σ H d Q o q k
theorem XE.toD {f : FE} (h : XE X e f) : XD X e (dOf f) := by
  obtain ⟨t, h1, h2⟩ := h
  refine ⟨t, h1, fun G0 H0 G ω σ H d Q o e k => ?_⟩
  unfold dOf at e
  cases q : f ω with
  | none => rw [q] at e; cases e
  | some r =>
    rw [q] at e
    cases r with
    | sh d' => cases e; exact h2 G0 H0 G ω σ H _ Q o q k
    | fr ds =>
      cases e
      refine h2 G0 H0 G ω σ H _ Q o q fun v G' H' x ⟨l, vs, e1, e2, e3, e4, e5⟩ => ?_
      have s1 : Same G' (upd G' l (.lst vs)) := same_upd e3 _
      refine k v (upd G' l (.lst vs)) H' ⟨x.gg.trans s1, fun b u z => ?_, x.hh, fun b z1 z2 => ?_⟩ ⟨l, vs, e1, upd_same, e5.mono s1⟩
      · by_cases hb : b = l
        · subst hb; rw [upd_same] at z; rw [e4]; exact z
        · rw [upd_ne hb] at z; exact x.gh b u z
      · rw [upd_ne (fun hb => z2 (by rw [hb]; exact e2))]; exact x.new b z1 z2
    | vw ds => cases e
theorem XE.toV {f : FE} (h : XE X e f) : XV X e (vOf f) := by
  obtain ⟨t, h1, h2⟩ := h
  refine ⟨t, h1, fun G0 H0 G ω σ H d Q o e k => ?_⟩
  unfold vOf at e
  cases q : f ω with
  | none => rw [q] at e; cases e
  | some r =>
    rw [q] at e
    have e' : r.d = d := Option.some.inj e
    subst e'
    refine h2 G0 H0 G ω σ H r Q o q fun v G' H' x y => k v G' H' x ?_
    cases r with
    | sh d' => exact .inl y
    | fr ds => obtain ⟨l, vs, e1, e2, e3, e4, e5⟩ := y; exact .inr ⟨ds, l, vs, rfl, e1, e4, e5⟩
    | vw ds => obtain ⟨l, vs, e1, e2, e3⟩ := y; exact .inr ⟨ds, l, vs, rfl, e1, e2, e3⟩
theorem XD.toV {f : FD} (h : XD X e f) : XV X e f := by
  obtain ⟨t, h1, h2⟩ := h
  exact ⟨t, h1, fun G0 H0 G ω σ H d Q o e k => h2 G0 H0 G ω σ H d Q o e fun v G' H' x y => k v G' H' x (.inl y)⟩
end
def fVar (i : Nat) : FE := fun ω => match ω[i]? with
  | some (some (.sh d)) => some (.sh d)
  | some (some (.ow ds)) => some (.vw ds)
  | some (some (.pw ds)) => some (.vw ds)
  | _ => none
def fC (d : D) : FD := fun _ => some d
section
variable {X : Cx}
theorem xe_var {e : Expr} (i : Nat) (h : PE X e (tVar i)) : XE X e (fVar i) := by
  refine ⟨_, h, fun G0 H0 G ω σ H r Q o e k => ?_⟩
  unfold fVar at e
  cases q : ω[i]? with
  | none => rw [q] at e; cases e
  | some w =>
    rw [q] at e
    cases w with
    | none => cases e
    | some w =>
      cases w with
      | sh d =>
        cases e
        obtain ⟨v, h1, h2⟩ := o.sh i d q
        exact ⟨v, h1, k v G H (Ext.refl o.gh) h2⟩
      | ow ds =>
        cases e
        obtain ⟨l, vs, h1, h2, h3, h4, h5⟩ := o.ow i ds q
        exact ⟨_, h1, k _ G H (Ext.refl o.gh) ⟨l, vs, rfl, h2, h5⟩⟩
      | od ks ds => cases e
      | pw ds =>
        cases e
        obtain ⟨vs, h1, h2, h3, h4, h5, _⟩ := o.pw i ds q
        exact ⟨_, h1, k _ G H (Ext.refl o.gh) ⟨_, vs, rfl, h2, h5⟩⟩
theorem xd_c {e : Expr} {v : V} {d : D} (h : PE X e (tC v)) (hr : ∀ K H, Rep K H d v) : XD X e (fC d) := by
  refine ⟨_, h, fun G0 H0 G ω σ H r Q o e k => ?_⟩
  cases e
  exact k v G H (Ext.refl o.gh) (hr _ _)
theorem xd_int {i j pos} : XD X (.Constant (.int i) j pos) (fC (.int i)) := xd_c pe_int fun _ _ => rfl
theorem xd_bl {b j pos} : XD X (.Constant (.bool b) j pos) (fC (.bl b)) := xd_c pe_bl fun _ _ => rfl
end
theorem bnd {α β : Type} {o : Option α} {f : α → Option β} {r : β} (h : o.bind f = some r) : ∃ a, o = some a ∧ f a = some r := Option.bind_eq_some_iff.mp h
theorem mpd {α β : Type} {o : Option α} {f : α → β} {r : β} (h : o.map f = some r) : ∃ a, o = some a ∧ f a = r := Option.map_eq_some_iff.mp h
def aNil : FA := fun _ => some []
def aCons (f : FD) (g : FA) : FA := fun ω => (f ω).bind fun d => (g ω).map fun ds => d :: ds
section
variable {X : Cx} {e : Expr} {es : List Expr}
theorem xa_nil : XA X [] aNil := ⟨⟨_, pa_nil, fun G0 H0 G ω σ H ds Q o e k => by cases e; exact k [] G H (Ext.refl o.gh) rfl⟩, fun ω ds e => by cases e; rfl⟩
theorem xa_cons {f : FD} {g : FA} (h : XD X e f) (hr : XA X es g) (hs : starEach (e :: es) X.env = (false, eval e X.env) :: starEach es X.env := by rfl) : XA X (e :: es) (aCons f g) := by
  obtain ⟨t, h1, h2⟩ := h
  obtain ⟨⟨u, h3, h4⟩, h5⟩ := hr
  refine ⟨⟨_, pa_cons h1 h3 hs, fun G0 H0 G ω σ H ds Q o e k => ?_⟩, fun ω ds e => ?_⟩
  · obtain ⟨d, q, e⟩ := bnd e
    obtain ⟨r, q2, e⟩ := mpd e
    subst e
    refine h2 G0 H0 G ω σ H d _ o q fun v G1 H1 x1 y1 => ?_
    refine h4 G0 H0 G1 ω σ H1 r _ (o.keep x1) q2 fun vs G2 H2 x2 y2 => ?_
    exact k _ G2 H2 (x1.trans x2) (Reps.cons (y1.mono x2.gg) y2)
  · obtain ⟨d, q, e⟩ := bnd e
    obtain ⟨r, q2, e⟩ := mpd e
    subst e
    rw [List.length_cons, List.length_cons, h5 ω r q2]
def fTup (g : FA) : FD := fun ω => (g ω).map D.tup
def fLst (g : FA) : FE := fun ω => (g ω).map R.fr
theorem le_line {n : Nat} (h : n ≤ 1000) : n ≤ sizeLine := Nat.le_of_lt (small1000 h)
theorem xd_tup {x1 pos} {g : FA} (h : XA X es g) (hl : es.length ≤ 1000 := by decide) : XD X (.Tuple es x1 pos) (fTup g) := by
  obtain ⟨⟨t, h1, h2⟩, h5⟩ := h
  refine ⟨_, pe_tup h1, fun G0 H0 G ω σ H d Q o e k => ?_⟩
  obtain ⟨ds, q, e⟩ := mpd e
  subst e
  refine h2 G0 H0 G ω σ H ds _ o q fun vs G1 H1 x1 y1 => ⟨le_line (by rw [← y1.len, h5 ω ds q]; exact hl), fun p hp => ?_⟩
  have x2 := Ext.lay x1.gh hp (.tup vs)
  exact k _ _ _ (x1.trans x2) ⟨p, vs, rfl, upd_same, y1.mono x2.gg⟩
theorem xe_lst {pos} {g : FA} (h : XA X es g) (hl : es.length ≤ 1000 := by decide) : XE X (.List es pos) (fLst g) := by
  obtain ⟨⟨t, h1, h2⟩, h5⟩ := h
  refine ⟨_, pe_lst h1, fun G0 H0 G ω σ H d Q o e k => ?_⟩
  obtain ⟨ds, q, e⟩ := mpd e
  subst e
  refine h2 G0 H0 G ω σ H ds _ o q fun vs G1 H1 x1 y1 => ⟨le_line (by rw [← y1.len, h5 ω ds q]; exact hl), fun p hp => ?_⟩
  have x2 := Ext.hide x1.gh hp (.lst vs)
  exact k _ _ _ (x1.trans x2) ⟨p, vs, rfl, x1.hh.free hp, x1.gh.free hp, upd_same, y1⟩
inductive O where
  | sh (d : D) | fr (ds : List D)
def O.r : O → R
  | .sh d => .sh d
  | .fr ds => .fr ds
def spD (K : PySem.W.Frag) (n : Nat) (m : List D → Option O) : Sp := fun vs H Q _ => ∃ G ds r, m ds = some r ∧ ds.length = n ∧ Same G H ∧ Reps K G ds vs ∧ ∀ v G' H', Ext G H G' H' → RepR K H G' H' r.r v → Q v H'
def fCall (m : List D → Option O) (g : FA) : FE := fun ω => (g ω).bind fun ds => (m ds).map O.r
theorem xe_call {CX : CXT} {k : Nat} {f : Addr} {fd : FuncData} {ps : List Str} {m : List D → Option O} {E : XK} {x : Str} {p pos : Pos} {g : FA}
    (F : FnOk X.prog X.w X.K X.mg X.base CX k f fd ps (spD X.K (e :: es).length m)) (hr : Room k X.A) (hg : Gl X x) (hm : X.mg x = some (.ref f)) (hk : PySem.W.keepIn X.K (.ref f) = true) (hb : Binds X.K fd ps []) (hx : Passes CX X E)
    (ha : XA X (e :: es) g) (hdb : (x == ("__debug__" : Str)) = false := by decide) (he : starEach (e :: es) X.env = (false, eval e X.env) :: starEach es X.env := by rfl) (hpl : (backTo pos (starEach es X.env)).any (·.1) = false := by rfl) :
    XE X (.Call (.Name x p) (e :: es) [] pos) (fCall m g) := by
  obtain ⟨⟨t, h1, h2⟩, h5⟩ := ha
  refine ⟨_, pe_call F hr hg hm hk hb .nil hx h1 hdb he hpl, fun G0 H0 G ω σ H r Q o e k => ?_⟩
  obtain ⟨ds, q, e⟩ := bnd e
  obtain ⟨r', q2, e⟩ := mpd e
  subst e
  refine h2 G0 H0 G ω σ H ds _ o q fun vs G1 H1 x1 y1 => ?_
  refine ⟨G1, ds, r', q2, h5 ω ds q, x1.gh, by rw [List.append_nil]; exact y1, fun v G2 H2 x2 y2 => k v G2 H2 (x1.trans x2) ?_⟩
  cases r' with
  | sh d => exact y2
  | fr ds => obtain ⟨l, vs, e1, e2, e3⟩ := y2; exact ⟨l, vs, e1, x1.hh.free e2, e3⟩
end
end Hk
set_option maxRecDepth 100000
namespace Hk
open PySem L2
open PySem.Spec PyProof.Rows PySem.SeqAt PySem.MeetsSeq PySem.MeetsSeq2 PySem.MeetsSeq3 in
theorem getItem_whole {prog : Program} {w : World} {A : Around} {E : Value → Shared → Prop} {s : Shared} {t sl : Addr} {items : Array Value} {vl vu : Value} {lo hi : Option Int} {Q : Value → Shared → Prop} (ht : IsTup s.heap t items) (hs : s.heap.IsSliceOf sl vl vu .none) (pl : IsPart vl lo) (pu : IsPart vu hi)
    (hw : HT.sIx items.size 0 lo = 0 ∧ HT.sIx items.size items.size hi = items.size) (h : Q (.ref t) s) : wpAny (model prog w) A (getItem (.ref t) (.ref sl)) Q E s := by
  obtain ⟨os, hos, hcs, hds⟩ := id hs
  have hTs : s.TypeIs (.ref sl) "slice" := ⟨os, hos, hcs⟩
  unfold getItem
  try with_reducible refine wpAny_holding ?_
  first | refine wpAny_bind (wpAny_pure ?_) | skip
  refine wpAny_bind (wpAny_sequenceKey ht.typeIs (by decide) ?_)
  refine wpAny_bind (wpAny_callSpecial?_slot (name := Str.ofString "__getitem__") ht.typeIs PyProof.Rows.slot_tuple_getitem
    (wpAny_call_entry PyProof.Rows.slot_tuple_getitem ht.typeIs entry_tuple_getitem ?_ (args_tuple_getitem _ _)))
  show wpAny _ _ (Builtin.Tuple.tupleItemsOf (.ref t) >>= _) _ _ s
  refine wpAny_bind (tupleItemsOf_ ht ?_)
  refine wpAny_bind (wpAny_typeOf hTs ?_)
  rw [if_pos (by decide)]
  refine wpAny_bind (HT.sliceApplied_gen hs pl pu ?_)
  have hy : (((HT.sIx items.size 0 lo : Nat) : Int) == 0 && (1 : Int) == 1 && (HT.sIx items.size items.size hi - HT.sIx items.size 0 lo) == items.size) = true := by
    rw [hw.1, hw.2]; simp
  show wpAny _ _ (if (((HT.sIx items.size 0 lo : Nat) : Int) == 0 && (1 : Int) == 1 && (HT.sIx items.size items.size hi - HT.sIx items.size 0 lo) == items.size) = true then _ else _) _ _ s
  rw [if_pos hy]
  have hb : ∀ {R : Bool → Shared → Prop}, R true s → wpAny (model prog w) A.in1 (Builtin.Tuple.tupleIsExact (.ref t)) R E s := fun r => by
    unfold Builtin.Tuple.tupleIsExact
    refine wpAny_bind (wpAny_typeOf ht.typeIs ?_)
    exact wpAny_pure r
  refine wpAny_bind (hb ?_)
  rw [if_pos rfl]
  refine wpAny_bind (wpAny_rule ?_)
  exact wpAny_pure ⟨_, rfl, wpAny_pure h⟩
section
variable {X : Cx}
def rSlW (K : PySem.W.Frag) : V → Option Int → Option Int → Hp → VK → Prop := fun x lo hi H Q => ∃ a xs, x = .ref a ∧ SqT K H a xs ∧
  (HT.sIx xs.length 0 lo = 0 ∧ HT.sIx xs.length xs.length hi = xs.length) ∧ Q (.ref a) H
theorem sl_whole : SlR X (rSlW X.K) := by
  intro pins s σ H x v vl vu lo hi sl Q I rx hs pl pu h
  obtain ⟨a, xs, rfl, hx, hw, q⟩ := h
  cases rx
  obtain ⟨its, r, ht, hz⟩ := I.tuple hx
  have hlen : its.toArray.size = xs.length := by rw [List.size_toArray]; exact r.length.symm
  refine ⟨"tuple", _, PyProof.Rows.slot_tuple_getitem.lookup, ht.typeIs, ?_⟩
  exact getItem_whole ht hs pl pu (by rw [hlen]; exact hw) ⟨.ref a, H, I, rfl, q⟩
end
theorem Vw.rep {K : PySem.W.Frag} {G H : Hp} {d : D} {v : V} (h : Vw K G H d v) (e : Same G H) : Rep K H d v := by
  rcases h with h | ⟨ds, l, vs, rfl, rfl, h1, h2⟩
  · exact h.mono e
  · exact ⟨l, vs, rfl, h1, h2.mono e⟩
theorem Vw.keep {K : PySem.W.Frag} {G H G' H' : Hp} {d : D} {v : V} (h : Vw K G H d v) (e : Ext G H G' H') : Vw K G' H' d v := by
  rcases h with h | ⟨ds, l, vs, h0, h1, h2, h3⟩
  · exact .inl (h.mono e.gg)
  · exact .inr ⟨ds, l, vs, h0, h1, e.hh _ _ h2, h3.mono e.gg⟩
theorem Vw.lst {K : PySem.W.Frag} {G H : Hp} {ds : List D} {v : V} (h : Vw K G H (.lst ds) v) (e : Same G H) : ∃ a vs, v = .ref a ∧ H a = some (.lst vs) ∧ Reps K G ds vs := by
  rcases h with ⟨a, vs, h1, h2, h3⟩ | ⟨ds', l, vs, h0, h1, h2, h3⟩
  · exact ⟨a, vs, h1, e _ _ h2, h3⟩
  · cases h0; exact ⟨l, vs, h1, h2, h3⟩
theorem Vw.of_ne {K : PySem.W.Frag} {G H : Hp} {d : D} {v : V} (h : Vw K G H d v) (n : ∀ ds, d ≠ .lst ds) : Rep K G d v := by
  rcases h with h | ⟨ds', l, vs, h0, h1, h2, h3⟩
  · exact h
  · exact absurd h0 (n _)
def VwA (K : PySem.W.Frag) (G H : Hp) : List D → List V → Prop
  | [], vs => vs = []
  | d :: ds, vs => ∃ v r, vs = v :: r ∧ Vw K G H d v ∧ VwA K G H ds r
theorem VwA.keep {K : PySem.W.Frag} {G H G' H' : Hp} (e : Ext G H G' H') : ∀ {ds : List D} {vs : List V}, VwA K G H ds vs → VwA K G' H' ds vs
  | [], _, h => h
  | _ :: _, _, ⟨v, r, h1, h2, h3⟩ => ⟨v, r, h1, h2.keep e, VwA.keep e h3⟩
def SimVA (K : PySem.W.Frag) (t : TA) (f : FA) : Prop := ∀ G0 H0 G ω σ H ds (Q : List V → Hp → Prop), Own K G0 H0 G ω σ H → f ω = some ds →
  (∀ vs G' H', Ext G H G' H' → VwA K G' H' ds vs → Q vs H') → t σ H Q
def XVA (X : Cx) (es : List Expr) (f : FA) : Prop := ∃ t, PA X es t ∧ SimVA X.K t f
section
variable {X : Cx} {e : Expr} {es : List Expr}
theorem xva_nil : XVA X [] aNil := ⟨_, pa_nil, fun G0 H0 G ω σ H ds Q o e k => by cases e; exact k [] G H (Ext.refl o.gh) rfl⟩
theorem xva_cons {f : FD} {g : FA} (h : XV X e f) (hr : XVA X es g) (hs : starEach (e :: es) X.env = (false, eval e X.env) :: starEach es X.env := by rfl) : XVA X (e :: es) (aCons f g) := by
  obtain ⟨t, h1, h2⟩ := h
  obtain ⟨u, h3, h4⟩ := hr
  refine ⟨_, pa_cons h1 h3 hs, fun G0 H0 G ω σ H ds Q o e k => ?_⟩
  obtain ⟨d, q, e⟩ := bnd e
  obtain ⟨r, q2, e⟩ := mpd e
  subst e
  refine h2 G0 H0 G ω σ H d _ o q fun v G1 H1 x1 y1 => ?_
  refine h4 G0 H0 G1 ω σ H1 r _ (o.keep x1) q2 fun vs G2 H2 x2 y2 => ?_
  exact k _ G2 H2 (x1.trans x2) ⟨v, vs, rfl, y1.keep x2, y2⟩
def fOpE (op : D → D → Option R) (f g : FD) : FE := fun ω => (f ω).bind fun x => (g ω).bind fun y => op x y
def OpV (K : PySem.W.Frag) (r : R2) (op : D → D → Option R) : Prop := ∀ G H x y d v u (Q : VK), Same G H → op x y = some d → Vw K G H x v → Vw K G H y u →
  (∀ w G' H', Ext G H G' H' → RepR K H G' H' d w → Q w H') → r v u H Q
theorem simV_op {r : R2} {o : D → D → Option R} {f g : FD} {t u : TE} (hd : OpV X.K r o) (h2 : SimV X.K t f) (h4 : SimV X.K u g) : SimE X.K (tOp r t u) (fOpE o f g) := by
  intro G0 H0 G ω σ H d Q ow e k
  obtain ⟨x, q, e⟩ := bnd e
  obtain ⟨y, q2, e⟩ := bnd e
  refine h2 G0 H0 G ω σ H x _ ow q fun v G1 H1 x1 y1 => ?_
  refine h4 G0 H0 G1 ω σ H1 y _ (ow.keep x1) q2 fun v2 G2 H2 x2 y2 => ?_
  refine hd G2 H2 x y d v v2 Q x2.gh e (y1.keep x2) y2 fun w G3 H3 x3 z => k w G3 H3 ((x1.trans x2).trans x3) ?_
  cases d with
  | sh d => exact z
  | fr ds => obtain ⟨l, vs, e1, e2, e3⟩ := z; exact ⟨l, vs, e1, (x1.trans x2).hh.free e2, e3⟩
  | vw ds => exact z
variable {a b : Expr} {pos : Pos} {f g : FD}
theorem xe_bin {op : Operator} {r : R2} {o : D → D → Option R} (ho : OpR X (binaryOp op) r) (hd : OpV X.K r o) (ha : XV X a f) (hb : XV X b g) : XE X (.BinOp a op b pos) (fOpE o f g) := by
  obtain ⟨t, h1, h2⟩ := ha
  obtain ⟨u, h3, h4⟩ := hb
  exact ⟨_, pe_op ho h1 h3, simV_op hd h2 h4⟩
theorem xe_cmp {op : CmpOp} {r : R2} {o : D → D → Option R} (ho : OpR X (compareOp op) r) (hd : OpV X.K r o) (ha : XV X a f) (hb : XV X b g) (hm : behindInMarks op b = false) : XE X (.Compare a [op] [b] pos) (fOpE o f g) := by
  obtain ⟨t, h1, h2⟩ := ha
  obtain ⟨u, h3, h4⟩ := hb
  exact ⟨_, pe_cmpR ho h1 h3 hm, simV_op hd h2 h4⟩
theorem xe_ix {r : R2} {o : D → D → Option R} (ho : IxR X r) (hd : OpV X.K r o) (ha : XV X a f) (hb : XV X b g) (hs : PlainIx b) : XE X (.Subscript a b pos) (fOpE o f g) := by
  obtain ⟨t, h1, h2⟩ := ha
  obtain ⟨u, h3, h4⟩ := hb
  exact ⟨_, pe_ix ho h1 h3 hs, simV_op hd h2 h4⟩
def tOf (f : FE) : FT := fun ω => match f ω with
  | some (.sh (.bl k)) => some k
  | _ => none
theorem simT_test {t : TE} {f : FE} (h : SimE X.K t f) : SimT X.K (tTest t) (tOf f) := by
  intro G0 H0 G ω σ H b Q o e k
  unfold tOf at e
  cases q : f ω with
  | none => rw [q] at e; cases e
  | some r =>
    rw [q] at e
    cases r with
    | sh d =>
      cases d with
      | bl c =>
        cases e
        refine h G0 H0 G ω σ H _ _ o q fun v G' H' x y => ?_
        cases (show v = V.bl b from y)
        exact ⟨b, rfl, k G' H' x⟩
      | _ => cases e
    | _ => cases e
theorem xt_cmp {op : CmpOp} {r : R2} {o : D → D → Option R} (ho : OpR X (compareOp op) r) (hd : OpV X.K r o) (ha : XV X a f) (hb : XV X b g) (hm : behindInMarks op b = false) : XT X (.Compare a [op] [b] pos) (tOf (fOpE o f g)) := by
  obtain ⟨t, h1, h2⟩ := ha
  obtain ⟨u, h3, h4⟩ := hb
  exact ⟨_, pt_cmpR ho h1 h3 hm, simT_test (simV_op hd h2 h4)⟩
def oInt (c : Int → Int → Bool) (g : Int → Int → D) : D → D → Option R
  | .int i, .int j => if c i j = true then some (.sh (g i j)) else none
  | _, _ => none
theorem Vw.int {K : PySem.W.Frag} {G H : Hp} {i : Int} {v : V} (h : Vw K G H (.int i) v) : v = .int i := h.of_ne (fun _ z => by cases z)
theorem Vw.bl {K : PySem.W.Frag} {G H : Hp} {i : Bool} {v : V} (h : Vw K G H (.bl i) v) : v = .bl i := h.of_ne (fun _ z => by cases z)
theorem Vw.str {K : PySem.W.Frag} {G H : Hp} {i : Str} {v : V} (h : Vw K G H (.str i) v) : v = .str i := h.of_ne (fun _ z => by cases z)
theorem Vw.non {K : PySem.W.Frag} {G H : Hp} {v : V} (h : Vw K G H .non v) : v = .non := h.of_ne (fun _ z => by cases z)
theorem Vw.tup {K : PySem.W.Frag} {G H : Hp} {ds : List D} {v : V} (h : Vw K G H (.tup ds) v) : ∃ a vs, v = .ref a ∧ G a = some (.tup vs) ∧ Reps K G ds vs := h.of_ne (fun _ z => by cases z)
theorem Vw.scr {K : PySem.W.Frag} {G H : Hp} {ns : List Int} {v : V} (h : Vw K G H (.scr ns) v) : ∃ a, v = .ref a ∧ SqL K G a (ns.map V.int) := h.of_ne (fun _ z => by cases z)
theorem opv_int {K : PySem.W.Frag} {C : Int → Int → Prop} {c : Int → Int → Bool} {gV : Int → Int → V} {g : Int → Int → D} (hc : ∀ i j, c i j = true → C i j) (hg : ∀ H i j, Rep K H (g i j) (gV i j)) : OpV K (rI C gV) (oInt c g) := by
  intro G H x y d v u Q s e hx hy k
  cases x with
  | int i =>
    cases y with
    | int j =>
      cases hx.int
      cases hy.int
      unfold oInt at e
      dsimp only at e
      by_cases z : c i j = true
      · rw [if_pos z] at e
        cases e
        exact ⟨i, j, rfl, rfl, hc i j z, k _ G H (Ext.refl s) (hg _ i j)⟩
      · rw [if_neg z] at e; cases e
    | _ => cases e
  | _ => cases e
theorem opv_int0 {K : PySem.W.Frag} {gV : Int → Int → V} {g : Int → Int → D} (hg : ∀ H i j, Rep K H (g i j) (gV i j)) : OpV K (rI0 gV) (oInt (fun _ _ => true) g) := by
  intro G H x y d v u Q s e hx hy k
  cases x with
  | int i =>
    cases y with
    | int j =>
      cases hx.int
      cases hy.int
      cases e
      exact ⟨i, j, rfl, rfl, k _ G H (Ext.refl s) (hg _ i j)⟩
    | _ => cases e
  | _ => cases e
def cMul (i j : Int) : Bool := (decide (-(2 ^ 64) < i) && decide (i < 2 ^ 64)) || (decide (-(2 ^ 64) < j) && decide (j < 2 ^ 64))
def cDiv (_ j : Int) : Bool := decide (0 < j) && decide (j < 1073741824)
def cMod (_ j : Int) : Bool := decide (0 < j)
def cPow (i j : Int) : Bool := decide (0 ≤ j) && decide (j ≤ 1000000) && decide (i.natAbs < 2 ^ 64)
abbrev oSub : D → D → Option R := oInt (fun _ _ => true) fun i j => .int (i - j)
abbrev oMul : D → D → Option R := oInt cMul fun i j => .int (i * j)
abbrev oDiv : D → D → Option R := oInt cDiv fun i j => .int (i / j)
abbrev oMod : D → D → Option R := oInt cMod fun i j => .int (i % j)
abbrev oPow : D → D → Option R := oInt cPow fun i j => .int (i ^ j.toNat)
abbrev oLt : D → D → Option R := oInt (fun _ _ => true) fun i j => .bl (decide (i < j))
abbrev oLe : D → D → Option R := oInt (fun _ _ => true) fun i j => .bl (decide (i ≤ j))
abbrev oGt : D → D → Option R := oInt (fun _ _ => true) fun i j => .bl (decide (j < i))
abbrev oGe : D → D → Option R := oInt (fun _ _ => true) fun i j => .bl (decide (j ≤ i))
def oAdd : D → D → Option R
  | .int i, .int j => some (.sh (.int (i + j)))
  | .lst xs, .lst ys => if xs.length + ys.length ≤ 1000000 then some (.fr (xs ++ ys)) else none
  | .tup [], .tup ys => some (.sh (.tup ys))
  | .tup (x :: xs), .tup ys => if (x :: xs).length + ys.length ≤ 1000000 then some (.sh (.tup ((x :: xs) ++ ys))) else none
  | _, _ => none
theorem le_line6 {n : Nat} (h : n ≤ 1000000) : n ≤ sizeLine := by rw [sizeLine_eq]; omega
def rCat0 (K : PySem.W.Frag) : R2 := fun x y H Q => ∃ a b ys, x = .ref a ∧ y = .ref b ∧ SqT K H a [] ∧ SqT K H b ys ∧ Q (.ref b) H
theorem op_cat0 : OpR X (binaryOp .Add) (rCat0 X.K) := by
  intro pins s σ H x y v u Q I rx ry h
  obtain ⟨a, b, ys, rfl, rfl, ha, hb, q⟩ := h
  cases rx
  cases ry
  obtain ⟨its, r1, p1, _⟩ := I.tuple ha
  obtain ⟨its2, r2, p2, _⟩ := I.tuple hb
  have e0 : its = [] := r1.nil_iff.mpr rfl
  subst e0
  obtain ⟨⟨cls, dd, data, sl⟩, ho, hc, n, hd⟩ := id p1
  obtain ⟨⟨cls2, dd2, data2, sl2⟩, ho2, hc2, n2, hd2⟩ := id p2
  simp only at hc hd hc2 hd2
  subst hc hd hc2 hd2
  exact PySem.concat_meets ⟨_, ho, rfl⟩ ⟨_, ho2, rfl⟩ PySem.noFill_tuple_add PySem.seq_tuple_add PySem.F.slot_tuple_add PySem.F.entry_tuple_add (PySem.F.args_tuple_add_2 _ _)
    (PyProof.Rows.tuple_addW0 a b _ its2.toArray n n2 dd dd2 sl sl2 (by simp)) ⟨ho, ho2, ⟨.ref b, H, I, rfl, q⟩⟩
def rAddAll (K : PySem.W.Frag) : R2 := fun x y H Q => rI0 (fun i j => .int (i + j)) x y H Q ∨ rCat x y H Q ∨ rCatT K x y H Q ∨ rCat0 K x y H Q
theorem op_addAll : OpR X (binaryOp .Add) (rAddAll X.K) := op_add.or (op_cat.or (op_catT.or op_cat0))
theorem opv_add {K : PySem.W.Frag} : OpV K (rAddAll K) oAdd := by
  intro G H x y d v u Q s e hx hy k
  cases x with
  | int i =>
    cases y with
    | int j =>
      cases hx.int
      cases hy.int
      cases e
      exact .inl ⟨i, j, rfl, rfl, k _ G H (Ext.refl s) rfl⟩
    | _ => cases e
  | lst xs =>
    cases y with
    | lst ys =>
      unfold oAdd at e
      dsimp only at e
      by_cases z : xs.length + ys.length ≤ 1000000
      · rw [if_pos z] at e
        cases e
        obtain ⟨a, vs, rfl, h1, h2⟩ := hx.lst s
        obtain ⟨b, us, rfl, h3, h4⟩ := hy.lst s
        refine .inr (.inl ⟨a, b, vs, us, rfl, rfl, h1, h3, le_line6 (by rw [← h2.len, ← h4.len]; exact z), fun p hp => ?_⟩)
        exact k _ G _ (Ext.hide s hp _) ⟨p, _, rfl, hp, s.free hp, upd_same, h2.app h4⟩
      · rw [if_neg z] at e; cases e
    | _ => cases e
  | tup xs =>
    cases y with
    | tup ys =>
      obtain ⟨a, vs, rfl, h1, h2⟩ := hx.tup
      obtain ⟨b, us, rfl, h3, h4⟩ := hy.tup
      cases xs with
      | nil =>
        cases e
        have ev : vs = [] := List.eq_nil_of_length_eq_zero h2.len.symm
        subst ev
        exact .inr (.inr (.inr ⟨a, b, us, rfl, rfl, SqT.of (s _ _ h1), SqT.of (s _ _ h3), k _ G H (Ext.refl s) ⟨b, us, rfl, h3, h4⟩⟩))
      | cons x0 xs =>
        unfold oAdd at e
        dsimp only at e
        by_cases z : (x0 :: xs).length + ys.length ≤ 1000000
        · rw [if_pos z] at e
          cases e
          refine .inr (.inr (.inl ⟨a, b, vs, us, rfl, rfl, SqT.of (s _ _ h1), SqT.of (s _ _ h3), fun w => ?_, le_line6 (by rw [← h2.len, ← h4.len]; exact z), fun w => ?_, fun _ p hp => ?_⟩))
          · have := h2.len
            rw [w] at this
            cases this
          · have := h4.len
            rw [w] at this
            have ey : ys = [] := List.eq_nil_of_length_eq_zero this
            subst ey
            rw [List.append_nil] at k
            exact k _ G H (Ext.refl s) ⟨a, vs, rfl, h1, h2⟩
          · have x2 := Ext.lay s hp (.tup (vs ++ us))
            exact k _ _ _ x2 ⟨p, _, rfl, upd_same, (h2.app h4).mono x2.gg⟩
        · rw [if_neg z] at e; cases e
    | _ => cases xs <;> cases e
  | _ => cases e
theorem xe_add (ha : XV X a f) (hb : XV X b g) : XE X (.BinOp a .Add b pos) (fOpE oAdd f g) := xe_bin op_addAll opv_add ha hb
theorem xe_sub (ha : XV X a f) (hb : XV X b g) : XE X (.BinOp a .Sub b pos) (fOpE oSub f g) := xe_bin op_sub (opv_int0 fun _ _ _ => rfl) ha hb
theorem mulOk {i j : Int} (h : cMul i j = true) : CMul i j := by
  unfold cMul at h
  rw [Bool.or_eq_true, Bool.and_eq_true, Bool.and_eq_true, decide_eq_true_iff, decide_eq_true_iff, decide_eq_true_iff, decide_eq_true_iff] at h
  exact h
theorem divOk {i j : Int} (h : cDiv i j = true) : CDiv i j := by
  unfold cDiv at h
  rw [Bool.and_eq_true, decide_eq_true_iff, decide_eq_true_iff] at h
  exact h
theorem powOk {i j : Int} (h : cPow i j = true) : CPow i j := by
  unfold cPow at h
  rw [Bool.and_eq_true, Bool.and_eq_true, decide_eq_true_iff, decide_eq_true_iff, decide_eq_true_iff] at h
  exact ⟨h.1.1, h.1.2, h.2⟩
theorem xe_mul (ha : XV X a f) (hb : XV X b g) : XE X (.BinOp a .Mult b pos) (fOpE oMul f g) := xe_bin op_mul (opv_int (fun _ _ h => mulOk h) fun _ _ _ => rfl) ha hb
theorem xe_fdiv (ha : XV X a f) (hb : XV X b g) : XE X (.BinOp a .FloorDiv b pos) (fOpE oDiv f g) := xe_bin op_fdiv (opv_int (fun _ _ h => divOk h) fun _ _ _ => rfl) ha hb
theorem xe_mod (ha : XV X a f) (hb : XV X b g) : XE X (.BinOp a .Mod b pos) (fOpE oMod f g) := xe_bin op_mod (opv_int (fun _ _ h => of_decide_eq_true h) fun _ _ _ => rfl) ha hb
theorem xe_pow (ha : XV X a f) (hb : XV X b g) : XE X (.BinOp a .Pow b pos) (fOpE oPow f g) := xe_bin op_pow (opv_int (fun _ _ h => powOk h) fun _ _ _ => rfl) ha hb
def oNeg : D → Option R
  | .int i => some (.sh (.int (-i)))
  | _ => none
def fNeg (f : FD) : FE := fun ω => (f ω).bind oNeg
theorem xe_neg (ha : XV X a f) : XE X (.UnaryOp .USub a pos) (fNeg f) := by
  obtain ⟨t, h1, h2⟩ := ha
  refine ⟨_, pe_un un_neg h1, fun G0 H0 G ω σ H d Q ow e k => ?_⟩
  obtain ⟨x, q, e⟩ := bnd e
  refine h2 G0 H0 G ω σ H x _ ow q fun v G1 H1 x1 y1 => ?_
  cases x with
  | int i => cases e; cases y1.int; exact ⟨i, rfl, k _ G1 H1 x1 rfl⟩
  | _ => cases e
theorem xe_lt (ha : XV X a f) (hb : XV X b g) : XE X (.Compare a [.Lt] [b] pos) (fOpE oLt f g) := xe_cmp op_lt (opv_int0 fun _ _ _ => rfl) ha hb (nomark _)
theorem xe_ge (ha : XV X a f) (hb : XV X b g) : XE X (.Compare a [.GtE] [b] pos) (fOpE oGe f g) := xe_cmp op_ge (opv_int0 fun _ _ _ => rfl) ha hb (nomark _)
theorem xt_lt (ha : XV X a f) (hb : XV X b g) : XT X (.Compare a [.Lt] [b] pos) (tOf (fOpE oLt f g)) := xt_cmp op_lt (opv_int0 fun _ _ _ => rfl) ha hb (nomark _)
end
mutual
def D.py : D → PyData
  | .non => .none
  | .bl b => .bool b
  | .int i => .int i
  | .str x => .str x
  | .lst xs => .list (D.pys xs)
  | .tup xs => .tuple (D.pys xs)
  | .scr ns => .list (ns.map PyData.int)
  | .exc _ => .dict []
  | .dic _ _ => .dict []
def D.pys : List D → List PyData
  | [] => []
  | d :: ds => d.py :: D.pys ds
end
section
variable {X : Cx} {pins : List (Addr × Obj)} {σ : St} {H : Hp} {s : Shared}
theorem reads_ints {h : Heap} : ∀ {ns : List Int} {us : List Value}, Vals (ns.map V.int) us → ∃ as, ReadsAll h us (ns.map PyData.int) as
  | [], _, r => by cases r; exact ⟨_, .nil⟩
  | n :: ns, _, r => by
    rw [List.map_cons] at r
    cases r with
    | cons r1 r2 =>
      obtain ⟨t, rfl⟩ := r1
      obtain ⟨as, q⟩ := reads_ints (h := h) r2
      exact ⟨_, .cons (.int n t) q⟩
mutual
theorem reads_of (I : Inv X pins σ H s) : ∀ {d : D} {v : V} {u : Value}, d.py.canLay0 = true → Rep X.K H d v → RelV v u → ∃ as, Reads s.heap u d.py as
  | .non, _, _, _, h, r => by cases (show _ = V.non from h); cases r; exact ⟨_, .none⟩
  | .bl b, _, _, _, h, r => by cases (show _ = V.bl b from h); cases r; exact ⟨_, .bool b⟩
  | .int i, _, _, _, h, r => by cases (show _ = V.int i from h); obtain ⟨t, rfl⟩ := r; exact ⟨_, .int i t⟩
  | .str x, _, _, _, h, r => by cases (show _ = V.str x from h); obtain ⟨t, rfl⟩ := r; exact ⟨_, .str x t⟩
  | .lst ds, _, _, hc, ⟨a, vs, rfl, h2, h3⟩, r => by
    cases r
    obtain ⟨its, n, rv, e, _⟩ := I.lst h2
    obtain ⟨as, q⟩ := reads_all I (show PyData.canLayAll0 (D.pys ds) = true from hc) h3 rv
    exact ⟨_, .list e rfl rfl (by simpa using q)⟩
  | .tup ds, _, _, hc, ⟨a, vs, rfl, h2, h3⟩, r => by
    cases r
    obtain ⟨its, rv, ⟨o, e, c, n, dd⟩, _⟩ := I.tuple (SqT.of h2)
    obtain ⟨as, q⟩ := reads_all I (show PyData.canLayAll0 (D.pys ds) = true from hc) h3 rv
    exact ⟨_, .tuple e c dd (by simpa using q)⟩
  | .exc _, _, _, hc, _, _ => by cases hc
  | .dic _ _, _, _, hc, _, _ => by cases hc
  | .scr ns, _, _, _, ⟨a, rfl, h2⟩, r => by
    cases r
    obtain ⟨its, rv, pl, _⟩ := I.list h2
    obtain ⟨o, e, c, n, dd⟩ := pl.isList
    obtain ⟨as, q⟩ := reads_ints (h := s.heap) rv
    exact ⟨_, .list e c dd (by simpa using q)⟩
theorem reads_all (I : Inv X pins σ H s) : ∀ {ds : List D} {vs : List V} {us : List Value}, PyData.canLayAll0 (D.pys ds) = true → Reps X.K H ds vs → Vals vs us → ∃ as, ReadsAll s.heap us (D.pys ds) as
  | [], _, _, _, h, r => by cases (show _ = [] from h); cases r; exact ⟨_, .nil⟩
  | d :: ds, _, _, hc, ⟨v, vr, h1, h2, h3⟩, r => by
    have hc' := Bool.and_eq_true_iff.mp (show (d.py.canLay0 && PyData.canLayAll0 (D.pys ds)) = true from hc)
    subst h1
    cases r with
    | cons r1 r2 =>
      obtain ⟨as, q1⟩ := reads_of I hc'.1 h2 r1
      obtain ⟨bs, q2⟩ := reads_all I hc'.2 h3 r2
      exact ⟨_, .cons q1 q2⟩
end
end
def shp (d : D) : Bool := SeqAt.shaped d.py
def eqD (x y : D) : Bool := PyData.eqv x.py y.py
def rEqD (K : PySem.W.Frag) (neg : Bool) : R2 := fun x y H Q => ∃ d e, Rep K H d x ∧ Rep K H e y ∧ shp d = true ∧ shp e = true ∧ Q (.bl (if neg then !eqD d e else eqD d e)) H
def oEq (neg : Bool) : D → D → Option R := fun x y => if shp x && shp y then some (.sh (.bl (if neg then !eqD x y else eqD x y))) else none
section
variable {X : Cx} {a b : Expr} {pos : Pos} {f g : FD}
theorem op_eqD (hu : X.A.units + 64 < cLine) : OpR X (compareOp .Eq) (rEqD X.K false) := by
  intro pins s σ H x y v u Q I rx ry h
  obtain ⟨d, e, h1, h2, h3, h4, q⟩ := h
  obtain ⟨as, ra⟩ := reads_of I (SeqAt.canLay_of_shaped h3) h1 rx
  obtain ⟨bs, rb⟩ := reads_of I (SeqAt.canLay_of_shaped h4) h2 ry
  exact SeqAt.compareEq_shaped ra rb h3 h4 hu ⟨.bl _, H, I, rfl, q⟩
theorem op_neD (hu : X.A.units + 64 < cLine) : OpR X (compareOp .NotEq) (rEqD X.K true) := by
  intro pins s σ H x y v u Q I rx ry h
  obtain ⟨d, e, h1, h2, h3, h4, q⟩ := h
  obtain ⟨as, ra⟩ := reads_of I (SeqAt.canLay_of_shaped h3) h1 rx
  obtain ⟨bs, rb⟩ := reads_of I (SeqAt.canLay_of_shaped h4) h2 ry
  exact SeqAt.compareNe_shaped ra rb h3 h4 hu ⟨.bl _, H, I, rfl, q⟩
theorem opv_eq {K : PySem.W.Frag} {neg : Bool} : OpV K (rEqD K neg) (oEq neg) := by
  intro G H x y d v u Q s e hx hy k
  unfold oEq at e
  by_cases z : (shp x && shp y) = true
  · rw [if_pos z] at e
    cases e
    rw [Bool.and_eq_true] at z
    exact ⟨x, y, hx.rep s, hy.rep s, z.1, z.2, k _ G H (Ext.refl s) rfl⟩
  · rw [if_neg z] at e; cases e
theorem xe_eq (hu : X.A.units + 64 < cLine) (ha : XV X a f) (hb : XV X b g) : XE X (.Compare a [.Eq] [b] pos) (fOpE (oEq false) f g) := xe_cmp (op_eqD hu) opv_eq ha hb (nomark _)
theorem xt_eq (hu : X.A.units + 64 < cLine) (ha : XV X a f) (hb : XV X b g) : XT X (.Compare a [.Eq] [b] pos) (tOf (fOpE (oEq false) f g)) := xt_cmp (op_eqD hu) opv_eq ha hb (nomark _)
theorem xt_ne (hu : X.A.units + 64 < cLine) (ha : XV X a f) (hb : XV X b g) : XT X (.Compare a [.NotEq] [b] pos) (tOf (fOpE (oEq true) f g)) := xt_cmp (op_neD hu) opv_eq ha hb (nomark _)
def isN : D → Bool
  | .non => true
  | _ => false
def oIs (neg : Bool) : D → D → Option R
  | x, .non => some (.sh (.bl (if neg then !isN x else isN x)))
  | .bl i, .bl j => some (.sh (.bl (if neg then !(i == j) else i == j)))
  | _, _ => none
def flatD : D → Bool
  | .non => true
  | .bl _ => true
  | .int _ => true
  | .str _ => true
  | _ => false
def D.v : D → V
  | .bl b => .bl b
  | .int i => .int i
  | .str x => .str x
  | _ => .non
theorem rep_flat {K : PySem.W.Frag} {H : Hp} {d : D} {v : V} (h : Rep K H d v) (f : flatD d = true) : v = d.v ∧ flatV v = true := by
  cases d with
  | non => cases (show v = V.non from h); exact ⟨rfl, rfl⟩
  | bl b => cases (show v = V.bl b from h); exact ⟨rfl, rfl⟩
  | int b => cases (show v = V.int b from h); exact ⟨rfl, rfl⟩
  | str b => cases (show v = V.str b from h); exact ⟨rfl, rfl⟩
  | _ => cases f
theorem reps_flat {K : PySem.W.Frag} {H : Hp} : ∀ {ds : List D} {vs : List V}, Reps K H ds vs → ds.all flatD = true → vs = ds.map D.v ∧ vs.all flatV = true
  | [], _, h, _ => by cases (show _ = [] from h); exact ⟨rfl, rfl⟩
  | d :: ds, _, ⟨v, r, h1, h2, h3⟩, f => by
    rw [List.all_cons, Bool.and_eq_true] at f
    obtain ⟨e1, e2⟩ := rep_flat h2 f.1
    obtain ⟨e3, e4⟩ := reps_flat h3 f.2
    subst h1
    refine ⟨by rw [List.map_cons, ← e1, ← e3], by rw [List.all_cons, e2, e4]; rfl⟩
def inD (x : D) (ds : List D) : Bool := inV x.v (ds.map D.v)
def oIn (neg : Bool) : D → D → Option R
  | x, .lst ys => if flatD x && ys.all flatD then some (.sh (.bl (if neg then !inD x ys else inD x ys))) else none
  | x, .tup ys => if flatD x && ys.all flatD then some (.sh (.bl (if neg then !inD x ys else inD x ys))) else none
  | _, _ => none
theorem opv_in {K : PySem.W.Frag} {neg : Bool} : OpV K (rIn K neg) (oIn neg) := by
  intro G H x y d v u Q s e hx hy k
  cases y with
  | lst ys =>
    unfold oIn at e
    dsimp only at e
    by_cases z : (flatD x && ys.all flatD) = true
    · rw [if_pos z] at e
      cases e
      rw [Bool.and_eq_true] at z
      obtain ⟨p, vs, rfl, h1, h2⟩ := hy.lst s
      obtain ⟨e1, e2⟩ := rep_flat (hx.rep s) z.1
      obtain ⟨e3, e4⟩ := reps_flat h2 z.2
      refine ⟨p, vs, rfl, .inl (SqL.of h1), e2, e4, ?_⟩
      rw [e1, e3]
      exact k _ G H (Ext.refl s) rfl
    · rw [if_neg z] at e; cases e
  | tup ys =>
    unfold oIn at e
    dsimp only at e
    by_cases z : (flatD x && ys.all flatD) = true
    · rw [if_pos z] at e
      cases e
      rw [Bool.and_eq_true] at z
      obtain ⟨p, vs, rfl, h1, h2⟩ := hy.tup
      obtain ⟨e1, e2⟩ := rep_flat (hx.rep s) z.1
      obtain ⟨e3, e4⟩ := reps_flat h2 z.2
      refine ⟨p, vs, rfl, .inr (SqT.of (s _ _ h1)), e2, e4, ?_⟩
      rw [e1, e3]
      exact k _ G H (Ext.refl s) rfl
    · rw [if_neg z] at e; cases e
  | _ => cases x <;> cases e
theorem xe_in (ha : XV X a f) (hb : XV X b g) (hm : behindInMarks .In b = false := by with_unfolding_all rfl) : XE X (.Compare a [.In] [b] pos) (fOpE (oIn false) f g) := xe_cmp op_in_seq opv_in ha hb hm
def oIx : D → D → Option R
  | .lst ds, .int i => (atI ds i).map R.sh
  | .tup ds, .int i => (atI ds i).map R.sh
  | .scr ns, .int i => (atI ns i).map fun n => .sh (.int n)
  | _, _ => none
theorem atI_reps {K : PySem.W.Frag} {H : Hp} {ds : List D} {vs : List V} {i : Int} {d : D} (h : Reps K H ds vs) (e : atI ds i = some d) : ∃ v, atI vs i = some v ∧ Rep K H d v := by
  unfold atI at e ⊢
  rw [← h.len]
  cases q : ixN ds.length i with
  | none => rw [q] at e; cases e
  | some j =>
    rw [q] at e
    obtain ⟨v, e1, e2⟩ := h.get e
    exact ⟨v, e1, e2⟩
theorem atI_ints {ns : List Int} {i n : Int} (e : atI ns i = some n) : atI (ns.map V.int) i = some (.int n) := by
  unfold atI at e ⊢
  rw [List.length_map]
  cases q : ixN ns.length i with
  | none => rw [q] at e; cases e
  | some j =>
    rw [q] at e
    have e' : ns[j]? = some n := e
    show (ns.map V.int)[j]? = _
    rw [List.getElem?_map, e']; rfl
theorem opv_ix {K : PySem.W.Frag} : OpV K (rIx K) oIx := by
  intro G H x y d v u Q s e hx hy k
  cases y with
  | int i =>
    cases hy.int
    cases x with
    | lst ds =>
      obtain ⟨d', q, e'⟩ := mpd e
      subst e'
      obtain ⟨p, vs, rfl, h1, h2⟩ := hx.lst s
      obtain ⟨w, e1, e2⟩ := atI_reps h2 q
      exact .inl ⟨p, vs, i, w, rfl, rfl, SqL.of h1, e1, k _ G H (Ext.refl s) e2⟩
    | tup ds =>
      obtain ⟨d', q, e'⟩ := mpd e
      subst e'
      obtain ⟨p, vs, rfl, h1, h2⟩ := hx.tup
      obtain ⟨w, e1, e2⟩ := atI_reps h2 q
      exact .inr (.inl ⟨p, vs, i, w, rfl, rfl, SqT.of (s _ _ h1), e1, k _ G H (Ext.refl s) e2⟩)
    | scr ns =>
      obtain ⟨n, q, e'⟩ := mpd e
      subst e'
      obtain ⟨p, rfl, h1⟩ := hx.scr
      exact .inl ⟨p, _, i, .int n, rfl, rfl, s.seq h1, atI_ints q, k _ G H (Ext.refl s) rfl⟩
    | _ => cases e
  | _ => cases x <;> cases e
theorem xe_item (ha : XV X a f) (hb : XV X b g) (hs : PlainIx b := by exact fun _ _ => rfl) : XE X (.Subscript a b pos) (fOpE oIx f g) := xe_ix ix_seq opv_ix ha hb hs
abbrev FO := WSt → Option (Option Int)
def SimO (K : PySem.W.Frag) (t : TO) (f : FO) : Prop := ∀ G0 H0 G ω σ H o (Q : Option Int → Hp → Prop), Own K G0 H0 G ω σ H → f ω = some o → (∀ G' H', Ext G H G' H' → Q o H') → t σ H Q
def XO (X : Cx) (e : Option Expr) (f : FO) : Prop := ∃ t, PO X e t ∧ SimO X.K t f
def pNo : FO := fun _ => some none
def pAt (f : FD) : FO := fun ω => (f ω).bind fun d => match d with | .int i => some (some i) | _ => none
theorem xo_none : XO X none pNo := ⟨_, po_none, fun G0 H0 G ω σ H o Q ow e k => by cases e; exact k G H (Ext.refl ow.gh)⟩
theorem xo_some (h : XV X a f) : XO X (some a) (pAt f) := by
  obtain ⟨t, h1, h2⟩ := h
  refine ⟨_, po_some h1, fun G0 H0 G ω σ H o Q ow e k => ?_⟩
  obtain ⟨d, q, e⟩ := bnd e
  refine h2 G0 H0 G ω σ H d _ ow q fun v G1 H1 x1 y1 => ?_
  cases d with
  | int i => cases e; cases y1.int; exact ⟨i, rfl, k G1 H1 x1⟩
  | _ => cases e
def cutD {α : Type} (xs : List α) (lo hi : Option Int) : List α := (xs.drop (HT.sIx xs.length 0 lo)).take (HT.sIx xs.length xs.length hi - HT.sIx xs.length 0 lo)
theorem cut_reps {K : PySem.W.Frag} {H : Hp} {ds : List D} {vs : List V} (h : Reps K H ds vs) (lo hi : Option Int) : Reps K H (cutD ds lo hi) (cutV vs lo hi) := by
  unfold cutD cutV
  rw [h.len]
  exact (h.drop _).take _
theorem cut_ints (ns : List Int) (lo hi : Option Int) : cutV (ns.map V.int) lo hi = (cutD ns lo hi).map V.int := by
  unfold cutD cutV
  rw [List.length_map, List.map_take, List.map_drop]
def oSl : D → Option Int → Option Int → Option R
  | .lst ds, lo, hi => some (.fr (cutD ds lo hi))
  | .scr ns, lo, hi => some (.fr ((cutD ns lo hi).map D.int))
  | .tup ds, lo, hi => if HT.sIx ds.length 0 lo = 0 ∧ HT.sIx ds.length ds.length hi = ds.length then some (.sh (.tup ds)) else some (.sh (.tup (cutD ds lo hi)))
  | _, _, _ => none
def fSl (f : FD) (l h : FO) : FE := fun ω => (f ω).bind fun d => (l ω).bind fun lo => (h ω).bind fun hi => oSl d lo hi
theorem xe_slice {lo hi : Option Expr} {l h : FO} {p2 : Pos} (ha : XV X a f) (hl : XO X lo l) (hh : XO X hi h) : XE X (.Subscript a (.Slice lo hi none p2) pos) (fSl f l h) := by
  obtain ⟨t, h1, h2⟩ := ha
  obtain ⟨tl, h3, h4⟩ := hl
  obtain ⟨th, h5, h6⟩ := hh
  refine ⟨_, pe_slice (sl_list.or (sl_tup.or sl_whole)) h1 h3 h5, fun G0 H0 G ω σ H r Q ow e k => ?_⟩
  obtain ⟨d, q, e⟩ := bnd e
  obtain ⟨lo', q2, e⟩ := bnd e
  obtain ⟨hi', q3, e⟩ := bnd e
  refine h2 G0 H0 G ω σ H d _ ow q fun v G1 H1 x1 y1 => ?_
  refine h4 G0 H0 G1 ω σ H1 lo' _ (ow.keep x1) q2 fun G2 H2 x2 => ?_
  refine h6 G0 H0 G2 ω σ H2 hi' _ ((ow.keep x1).keep x2) q3 fun G3 H3 x3 => ?_
  have y3 := (y1.keep x2).keep x3
  have x13 := (x1.trans x2).trans x3
  cases d with
  | lst ds =>
    cases e
    obtain ⟨p, vs, rfl, h1, h2⟩ := y3.lst x3.gh
    refine .inl ⟨p, vs, rfl, SqL.of h1, fun n hn => ?_⟩
    exact k _ G3 _ (x13.trans (Ext.hide x3.gh hn _)) ⟨n, _, rfl, x13.hh.free hn, x3.gh.free hn, upd_same, cut_reps h2 _ _⟩
  | scr ns =>
    cases e
    obtain ⟨p, rfl, h1⟩ := y3.scr
    refine .inl ⟨p, _, rfl, x3.gh.seq h1, fun n hn => ?_⟩
    refine k _ G3 _ (x13.trans (Ext.hide x3.gh hn _)) ⟨n, _, rfl, x13.hh.free hn, x3.gh.free hn, upd_same, ?_⟩
    rw [cut_ints]
    exact Reps.ints _
  | tup ds =>
    unfold oSl at e
    dsimp only at e
    obtain ⟨p, vs, rfl, h1, h2⟩ := y3.tup
    by_cases z : HT.sIx ds.length 0 lo' = 0 ∧ HT.sIx ds.length ds.length hi' = ds.length
    · rw [if_pos z] at e
      cases e
      exact .inr (.inr ⟨p, vs, rfl, SqT.of (x3.gh _ _ h1), by rw [← h2.len]; exact z, k _ G3 H3 x13 ⟨p, vs, rfl, h1, h2⟩⟩)
    · rw [if_neg z] at e
      cases e
      refine .inr (.inl ⟨p, vs, rfl, SqT.of (x3.gh _ _ h1), by rw [← h2.len]; exact z, fun n hn => ?_⟩)
      have x4 := Ext.lay x3.gh hn (.tup (cutV vs lo' hi'))
      exact k _ _ _ (x13.trans x4) ⟨n, _, rfl, upd_same, (cut_reps h2 _ _).mono x4.gg⟩
  | _ => cases e
end
end Hk
set_option maxRecDepth 100000
namespace Hk
open PySem L2
section
variable {X : Cx} {a b c : Expr} {pos : Pos} {rest : List Expr} {f g : FT}
def tAndF (f g : FT) : FT := fun ω => (f ω).bind fun c => if c = true then g ω else some false
def tOrF (f g : FT) : FT := fun ω => (f ω).bind fun c => if c = true then some true else g ω
def tNotF (f : FT) : FT := fun ω => (f ω).map (!·)
theorem simT_and {t u : TT} (h : SimT X.K t f) (h' : SimT X.K u g) : SimT X.K (tAnd t u) (tAndF f g) := by
  intro G0 H0 G ω σ H b Q o e k
  obtain ⟨c, q, e⟩ := bnd e
  refine h G0 H0 G ω σ H c _ o q fun G1 H1 x1 => ?_
  cases c with
  | true => rw [if_pos rfl] at e ⊢; exact h' G0 H0 G1 ω σ H1 b Q (o.keep x1) e fun G2 H2 x2 => k G2 H2 (x1.trans x2)
  | false => cases e; exact k G1 H1 x1
theorem simT_or {t u : TT} (h : SimT X.K t f) (h' : SimT X.K u g) : SimT X.K (tOr t u) (tOrF f g) := by
  intro G0 H0 G ω σ H b Q o e k
  obtain ⟨c, q, e⟩ := bnd e
  refine h G0 H0 G ω σ H c _ o q fun G1 H1 x1 => ?_
  cases c with
  | true => cases e; exact k G1 H1 x1
  | false => exact h' G0 H0 G1 ω σ H1 b Q (o.keep x1) e fun G2 H2 x2 => k G2 H2 (x1.trans x2)
theorem xw_and1 (h : XT X a f) : XW X (.BoolOp .And [a] pos) f := let ⟨t, h1, h2⟩ := h; ⟨t, pw_and1 h1, h2⟩
theorem xw_or1 (h : XT X a f) : XW X (.BoolOp .Or [a] pos) f := let ⟨t, h1, h2⟩ := h; ⟨t, pw_or1 h1, h2⟩
theorem xw_and (h : XT X a f) (h' : XW X (.BoolOp .And (b :: rest) pos) g) : XW X (.BoolOp .And (a :: b :: rest) pos) (tAndF f g) := let ⟨_, h1, h2⟩ := h; let ⟨_, h3, h4⟩ := h'; ⟨_, pw_and h1 h3, simT_and h2 h4⟩
theorem xw_or (h : XT X a f) (h' : XW X (.BoolOp .Or (b :: rest) pos) g) : XW X (.BoolOp .Or (a :: b :: rest) pos) (tOrF f g) := let ⟨_, h1, h2⟩ := h; let ⟨_, h3, h4⟩ := h'; ⟨_, pw_or h1 h3, simT_or h2 h4⟩
theorem XW.toT (h : XW X a f) : XT X a f := let ⟨t, h1, h2⟩ := h; ⟨t, h1.pt, h2⟩
theorem xt_not (h : XT X a f) : XT X (.UnaryOp .Not a pos) (tNotF f) := by
  obtain ⟨t, h1, h2⟩ := h
  refine ⟨_, pt_not h1, fun G0 H0 G ω σ H b Q o e k => ?_⟩
  obtain ⟨c, q, e⟩ := mpd e
  subst e
  exact h2 G0 H0 G ω σ H c _ o q k
def truD : D → Option Bool
  | .non => some false
  | .bl b => some b
  | .int i => some (i != 0)
  | .lst xs => some (!xs.isEmpty)
  | .tup xs => some (!xs.isEmpty)
  | _ => none
def tTru (f : FD) : FT := fun ω => (f ω).bind truD
theorem isEmpty_len {α β : Type} {xs : List α} {ys : List β} (h : xs.length = ys.length) : xs.isEmpty = ys.isEmpty := by
  cases xs <;> cases ys <;> first | rfl | cases h
theorem xt_val {f : FD} (h : XV X a f) (he : ∀ whole, isTrue a X.env whole = (do let v ← whole; standAt a.pos; holding [v] (truthy v)) := by intro _; rfl) : XT X a (tTru f) := by
  obtain ⟨t, h1, h2⟩ := h
  refine ⟨_, pt_truth h1 he, fun G0 H0 G ω σ H b Q o e k => ?_⟩
  obtain ⟨d, q, e⟩ := bnd e
  refine h2 G0 H0 G ω σ H d _ o q fun v G1 H1 x1 y1 => ⟨b, ?_, k G1 H1 x1⟩
  cases d with
  | non => cases e; cases y1.non; rfl
  | bl c => cases e; cases y1.bl; rfl
  | int i => cases e; cases y1.int; rfl
  | lst xs =>
    cases e
    obtain ⟨p, vs, rfl, h1, h2⟩ := y1.lst x1.gh
    exact .inl ⟨vs, SqL.of h1, by rw [isEmpty_len h2.len]⟩
  | tup xs =>
    cases e
    obtain ⟨p, vs, rfl, h1, h2⟩ := y1.tup
    exact .inr (.inl ⟨vs, SqT.of (x1.gh _ _ h1), by rw [isEmpty_len h2.len]⟩)
  | _ => cases e
def blOf : D → Option Bool
  | .bl b => some b
  | _ => none
def vAnd (f g : FD) : FD := fun ω => (f ω).bind fun d => (blOf d).bind fun c => if c = true then g ω else some (.bl false)
def vOr (f g : FD) : FD := fun ω => (f ω).bind fun d => (blOf d).bind fun c => if c = true then some (.bl true) else g ω
def vNot (f : FD) : FD := fun ω => (f ω).bind fun d => (blOf d).map fun c => .bl (!c)
def fIte (c : FT) (f g : FE) : FE := fun ω => (c ω).bind fun k => if k = true then f ω else g ω
variable {fa fb : FD}
theorem xd_one {op} (h : XD X a fa) : XD X (.BoolOp op [a] pos) fa := let ⟨t, h1, h2⟩ := h; ⟨t, pe_one h1, h2⟩
theorem xd_and (h : XD X a fa) (h' : XD X (.BoolOp .And (b :: rest) pos) fb) : XD X (.BoolOp .And (a :: b :: rest) pos) (vAnd fa fb) := by
  obtain ⟨t, h1, h2⟩ := h
  obtain ⟨u, h3, h4⟩ := h'
  refine ⟨_, pe_and h1 h3, fun G0 H0 G ω σ H d Q o e k => ?_⟩
  obtain ⟨x, q, e⟩ := bnd e
  obtain ⟨c, q2, e2⟩ := bnd e
  clear e
  refine h2 G0 H0 G ω σ H x _ o q fun v G1 H1 x1 y1 => ?_
  cases x with
  | bl z =>
    cases q2
    cases (show v = V.bl c from y1)
    refine ⟨c, rfl, ?_⟩
    cases c with
    | true => rw [if_pos rfl] at e2 ⊢; exact h4 G0 H0 G1 ω σ H1 d Q (o.keep x1) e2 fun v G2 H2 x2 y2 => k v G2 H2 (x1.trans x2) y2
    | false => cases e2; exact k _ G1 H1 x1 rfl
  | _ => cases q2
theorem xd_not (h : XD X a fa) : XD X (.UnaryOp .Not a pos) (vNot fa) := by
  obtain ⟨t, h1, h2⟩ := h
  refine ⟨_, pe_not h1, fun G0 H0 G ω σ H d Q o e k => ?_⟩
  obtain ⟨x, q, e⟩ := bnd e
  obtain ⟨c, q2, e⟩ := mpd e
  subst e
  refine h2 G0 H0 G ω σ H x _ o q fun v G1 H1 x1 y1 => ?_
  cases x with
  | bl z => cases q2; cases (show v = V.bl c from y1); exact ⟨c, rfl, k _ G1 H1 x1 rfl⟩
  | _ => cases q2
theorem RepR.after {K : PySem.W.Frag} {G H G1 H1 G2 H2 : Hp} {r : R} {v : V} (x : Ext G H G1 H1) (y : RepR K H1 G2 H2 r v) : RepR K H G2 H2 r v := by
  cases r with
  | sh d => exact y
  | fr ds => obtain ⟨l, vs, e1, e2, e3⟩ := y; exact ⟨l, vs, e1, x.hh.free e2, e3⟩
  | vw ds => exact y
theorem xe_ite {fc : FT} {f g : FE} (hc : XT X c fc) (ha : XE X a f) (hb : XE X b g) : XE X (.IfExp c a b pos) (fIte fc f g) := by
  obtain ⟨t, h1, h2⟩ := hc
  obtain ⟨u, h3, h4⟩ := ha
  obtain ⟨w, h5, h6⟩ := hb
  refine ⟨_, pe_ifExp h1 h3 h5, fun G0 H0 G ω σ H r Q o e k => ?_⟩
  obtain ⟨z, q, e⟩ := bnd e
  refine h2 G0 H0 G ω σ H z _ o q fun G1 H1 x1 => ?_
  cases z with
  | true => rw [if_pos rfl] at e ⊢; exact h4 G0 H0 G1 ω σ H1 r Q (o.keep x1) e fun v G2 H2 x2 y2 => k v G2 H2 (x1.trans x2) (y2.after x1)
  | false => exact h6 G0 H0 G1 ω σ H1 r Q (o.keep x1) e fun v G2 H2 x2 y2 => k v G2 H2 (x1.trans x2) (y2.after x1)
end
def CallD (K : PySem.W.Frag) (r : List V → Hp → VK → Prop) (op : List D → Option R) : Prop := ∀ G H ds vs d (Q : VK), Same G H → op ds = some d → VwA K G H ds vs →
  (∀ w G' H', Ext G H G' H' → RepR K H G' H' d w → Q w H') → r vs H Q
def fBlt (op : List D → Option R) (g : FA) : FE := fun ω => (g ω).bind op
section
variable {X : Cx} {e : Expr} {es : List Expr} {x : Str} {p pos : Pos} {r : List V → Hp → VK → Prop} {op : List D → Option R} {g : FA} {id T : String}
theorem sim_blt {t : TA} (hd : CallD X.K r op) (h : SimVA X.K t g) : SimE X.K (tCB r t) (fBlt op g) := by
  intro G0 H0 G ω σ H d Q o e k
  obtain ⟨ds, q, e⟩ := bnd e
  refine h G0 H0 G ω σ H ds _ o q fun vs G1 H1 x1 y1 => ?_
  exact hd G1 H1 ds vs d Q x1.gh e y1 fun w G2 H2 x2 y2 => k w G2 H2 (x1.trans x2) (y2.after x1)
theorem xe_blt (hc : CallR X (.builtin id) r) (hd : CallD X.K r op) (hg : Gl X x) (hm : X.mg x = none) (hv : bootBuiltins x = some (.builtin id)) (ha : XVA X (e :: es) g) (hn : x ≠ "__name__" := by decide) (hdb : (x == ("__debug__" : Str)) = false := by decide)
    (he : starEach (e :: es) X.env = (false, eval e X.env) :: starEach es X.env := by rfl) (hpl : (backTo pos (starEach es X.env)).any (·.1) = false := by rfl) : XE X (.Call (.Name x p) (e :: es) [] pos) (fBlt op g) := by
  obtain ⟨t, h1, h2⟩ := ha
  exact ⟨_, pe_callB hc hg hm hv h1 hn hdb he hpl, sim_blt hd h2⟩
theorem xe_ty (hc : CallR X (.type T) r) (hd : CallD X.K r op) (hg : Gl X x) (hm : X.mg x = none) (hv : bootBuiltins x = some (.type T)) (ha : XVA X (e :: es) g) (hn : x ≠ "__name__" := by decide) (hdb : (x == ("__debug__" : Str)) = false := by decide)
    (he : starEach (e :: es) X.env = (false, eval e X.env) :: starEach es X.env := by rfl) (hpl : (backTo pos (starEach es X.env)).any (·.1) = false := by rfl) : XE X (.Call (.Name x p) (e :: es) [] pos) (fBlt op g) := by
  obtain ⟨t, h1, h2⟩ := ha
  exact ⟨_, pe_callTy hc hg hm hv h1 hn hdb he hpl, sim_blt hd h2⟩
theorem VwA.one {K : PySem.W.Frag} {G H : Hp} {d : D} {vs : List V} (h : VwA K G H [d] vs) : ∃ v, vs = [v] ∧ Vw K G H d v := by
  obtain ⟨v, r, h1, h2, h3⟩ := h
  cases (show r = [] from h3)
  exact ⟨v, h1, h2⟩
theorem VwA.two {K : PySem.W.Frag} {G H : Hp} {d e : D} {vs : List V} (h : VwA K G H [d, e] vs) : ∃ v u, vs = [v, u] ∧ Vw K G H d v ∧ Vw K G H e u := by
  obtain ⟨v, r, h1, h2, h3⟩ := h
  obtain ⟨u, rfl, h4⟩ := VwA.one h3
  exact ⟨v, u, h1, h2, h4⟩
def bLen : List D → Option R
  | [.lst ds] => some (.sh (.int ds.length))
  | [.tup ds] => some (.sh (.int ds.length))
  | [.scr ns] => some (.sh (.int ns.length))
  | _ => none
theorem cd_len {K : PySem.W.Frag} : CallD K (fun xs H Q => ∃ p ys, xs = [.ref p] ∧ (SqL K H p ys ∨ SqT K H p ys) ∧ Q (.int ys.length) H) bLen := by
  intro G H ds vs d Q s e hv k
  match ds, e with
  | [.lst ds], e =>
    cases e
    obtain ⟨v, rfl, h⟩ := hv.one
    obtain ⟨p, us, rfl, h1, h2⟩ := h.lst s
    exact ⟨p, us, rfl, .inl (SqL.of h1), k _ G H (Ext.refl s) (by show V.int _ = V.int _; rw [h2.len])⟩
  | [.tup ds], e =>
    cases e
    obtain ⟨v, rfl, h⟩ := hv.one
    obtain ⟨p, us, rfl, h1, h2⟩ := h.tup
    exact ⟨p, us, rfl, .inr (SqT.of (s _ _ h1)), k _ G H (Ext.refl s) (by show V.int _ = V.int _; rw [h2.len])⟩
  | [.scr ns], e =>
    cases e
    obtain ⟨v, rfl, h⟩ := hv.one
    obtain ⟨p, rfl, h1⟩ := h.scr
    exact ⟨p, _, rfl, .inl (s.seq h1), k _ G H (Ext.refl s) (by show V.int _ = V.int _; rw [List.length_map])⟩
def bInt : List D → Option R
  | [.int i] => some (.sh (.int i))
  | [.bl b] => some (.sh (.int (if b then 1 else 0)))
  | _ => none
theorem cd_int {K : PySem.W.Frag} : CallD K (fun xs H Q => (∃ i, xs = [.int i] ∧ Q (.int i) H) ∨ ∃ k, xs = [.bl k] ∧ Q (.int (if k then 1 else 0)) H) bInt := by
  intro G H ds vs d Q s e hv k
  match ds, e with
  | [.int i], e =>
    cases e
    obtain ⟨v, rfl, h⟩ := hv.one
    cases h.int
    exact .inl ⟨i, rfl, k _ G H (Ext.refl s) rfl⟩
  | [.bl i], e =>
    cases e
    obtain ⟨v, rfl, h⟩ := hv.one
    cases h.bl
    exact .inr ⟨i, rfl, k _ G H (Ext.refl s) rfl⟩
def bList : List D → Option R
  | [.lst ds] => some (.fr ds)
  | [.tup ds] => some (.fr ds)
  | _ => none
theorem cd_list {K : PySem.W.Frag} : CallD K (fun xs H Q => ∃ p ys, xs = [.ref p] ∧ (SqL K H p ys ∨ SqT K H p ys) ∧ ∀ l, H l = none → Q (.ref l) (upd H l (.lst ys))) bList := by
  intro G H ds vs d Q s e hv k
  match ds, e with
  | [.lst ds], e =>
    cases e
    obtain ⟨v, rfl, h⟩ := hv.one
    obtain ⟨p, us, rfl, h1, h2⟩ := h.lst s
    exact ⟨p, us, rfl, .inl (SqL.of h1), fun l hl => k _ G _ (Ext.hide s hl _) ⟨l, us, rfl, hl, s.free hl, upd_same, h2⟩⟩
  | [.tup ds], e =>
    cases e
    obtain ⟨v, rfl, h⟩ := hv.one
    obtain ⟨p, us, rfl, h1, h2⟩ := h.tup
    exact ⟨p, us, rfl, .inr (SqT.of (s _ _ h1)), fun l hl => k _ G _ (Ext.hide s hl _) ⟨l, us, rfl, hl, s.free hl, upd_same, h2⟩⟩
def bTuple : List D → Option R
  | [.lst ds] => some (.sh (.tup ds))
  | [.tup ds] => some (.sh (.tup ds))
  | _ => none
def allB : List D → Option Bool
  | [] => some true
  | .bl b :: r => (allB r).map fun c => b && c
  | _ => none
def bAll : List D → Option R
  | [.lst ds] => (allB ds).map fun b => .sh (.bl b)
  | _ => none
end
def rAll : List V → Hp → VK → Prop := fun xs H Q => ∃ (p : Addr) (bs : List Bool), xs = [.ref p] ∧ H p = some (.lst (bs.map V.bl)) ∧ Q (.bl (bs.all id)) H
section
variable {X : Cx}
theorem vals_bl : ∀ {bs : List Bool} {us : List Value}, Vals (bs.map V.bl) us → us = bs.map Value.bool
  | [], _, r => by cases r; rfl
  | b :: bs, _, r => by
    rw [List.map_cons] at r
    cases r with
    | cons r1 r2 => cases r1; rw [vals_bl r2]; rfl
theorem all_range {bs : List Bool} : (List.range bs.length).all (fun i => bs.getD i false) = bs.all id := by
  induction bs with
  | nil => rfl
  | cons b r ih =>
    rw [List.length_cons, List.range_succ_eq_map, List.all_cons, List.all_map, List.all_cons]
    have e : ((fun i => (b :: r).getD i false) ∘ Nat.succ) = fun i => r.getD i false := by funext i; rfl
    rw [e, ih]; rfl
theorem call_allL (hc : X.calm = true) : CallR X (.builtin "all") rAll := by
  intro pins s σ H xs us Q I r h
  obtain ⟨p, bs, rfl, hp, q⟩ := h
  obtain ⟨u, rfl, rx⟩ := vals1 r
  cases rx
  obtain ⟨its, n, rv, e, hz⟩ := I.lst hp
  have ei := vals_bl rv
  have hlt : p < s.heap.objs.size := Heap.lt_size e
  refine call_all_walk (wpAny_pyIter_list (items := its.toArray) ⟨_, e, rfl, n, rfl⟩ ?_)
  refine ⟨s.heap.objs.size, _, _, its.toArray.size, _, _, fun i => bs.getD i false, rfl, Walks.list (by first | exact I.ok.hd hc | (show X.A.handled = none; exact I.ok.hd hc)) _ p (Nat.ne_of_lt hlt) its.toArray, ⟨⟨_, Heap.get?_push_size _ rfl, rfl, rfl⟩, ⟨_, Heap.get?_push_of_some _ e, rfl, n, rfl⟩⟩, fun i v s' Q' E' hv hq => ?_, fun h' tk hk => ?_⟩
  · have hv' : its[i]? = some v := by simpa using hv
    rw [ei, List.getElem?_map] at hv'
    cases eb : bs[i]? with
    | none => rw [eb] at hv'; cases hv'
    | some b =>
      rw [eb] at hv'
      cases hv'
      have : bs.getD i false = b := by rw [List.getD_eq_getElem?_getD, eb]; rfl
      have hq' : Q' b s' := by rw [← this]; exact hq
      exact wpAny_truthy_bool hq'
  · have hl : its.toArray.size = bs.length := by rw [List.size_toArray, ei, List.length_map]
    rw [hl, all_range]
    exact ⟨.bl _, H, I.kept (fun b o z => hk b o (fun hm => by
      have : b = s.heap.objs.size := by simpa using hm
      subst this
      exact absurd (Heap.lt_size z) (Nat.lt_irrefl _)) (Heap.get?_push_of_some _ z)), rfl, q⟩
theorem allB_of : ∀ {ds : List D} {b : Bool}, allB ds = some b → ∃ bs : List Bool, ds = bs.map D.bl ∧ bs.all id = b
  | [], _, e => by cases e; exact ⟨[], rfl, rfl⟩
  | .bl c :: r, b, e => by
    obtain ⟨k, q, e⟩ := mpd e
    obtain ⟨bs, h1, h2⟩ := allB_of q
    exact ⟨c :: bs, by rw [h1]; rfl, by rw [List.all_cons, h2]; exact e⟩
  | .non :: _, _, e => by cases e
  | .int _ :: _, _, e => by cases e
  | .str _ :: _, _, e => by cases e
  | .lst _ :: _, _, e => by cases e
  | .tup _ :: _, _, e => by cases e
  | .scr _ :: _, _, e => by cases e
  | .exc _ :: _, _, e => by cases e
  | .dic _ _ :: _, _, e => by cases e
theorem reps_bl {K : PySem.W.Frag} {H : Hp} : ∀ {bs : List Bool} {vs : List V}, Reps K H (bs.map D.bl) vs → vs = bs.map V.bl
  | [], _, h => h
  | n :: r, _, ⟨v, vs, h1, h2, h3⟩ => by
    have := reps_bl h3
    have e : v = .bl n := h2
    rw [h1, this, e]; rfl
theorem cd_all {K : PySem.W.Frag} : CallD K rAll bAll := by
  intro G H ds vs d Q s e hv k
  match ds, e with
  | [.lst ds], e =>
    obtain ⟨b, q, e⟩ := mpd e
    subst e
    obtain ⟨bs, rfl, rfl⟩ := allB_of q
    obtain ⟨v, rfl, h⟩ := hv.one
    obtain ⟨p, us, rfl, h1, h2⟩ := h.lst s
    exact ⟨p, bs, rfl, by rw [h1, reps_bl h2], k _ G H (Ext.refl s) rfl⟩
end
inductive Ty where
  | non | bl | int | str | lst | tup | dic
def Ty.n : Ty → String
  | .non => "NoneType"
  | .bl => "bool"
  | .int => "int"
  | .str => "str"
  | .lst => "list"
  | .tup => "tuple"
  | .dic => "dict"
def tyD : D → Ty
  | .non => .non
  | .bl _ => .bl
  | .int _ => .int
  | .str _ => .str
  | .lst _ => .lst
  | .tup _ => .tup
  | .scr _ => .lst
  | .exc _ => .non
  | .dic _ _ => .non
def subT : Ty → Ty → Bool
  | .non, .non => true
  | .bl, .bl => true
  | .bl, .int => true
  | .int, .int => true
  | .str, .str => true
  | .lst, .lst => true
  | .tup, .tup => true
  | _, _ => false
def fIsi (c : Ty) (f : FD) : FE := fun ω => (f ω).bind fun d => match d with
  | .scr _ => none
  | .exc _ => none
  | .dic _ _ => none
  | d => some (.sh (.bl (subT (tyD d) c)))
def IsT (K : PySem.W.Frag) (c : Ty) : Prop := ∀ t : Ty, t ≠ .dic → PySem.W.kitOne K (.type t.n) (.type c.n) = some (subT t c)
def rIsi (K : PySem.W.Frag) : List V → Hp → VK → Prop := fun xs H Q => ∃ x c T b, xs = [x, .ty c] ∧ TyOf K H x (.type T) ∧ PySem.W.kitOne K (.type T) (.type c) = some b ∧ Q (.bl b) H
section
variable {X : Cx} {a : Expr} {f : FD}
theorem call_isi : CallR X (.builtin "isinstance") (rIsi X.K) := by
  intro pins s σ H xs us Q I r h
  obtain ⟨x, c, T, b, rfl, ty, e, q⟩ := h
  obtain ⟨u1, u2, rfl, r2, r3⟩ := vals2 r
  cases (show u2 = Value.type c from r3)
  exact isinst_ok I r2 ty e fun tk => ⟨.bl b, H, I.tok tk, rfl, q⟩
theorem tyOf_vw {K : PySem.W.Frag} {G H : Hp} {d : D} {v : V} (h : Vw K G H d v) (s : Same G H) (n : ∀ ns, d ≠ .scr ns) (n' : ∀ c, d ≠ .exc c) (n'' : ∀ ks ds, d ≠ .dic ks ds) : TyOf K H v (.type (tyD d).n) := by
  cases d with
  | non => cases h.non; exact .non
  | bl b => cases h.bl; exact .bl b
  | int i => cases h.int; exact .int i
  | str x => cases h.str; exact .str x
  | lst ds => obtain ⟨p, us, rfl, h1, _⟩ := h.lst s; exact .lst h1
  | tup ds => obtain ⟨p, us, rfl, h1, _⟩ := h.tup; exact .tup (s _ _ h1)
  | scr ns => exact absurd rfl (n ns)
  | exc c => exact absurd rfl (n' c)
  | dic ks ds => exact absurd rfl (n'' ks ds)
theorem tyD_in (d : D) : tyD d ≠ .dic := by cases d <;> exact fun z => nomatch z
theorem xe_isi {c : Ty} {x : Str} {p q pos : Pos} (ha : XV X a f) (hk : IsT X.K c) (hg : Gl X "isinstance") (hm : X.mg "isinstance" = none) (hgc : Gl X x) (hmc : X.mg x = none) (hvc : bootBuiltins x = some (.type c.n)) (hnx : x ≠ "__name__" := by decide) (hdx : (x == ("__debug__" : Str)) = false := by decide)
    (he : starEach [a, .Name x q] X.env = (false, eval a X.env) :: starEach [.Name x q] X.env := by rfl) (he2 : starEach [.Name x q] X.env = (false, eval (.Name x q) X.env) :: starEach [] X.env := by rfl) (hpl : (backTo pos (starEach [.Name x q] X.env)).any (·.1) = false := by rfl) :
    XE X (.Call (.Name "isinstance" p) [a, .Name x q] [] pos) (fIsi c f) := by
  obtain ⟨t, h1, h2⟩ := ha
  refine ⟨_, pe_callB call_isi hg hm PyProof.Rows.boot_isinstance (pa_cons h1 (pa_cons (pe_bltn hgc hmc hvc (v := .ty c.n) rfl hnx hdx) pa_nil he2) he) (by decide) (by decide) he hpl, fun G0 H0 G ω σ H r Q o e k => ?_⟩
  obtain ⟨d, q, e⟩ := bnd e
  refine h2 G0 H0 G ω σ H d _ o q fun v G1 H1 x1 y1 => ?_
  have n : ∀ ns, d ≠ .scr ns := fun ns z => by subst z; cases e
  have n' : ∀ c, d ≠ .exc c := fun ns z => by subst z; cases e
  have n'' : ∀ ks ds, d ≠ .dic ks ds := fun ks ds z => by subst z; cases e
  have e' : r = .sh (.bl (subT (tyD d) c)) := by
    cases d <;> first | (cases e; rfl) | cases e
  subst e'
  exact ⟨v, c.n, (tyD d).n, subT (tyD d) c, rfl, tyOf_vw y1 x1.gh n n' n'', hk _ (tyD_in d), k _ G1 H1 x1 rfl⟩
end
end Hk
set_option maxRecDepth 100000
namespace Hk
open PySem L2
inductive Out where
  | nx | bk | ct | rt (r : O)
abbrev FS := WSt → Option (Out × WSt)
def Post (K : PySem.W.Frag) (H0 G' : Hp) (E : Ends) : Out → St → Hp → Prop
  | .nx, σ, H => E.nx σ H
  | .bk, σ, H => E.bk σ H
  | .ct, σ, H => E.ct σ H
  | .rt r, _, H => ∀ v, RepR K H0 G' H r.r v → E.rt v H
def SimS (K : PySem.W.Frag) (t : TS) (f : FS) : Prop := ∀ G0 H0 G ω σ H out ω' (E : Ends), Own K G0 H0 G ω σ H → f ω = some (out, ω') →
  (∀ G' σ' H', Own K G0 H0 G' ω' σ' H' → Same G G' → Post K H0.hp G' E out σ' H') → t E σ H
def XS (X : Cx) (st : Stmt) (f : FS) : Prop := ∃ t, PS X st t ∧ SimS X.K t f
def XSs (X : Cx) (st : List Stmt) (f : FS) : Prop := ∃ t, PSs X st t ∧ SimS X.K t f
def sNil : FS := fun ω => some (.nx, ω)
def sSeq (f g : FS) : FS := fun ω => (f ω).bind fun p => match p.1 with
  | .nx => g p.2
  | o => some (o, p.2)
section
variable {X : Cx} {st : Stmt} {rest : List Stmt} {f g : FS}
theorem xss_nil : XSs X [] sNil := ⟨_, pss_nil, fun G0 H0 G ω σ H out ω' E o e k => by cases e; exact k G σ H o (Same.refl _)⟩
theorem xss_one (h : XS X st f) : XSs X [st] f := let ⟨t, h1, h2⟩ := h; ⟨t, pss_one h1, h2⟩
theorem xss_cons (h : XS X st f) (h' : XSs X rest g) : XSs X (st :: rest) (sSeq f g) := by
  obtain ⟨t, h1, h2⟩ := h
  obtain ⟨u, h3, h4⟩ := h'
  refine ⟨_, pss_cons h1 h3, fun G0 H0 G ω σ H out ω' E o e k => ?_⟩
  obtain ⟨⟨o1, ω1⟩, q, e⟩ := bnd e
  refine h2 G0 H0 G ω σ H o1 ω1 _ o q fun G1 σ1 H1 w1 g1 => ?_
  cases o1 with
  | nx => exact h4 G0 H0 G1 ω1 σ1 H1 out ω' E w1 e fun G2 σ2 H2 w2 g2 => k G2 σ2 H2 w2 (g1.trans g2)
  | bk => cases e; exact k G1 σ1 H1 w1 g1
  | ct => cases e; exact k G1 σ1 H1 w1 g1
  | rt r => cases e; exact k G1 σ1 H1 w1 g1
end
section
variable {K : PySem.W.Frag} {G0 : Hp} {H0 : Fr} {G : Hp} {ω : WSt} {σ : St} {H : Hp}
theorem get_set {α : Type} {l : List α} {i j : Nat} {x y : α} (h : (l.set i x)[j]? = some y) : (i = j ∧ i < l.length ∧ y = x) ∨ (i ≠ j ∧ l[j]? = some y) := by
  rw [List.getElem?_set] at h
  by_cases e : i = j
  · rw [if_pos e] at h
    by_cases z : i < l.length
    · rw [if_pos z] at h; exact .inl ⟨e, z, (Option.some.inj h).symm⟩
    · rw [if_neg z] at h; cases h
  · rw [if_neg e] at h; exact .inr ⟨e, h⟩
theorem set_self {α : Type} {l : List α} {i : Nat} {x : α} (h : i < l.length) : (l.set i x)[i]? = some x := List.getElem?_set_self h
theorem PwOk.set {i : Nat} {w : Option W} {v : Option V} (o : PwOk K H0 G ω σ H) (hw : ∀ ds, w ≠ some (.pw ds)) (hv : ∀ ds, w = some (.ow ds) → ∀ (j : Nat) es, ω[j]? = some (some (.pw es)) → v ≠ some (.ref (H0.pin j))) : PwOk K H0 G (ω.set i w) (σ.set i v) H := by
  intro j ds hj
  rcases get_set hj with ⟨rfl, hl, z⟩ | ⟨ne, z⟩
  · exact absurd z.symm (hw ds)
  · obtain ⟨vs, h1, h2, h3, h4, h5, h6, h7⟩ := o j ds z
    refine ⟨vs, by rw [List.getElem?_set_ne ne]; exact h1, h2, h3, h4, h5, fun k es hk => ?_, fun k es hk sk => ?_⟩
    · rcases get_set hk with ⟨rfl, hl', z'⟩ | ⟨ne', z'⟩
      · exact absurd z'.symm (hw es)
      · exact h6 k es z'
    · rcases get_set hk with ⟨rfl, hl', z'⟩ | ⟨ne', z'⟩
      · rcases get_set sk with ⟨_, _, e⟩ | ⟨ne2, _⟩
        · exact hv es z'.symm j ds z e.symm
        · exact ne2 rfl
      · rw [List.getElem?_set_ne ne'] at sk; exact h7 k es z' sk
theorem PwOk.setW {i : Nat} {w : Option W} (o : PwOk K H0 G ω σ H) (hw : ∀ ds, w ≠ some (.pw ds)) (ho : ∀ ds, w ≠ some (.ow ds)) : PwOk K H0 G (ω.set i w) σ H := by
  intro j ds hj
  rcases get_set hj with ⟨rfl, hl, z⟩ | ⟨ne, z⟩
  · exact absurd z.symm (hw ds)
  · obtain ⟨vs, h1, h2, h3, h4, h5, h6, h7⟩ := o j ds z
    refine ⟨vs, h1, h2, h3, h4, h5, fun k es hk => ?_, fun k es hk => ?_⟩
    · rcases get_set hk with ⟨rfl, hl', z'⟩ | ⟨ne', z'⟩
      · exact absurd z'.symm (hw es)
      · exact h6 k es z'
    · rcases get_set hk with ⟨rfl, hl', z'⟩ | ⟨ne', z'⟩
      · exact absurd z'.symm (ho es)
      · exact h7 k es z'
theorem PwOk.upd {p : Addr} {ob : HO} (o : PwOk K H0 G ω σ H) (hp : ∀ (j : Nat) es, ω[j]? = some (some (.pw es)) → H0.pin j ≠ p) : PwOk K H0 G ω σ (upd H p ob) := by
  intro j ds hj
  obtain ⟨vs, h1, h2, h3⟩ := o j ds hj
  exact ⟨vs, h1, by rw [upd_ne (hp j ds hj)]; exact h2, h3⟩
theorem PwOk.grow {p : Addr} {ob : HO} (o : PwOk K H0 G ω σ H) (g : G p = none) (hp : ∀ (j : Nat) es, ω[j]? = some (some (.pw es)) → H0.pin j ≠ p) : PwOk K H0 (L2.upd G p ob) ω σ H := by
  intro j ds hj
  obtain ⟨vs, h1, h2, h3, h4, h5, h6⟩ := o j ds hj
  exact ⟨vs, h1, h2, by rw [upd_ne (hp j ds hj)]; exact h3, h4, h5.mono (same_upd g _), h6⟩
theorem PwOk.ne_ow {i : Nat} {ds : List D} {l : Addr} (o : PwOk K H0 G ω σ H) (hi : ω[i]? = some (some (.ow ds))) (hσ : σ[i]? = some (some (.ref l))) : ∀ (j : Nat) es, ω[j]? = some (some (.pw es)) → H0.pin j ≠ l := fun j es hj y => by
  obtain ⟨_, _, _, _, _, _, _, h7⟩ := o j es hj
  exact h7 i ds hi (by rw [y]; exact hσ)
theorem PwOk.ne_ob {l : Addr} (o : PwOk K H0 G ω σ H) (h : ∀ vs, H l ≠ some (.lst vs)) : ∀ (j : Nat) es, ω[j]? = some (some (.pw es)) → H0.pin j ≠ l := fun j es hj y => by
  obtain ⟨vs, _, h2, _⟩ := o j es hj
  exact h vs (by rw [← y]; exact h2)
theorem PwOk.setL {i : Nat} {ds es : List D} (o : PwOk K H0 G ω σ H) (hi : ω[i]? = some (some (.ow ds))) : PwOk K H0 G (ω.set i (some (.ow es))) σ H := by
  intro j ds' hj
  rcases get_set hj with ⟨rfl, hl, z⟩ | ⟨ne, z⟩
  · cases z
  · obtain ⟨vs, h1, h2, h3, h4, h5, h6, h7⟩ := o j ds' z
    refine ⟨vs, h1, h2, h3, h4, h5, fun k es hk => ?_, fun k es hk => ?_⟩
    · rcases get_set hk with ⟨rfl, hl', z'⟩ | ⟨ne', z'⟩
      · cases z'
      · exact h6 k es z'
    · rcases get_set hk with ⟨rfl, hl', z'⟩ | ⟨ne', z'⟩
      · exact h7 i ds hi
      · exact h7 k es z'
theorem Own.od_set {i : Nat} {w : Option W} {v : Option V} (o : Own K G0 H0 G ω σ H) (h : ∀ ks ds, w ≠ some (.od ks ds)) : ∀ (j : Nat) ks ds, (ω.set i w)[j]? = some (some (.od ks ds)) → ∃ p vs, (σ.set i v)[j]? = some (some (.ref p)) ∧ H p = some (.dK (kvsOf ks vs)) ∧ G p = none ∧ H0 p = none ∧ ks.length = ds.length ∧ Reps K G ds vs ∧
    ∀ (k : Nat) ks' es, (ω.set i w)[k]? = some (some (.od ks' es)) → (σ.set i v)[k]? = some (some (.ref p)) → j = k := by
  intro j ks ds hj
  rcases get_set hj with ⟨rfl, hl, z⟩ | ⟨ne, z⟩
  · exact absurd z.symm (h ks ds)
  · obtain ⟨p, vs, h1, h2, h3, h4, h5, h6, h7⟩ := o.od j ks ds z
    refine ⟨p, vs, by rw [List.getElem?_set_ne ne]; exact h1, h2, h3, h4, h5, h6, fun k ks' es hk sk => ?_⟩
    rcases get_set hk with ⟨rfl, hl', z'⟩ | ⟨ne', z'⟩
    · exact absurd z'.symm (h ks' es)
    · rw [List.getElem?_set_ne ne'] at sk
      exact h7 k ks' es z' sk
theorem Own.setSh {i : Nat} {d : D} {v : V} (o : Own K G0 H0 G ω σ H) (h : Rep K G d v) : Own K G0 H0 G (ω.set i (some (.sh d))) (σ.set i (some v)) H := by
  refine ⟨o.ext, by rw [List.length_set, List.length_set, o.len], fun j e hj => ?_, fun j ds hj => ?_, fun j k ds es l hj hk sj sk => ?_, o.od_set (fun _ _ z => by cases z), o.pw.set (fun _ z => by cases z) (fun _ z => by cases z)⟩
  · rcases get_set hj with ⟨rfl, hl, z⟩ | ⟨ne, z⟩
    · cases z; exact ⟨v, set_self (by rw [← o.len]; exact hl), h⟩
    · obtain ⟨u, h1, h2⟩ := o.sh j e z
      exact ⟨u, by rw [List.getElem?_set_ne ne]; exact h1, h2⟩
  · rcases get_set hj with ⟨rfl, hl, z⟩ | ⟨ne, z⟩
    · cases z
    · obtain ⟨l, vs, h1, h2⟩ := o.ow j ds z
      exact ⟨l, vs, by rw [List.getElem?_set_ne ne]; exact h1, h2⟩
  · rcases get_set hj with ⟨rfl, hl, z⟩ | ⟨ne, z⟩
    · cases z
    · rcases get_set hk with ⟨rfl, hl', z'⟩ | ⟨ne', z'⟩
      · cases z'
      · rw [List.getElem?_set_ne ne] at sj
        rw [List.getElem?_set_ne ne'] at sk
        exact o.nd j k ds es l z z' sj sk
theorem Own.setOw {i : Nat} {ds : List D} {l : Addr} {vs : List V} (o : Own K G0 H0 G ω σ H) (h1 : H l = some (.lst vs)) (h2 : G l = none) (h3 : H0 l = none) (h4 : Reps K G ds vs)
    (h5 : ∀ (j : Nat) es, ω[j]? = some (some (.ow es)) → σ[j]? ≠ some (some (.ref l))) (h6 : ∀ (j : Nat) es, ω[j]? = some (some (.pw es)) → H0.pin j ≠ l) : Own K G0 H0 G (ω.set i (some (.ow ds))) (σ.set i (some (.ref l))) H := by
  refine ⟨o.ext, by rw [List.length_set, List.length_set, o.len], fun j e hj => ?_, fun j es hj => ?_, fun j k es fs m hj hk sj sk => ?_, o.od_set (fun _ _ z => by cases z), o.pw.set (fun _ z => by cases z) (fun _ _ j es hj y => h6 j es hj (by cases y; rfl))⟩
  · rcases get_set hj with ⟨rfl, hl, z⟩ | ⟨ne, z⟩
    · cases z
    · obtain ⟨u, q1, q2⟩ := o.sh j e z
      exact ⟨u, by rw [List.getElem?_set_ne ne]; exact q1, q2⟩
  · rcases get_set hj with ⟨rfl, hl, z⟩ | ⟨ne, z⟩
    · cases z; exact ⟨l, vs, set_self (by rw [← o.len]; exact hl), h1, h2, h3, h4⟩
    · obtain ⟨m, us, q1, q2⟩ := o.ow j es z
      exact ⟨m, us, by rw [List.getElem?_set_ne ne]; exact q1, q2⟩
  · rcases get_set hj with ⟨e1, hl, z⟩ | ⟨ne, z⟩
    · rcases get_set hk with ⟨e2, hl', z'⟩ | ⟨ne', z'⟩
      · exact e1.symm.trans e2
      · rw [List.getElem?_set_ne ne'] at sk
        subst e1
        rw [set_self (by rw [← o.len]; exact hl)] at sj
        cases sj
        exact absurd sk (h5 k fs z')
    · rcases get_set hk with ⟨e2, hl', z'⟩ | ⟨ne', z'⟩
      · rw [List.getElem?_set_ne ne] at sj
        subst e2
        rw [set_self (by rw [← o.len]; exact hl')] at sk
        cases sk
        exact absurd sj (h5 j es z)
      · rw [List.getElem?_set_ne ne] at sj
        rw [List.getElem?_set_ne ne'] at sk
        exact o.nd j k es fs m z z' sj sk
theorem Own.mut {i : Nat} {ds es : List D} {l : Addr} {vs us : List V} (o : Own K G0 H0 G ω σ H) (hi : ω[i]? = some (some (.ow ds))) (hσ : σ[i]? = some (some (.ref l))) (h1 : H l = some (.lst vs)) (h2 : G l = none) (h3 : H0 l = none) (h4 : Reps K G es us) :
    Own K G0 H0 G (ω.set i (some (.ow es))) σ (upd H l (.lst us)) := by
  have ho : i < ω.length := (List.getElem?_eq_some_iff.mp hi).1
  refine ⟨⟨o.ext.gg, same_updR o.ext.gh h2 _, same_updR o.ext.hh h3 _, o.ext.new⟩, by rw [List.length_set, o.len], fun j e hj => ?_, fun j fs hj => ?_, fun j k fs gs m hj hk sj sk => ?_, fun j ks fs hj => ?_, (o.pw.upd (o.pw.ne_ow hi hσ)).setL hi⟩
  · rcases get_set hj with ⟨rfl, hl, z⟩ | ⟨ne, z⟩
    · cases z
    · exact o.sh j e z
  · rcases get_set hj with ⟨rfl, hl, z⟩ | ⟨ne, z⟩
    · cases z; exact ⟨l, us, hσ, upd_same, h2, h3, h4⟩
    · obtain ⟨m, ws, q1, q2, q3, q4, q5⟩ := o.ow j fs z
      have hm : m ≠ l := fun y => ne (o.nd i j ds fs l hi z hσ (by rw [← y]; exact q1))
      exact ⟨m, ws, q1, by rw [upd_ne hm]; exact q2, q3, q4, q5⟩
  · rcases get_set hj with ⟨e1, hl, z⟩ | ⟨ne, z⟩
    · rcases get_set hk with ⟨e2, hl', z'⟩ | ⟨ne', z'⟩
      · exact e1.symm.trans e2
      · subst e1; exact o.nd i k ds gs m hi z' sj sk
    · rcases get_set hk with ⟨e2, hl', z'⟩ | ⟨ne', z'⟩
      · subst e2; exact o.nd j i fs ds m z hi sj sk
      · exact o.nd j k fs gs m z z' sj sk
  · rcases get_set hj with ⟨e1, hl, z⟩ | ⟨ne, z⟩
    · cases z
    · obtain ⟨p, ws, q1, q2, q3, q4, q5, q6, q7⟩ := o.od j ks fs z
      have hp : p ≠ l := fun y => by rw [y, h1] at q2; cases q2
      refine ⟨p, ws, q1, by rw [upd_ne hp]; exact q2, q3, q4, q5, q6, fun k ks' es hk sk => ?_⟩
      rcases get_set hk with ⟨e2, hl', z'⟩ | ⟨ne', z'⟩
      · cases z'
      · exact q7 k ks' es z' sk
def share (i : Nat) (ω : WSt) : WSt := match ω[i]? with
  | some (some (.ow ds)) => ω.set i (some (.sh (.lst ds)))
  | some (some (.od ks ds)) => ω.set i (some (.sh (.dic ks ds)))
  | _ => ω
theorem Own.share (i : Nat) (o : Own K G0 H0 G ω σ H) : (∃ G', Same G G' ∧ Own K G0 H0 G' (share i ω) σ H) ∨ ∃ p kvs, σ[i]? = some (some (.ref p)) ∧ H p = some (.dK kvs) ∧ ∀ ob, ∃ G', Same G G' ∧ Own K G0 H0 G' (share i ω) σ (upd H p (.frz ob (.dK kvs))) := by
  unfold Hk.share
  cases q : ω[i]? with
  | none => exact .inl ⟨G, Same.refl _, o⟩
  | some w =>
    cases w with
    | none => exact .inl ⟨G, Same.refl _, o⟩
    | some w =>
      cases w with
      | sh d => exact .inl ⟨G, Same.refl _, o⟩
      | pw ds => exact .inl ⟨G, Same.refl _, o⟩
      | ow ds =>
        obtain ⟨l, vs, q1, q2, q3, q4, q5⟩ := o.ow i ds q
        have s1 : Same G (upd G l (.lst vs)) := same_upd q3 _
        have ho : i < ω.length := (List.getElem?_eq_some_iff.mp q).1
        refine .inl ⟨upd G l (.lst vs), s1, ⟨o.ext.gg.trans s1, fun b u z => ?_, o.ext.hh, fun b z1 z2 => ?_⟩, by rw [List.length_set, o.len], fun j e hj => ?_, fun j fs hj => ?_, fun j k fs gs m hj hk sj sk => ?_, fun j ks fs hj => ?_, (o.pw.grow q3 (o.pw.ne_ow q q1)).setW (fun _ z => by cases z) (fun _ z => by cases z)⟩
        · by_cases hb : b = l
          · subst hb; rw [upd_same] at z; rw [q2]; exact z
          · rw [upd_ne hb] at z; exact o.ext.gh b u z
        · rw [upd_ne (fun hb => z2 (by rw [hb]; exact q4))]; exact o.ext.new b z1 z2
        · rcases get_set hj with ⟨rfl, hl, z⟩ | ⟨ne, z⟩
          · cases z; exact ⟨_, q1, l, vs, rfl, upd_same, q5.mono s1⟩
          · obtain ⟨u, r1, r2⟩ := o.sh j e z
            exact ⟨u, r1, r2.mono s1⟩
        · rcases get_set hj with ⟨rfl, hl, z⟩ | ⟨ne, z⟩
          · cases z
          · obtain ⟨m, ws, r1, r2, r3, r4, r5⟩ := o.ow j fs z
            have hm : m ≠ l := fun y => ne (o.nd i j ds fs l q z q1 (by rw [← y]; exact r1))
            exact ⟨m, ws, r1, r2, by rw [upd_ne hm]; exact r3, r4, r5.mono s1⟩
        · rcases get_set hj with ⟨e1, hl, z⟩ | ⟨ne, z⟩
          · cases z
          · rcases get_set hk with ⟨e2, hl', z'⟩ | ⟨ne', z'⟩
            · cases z'
            · exact o.nd j k fs gs m z z' sj sk
        · rcases get_set hj with ⟨e1, hl, z⟩ | ⟨ne, z⟩
          · cases z
          · obtain ⟨m, ws, r1, r2, r3, r4, r5, r6, r7⟩ := o.od j ks fs z
            have hm : m ≠ l := fun y => by rw [y, q2] at r2; cases r2
            refine ⟨m, ws, r1, r2, by rw [upd_ne hm]; exact r3, r4, r5, r6.mono s1, fun k ks' es hk sk => ?_⟩
            rcases get_set hk with ⟨e2, hl', z'⟩ | ⟨ne', z'⟩
            · cases z'
            · exact r7 k ks' es z' sk
      | od ks0 ds =>
        obtain ⟨l, vs, q1, q2, q3, q4, q6, q5, q7⟩ := o.od i ks0 ds q
        refine .inr ⟨l, _, q1, q2, fun ob => ?_⟩
        have s1 : Same G (upd G l (.frz ob (.dK (kvsOf ks0 vs)))) := same_upd q3 _
        have ho : i < ω.length := (List.getElem?_eq_some_iff.mp q).1
        refine ⟨upd G l (.frz ob (.dK (kvsOf ks0 vs))), s1, ⟨o.ext.gg.trans s1, same_upd2 o.ext.gh _, same_updR o.ext.hh q4 _, fun b z1 z2 => ?_⟩, by rw [List.length_set, o.len], fun j e hj => ?_, fun j fs hj => ?_, fun j k fs gs m hj hk sj sk => ?_, fun j ks fs hj => ?_, ((o.pw.upd (o.pw.ne_ob fun vs z => by rw [q2] at z; cases z)).grow q3 (o.pw.ne_ob fun vs z => by rw [q2] at z; cases z)).setW (fun _ z => by cases z) (fun _ z => by cases z)⟩
        · rw [upd_ne (fun hb => z2 (by rw [hb]; exact q4))]; exact o.ext.new b z1 z2
        · rcases get_set hj with ⟨rfl, hl, z⟩ | ⟨ne, z⟩
          · cases z; exact ⟨_, q1, l, vs, rfl, ⟨ob, upd_same⟩, q6, q5.mono s1⟩
          · obtain ⟨u, r1, r2⟩ := o.sh j e z
            exact ⟨u, r1, r2.mono s1⟩
        · rcases get_set hj with ⟨rfl, hl, z⟩ | ⟨ne, z⟩
          · cases z
          · obtain ⟨m, ws, r1, r2, r3, r4, r5⟩ := o.ow j fs z
            have hm : m ≠ l := fun y => by rw [y, q2] at r2; cases r2
            exact ⟨m, ws, r1, by rw [upd_ne hm]; exact r2, by rw [upd_ne hm]; exact r3, r4, r5.mono s1⟩
        · rcases get_set hj with ⟨e1, hl, z⟩ | ⟨ne, z⟩
          · cases z
          · rcases get_set hk with ⟨e2, hl', z'⟩ | ⟨ne', z'⟩
            · cases z'
            · exact o.nd j k fs gs m z z' sj sk
        · rcases get_set hj with ⟨e1, hl, z⟩ | ⟨ne, z⟩
          · cases z
          · obtain ⟨m, ws, r1, r2, r3, r4, r5, r6, r7⟩ := o.od j ks fs z
            have hm : m ≠ l := fun y => ne (q7 j ks fs z (by rw [← y]; exact r1))
            refine ⟨m, ws, r1, by rw [upd_ne hm]; exact r2, by rw [upd_ne hm]; exact r3, r4, r5, r6.mono s1, fun k ks' es hk sk => ?_⟩
            rcases get_set hk with ⟨e2, hl', z'⟩ | ⟨ne', z'⟩
            · cases z'
            · exact r7 k ks' es z' sk
end
theorem Inv.freeze {X : Cx} {pins : List (Addr × Obj)} {σ : St} {H : Hp} {s : Shared} {p : Addr} {kvs : List (Key × V)} (I : Inv X pins σ H s) (hp : H p = some (.dK kvs)) : ∃ ob, Inv X pins σ (upd H p (.frz ob (.dK kvs))) s := by
  have ok := I.hok p _ hp
  obtain ⟨_, _, _, _, ob, _, _, e, _⟩ := id ok
  have stay : ∀ b u, ObjOk X.prog X.w H s.heap b u → ObjOk X.prog X.w (upd H p (.frz ob (.dK kvs))) s.heap b u := fun b u x =>
    x.stay (fun _ _ _ q => q) (fun c q => by rw [upd_ne (fun z => by rw [z, hp] at q; cases q)]; exact q) fun c xs q => by rw [upd_ne (fun z => by rw [z, hp] at q; cases q)]; exact q
  refine ⟨ob, I.step (H' := upd H p (.frz ob (.dK kvs))) (h' := s.heap) (g' := s.gens) (d' := s.drawn) (t' := s.toks) (ch := []) (fun _ z => nomatch z) (fun _ _ _ _ _ e _ => e) (fun _ o _ _ _ e _ => ⟨o.slots, e⟩) (fun b o _ _ n => by rw [upd_ne (fun z => by rw [z, hp] at n; cases n)]; exact n) (fun _ o _ e => ⟨o, e⟩)
    (fun b xs q => by rw [upd_ne (fun z => by rw [z, hp] at q; cases q)]; exact q) (fun b o u q => by rw [upd_ne (fun z => by rw [z, hp] at q; cases q)]; exact q) (fun b ps q => ⟨#[], by rw [upd_ne (fun z => by rw [z, hp] at q; cases q), q]; simp⟩) (fun _ hm => hm) (fun b u q => ?_) I.bare⟩
  by_cases z : b = p
  · subst z
    rw [upd_same] at q
    cases q
    exact ⟨e, stay _ _ ok⟩
  · rw [upd_ne z] at q
    exact stay b u (I.hok b u q)
theorem pss_freeze {X : Cx} {sts : List Stmt} {t : TS} (i : Nat) (h : PSs X sts t) : PSs X sts (fun D σ H => ∃ p kvs, σ[i]? = some (some (.ref p)) ∧ H p = some (.dK kvs) ∧ ∀ ob, t D σ (upd H p (.frz ob (.dK kvs)))) := by
  intro pins s σ H D I q
  obtain ⟨p, kvs, _, hp, q⟩ := q
  obtain ⟨ob, I'⟩ := Inv.freeze I hp
  exact h pins s σ _ D I' (q ob)
def sShare (i : Nat) (f : FS) : FS := fun ω => f (share i ω)
theorem xss_share {X : Cx} {sts : List Stmt} {f : FS} (i : Nat) (h : XSs X sts f) : XSs X sts (sShare i f) := by
  obtain ⟨t, h1, h2⟩ := h
  refine ⟨fun D σ H => t D σ H ∨ ∃ p kvs, σ[i]? = some (some (.ref p)) ∧ H p = some (.dK kvs) ∧ ∀ ob, t D σ (upd H p (.frz ob (.dK kvs))), fun pins s σ H D I q => ?_, fun G0 H0 G ω σ H out ω' E o e k => ?_⟩
  · rcases q with q | q
    · exact h1 pins s σ H D I q
    · exact pss_freeze i h1 pins s σ H D I q
  · rcases o.share i with ⟨G1, g1, o1⟩ | ⟨p, kvs, z1, z2, z3⟩
    · exact .inl (h2 G0 H0 G1 _ σ H out ω' E o1 e fun G2 σ2 H2 w2 g2 => k G2 σ2 H2 w2 (g1.trans g2))
    · refine .inr ⟨p, kvs, z1, z2, fun ob => ?_⟩
      obtain ⟨G1, g1, o1⟩ := z3 ob
      exact h2 G0 H0 G1 _ σ _ out ω' E o1 e fun G2 σ2 H2 w2 g2 => k G2 σ2 H2 w2 (g1.trans g2)
def setR (i : Nat) (r : R) (ω : WSt) : Option WSt := match r with
  | .sh d => some (ω.set i (some (.sh d)))
  | .fr ds => some (ω.set i (some (.ow ds)))
  | .vw _ => none
def sSet (i : Nat) (f : FE) : FS := fun ω => (f ω).bind fun r => (setR i r ω).map fun w => (.nx, w)
section
variable {X : Cx} {e : Expr} {f : FE} {pos pos' : Pos}
theorem sim_set {i : Nat} {t : TE} (h : SimE X.K t f) : SimS X.K (tAsg t (gName i)) (sSet i f) := by
  intro G0 H0 G ω σ H out ω' E o e k
  obtain ⟨r, q, e⟩ := bnd e
  obtain ⟨w, q2, e⟩ := mpd e
  cases e
  refine h G0 H0 G ω σ H r _ o q fun v G1 H1 x1 y1 => ?_
  have o1 := o.keep x1
  show E.nx (σ.set i (some v)) H1
  cases r with
  | sh d => cases q2; exact k G1 _ H1 (o1.setSh y1) x1.gg
  | fr ds =>
    cases q2
    obtain ⟨l, vs, rfl, e2, e3, e4, e5⟩ := y1
    refine k G1 _ H1 (o1.setOw e4 e3 (o.ext.hh.free e2) e5 (fun j es hj z => ?_) fun j es hj y => ?_) x1.gg
    · obtain ⟨m, us, q1, q2, _⟩ := o.ow j es hj
      rw [q1] at z
      cases z
      rw [e2] at q2
      cases q2
    · obtain ⟨us, _, q2, _⟩ := o.pw j es hj
      rw [y, e2] at q2
      cases q2
  | vw ds => cases q2
theorem xs_set {i : Nat} {x : Str} (hN : X.N.Nodup) (hi : X.N[i]? = some x) (hx : Loc X.env.scope x) (he : XE X e f) (hs : swapsWith e (some (.Name x pos')) pos.line X.env = pure false := by rfl) (hf : X.fn x = true ∨ X.env.scope.names.lookup x = some .local := by first | exact .inl rfl | exact .inr rfl | assumption) :
    XS X (.Assign [.Name x pos'] e pos) (sSet i f) := let ⟨_, h1, h2⟩ := he; ⟨_, ps_set hN hi hx h1 hs hf, sim_set h2⟩
abbrev FG := D → WSt → Option WSt
def SimG (K : PySem.W.Frag) (g : TG) (fg : FG) : Prop := ∀ G0 H0 G ω σ H d v ω' (Q : St → Hp → Prop), Own K G0 H0 G ω σ H → fg d ω = some ω' → Rep K G d v → (∀ σ', Own K G0 H0 G ω' σ' H → Q σ' H) → g v σ H Q
def XG (X : Cx) (tg : Expr) (fg : FG) : Prop := ∃ g, PG X tg g ∧ SimG X.K g fg
def gN (i : Nat) : FG := fun d ω => some (ω.set i (some (.sh d)))
theorem xg_name {i : Nat} {x : Str} (hN : X.N.Nodup) (hi : X.N[i]? = some x) (hx : Loc X.env.scope x) (hf : X.fn x = true ∨ X.env.scope.names.lookup x = some .local := by first | exact .inl rfl | exact .inr rfl | assumption) : XG X (.Name x pos) (gN i) :=
  ⟨_, pg_name hN hi hx hf, fun G0 H0 G ω σ H d v ω' Q o e h k => by cases e; exact k _ (o.setSh h)⟩
def SimGs (K : PySem.W.Frag) (g : TGs) (fg : List D → WSt → Option WSt) : Prop := ∀ G0 H0 G ω σ H ds vs ω' (Q : St → Hp → Prop), Own K G0 H0 G ω σ H → fg ds ω = some ω' → Reps K G ds vs → (∀ σ', Own K G0 H0 G ω' σ' H → Q σ' H) → g vs σ H Q
def XGs (X : Cx) (tg : List Expr) (fg : List D → WSt → Option WSt) : Prop := ∃ g, PGs X tg g ∧ SimGs X.K g fg
def gsNil : List D → WSt → Option WSt
  | [], ω => some ω
  | _, _ => none
def gsCons (f : FG) (g : List D → WSt → Option WSt) : List D → WSt → Option WSt
  | d :: ds, ω => (f d ω).bind fun w => g ds w
  | [], _ => none
theorem xgs_nil : XGs X [] gsNil := ⟨_, pgs_nil, fun G0 H0 G ω σ H ds vs ω' Q o e h k => by
  cases ds with
  | nil => cases e; cases (show vs = [] from h); exact ⟨rfl, k σ o⟩
  | cons d r => cases e⟩
theorem xgs_cons {es : List Expr} {fg : FG} {gs : List D → WSt → Option WSt} (h : XG X e fg) (h' : XGs X es gs) (hs : (assignEach (e :: es) X.env).map (·.2) = assign e X.env :: (assignEach es X.env).map (·.2) := by rfl) : XGs X (e :: es) (gsCons fg gs) := by
  obtain ⟨g, h1, h2⟩ := h
  obtain ⟨u, h3, h4⟩ := h'
  refine ⟨_, pgs_cons h1 h3 hs, fun G0 H0 G ω σ H ds vs ω' Q o e h k => ?_⟩
  cases ds with
  | nil => cases e
  | cons d r =>
    obtain ⟨w1, q, e1⟩ := bnd e
    obtain ⟨v, vr, rfl, r1, r2⟩ := h
    exact ⟨v, vr, rfl, h2 G0 H0 G ω σ H d v w1 _ o q r1 fun σ1 o1 => h4 G0 H0 G w1 σ1 H r vr ω' Q o1 e1 r2 k⟩
def gT (n : Nat) (g : List D → WSt → Option WSt) : FG := fun d ω => match d with
  | .tup ds => if ds.length = n then g ds ω else none
  | _ => none
theorem xg_tup {es : List Expr} {k n : Nat} {gs : List D → WSt → Option WSt} (hc : X.calm = true) (h : XGs X es gs) (hn : (assignEach es X.env).length = n := by rfl) (hst : (assignEach es X.env).findIdx? (·.1) = none := by rfl) : XG X (.Tuple es k pos) (gT n gs) := by
  obtain ⟨g, h1, h2⟩ := h
  refine ⟨_, pg_tup hc h1 hn hst, fun G0 H0 G ω σ H d v ω' Q o e h k => ?_⟩
  unfold gT at e
  cases d with
  | tup ds =>
    dsimp only at e
    obtain ⟨a, vs, rfl, r1, r2⟩ := h
    by_cases z : ds.length = n
    · rw [if_pos z] at e
      exact ⟨a, vs, rfl, SqT.of (o.gh _ _ r1), by rw [← r2.len]; exact z, h2 G0 H0 G ω σ H ds vs ω' Q o e r2 k⟩
    · rw [if_neg z] at e; cases e
  | _ => cases e
def sAsg (f : FD) (g : FG) : FS := fun ω => (f ω).bind fun d => (g d ω).map fun w => (.nx, w)
end
def sIf (c : FT) (f g : FS) : FS := fun ω => (c ω).bind fun b => if b = true then f ω else g ω
def sRet (f : FE) : FS := fun ω => (f ω).bind fun r => match r with
  | .sh d => some (.rt (.sh d), ω)
  | .fr ds => some (.rt (.fr ds), ω)
  | .vw _ => none
def sRetV (i : Nat) : FS := fun ω => match ω[i]? with
  | some (some (.sh d)) => some (.rt (.sh d), ω)
  | some (some (.ow ds)) => some (.rt (.fr ds), ω)
  | _ => none
def sRetN : FS := fun ω => some (.rt (.sh .non), ω)
def sNo : FS := fun _ => none
def sDrop (f : FE) : FS := fun ω => (f ω).map fun _ => (.nx, ω)
section
variable {X : Cx} {c e : Expr} {a b : List Stmt} {st : Stmt} {pos : Pos} {fc : FT} {f g : FS} {fe : FE}
theorem xs_if (hc : XT X c fc) (ha : XSs X a f) (hb : XSs X b g) : XS X (.If c a b pos) (sIf fc f g) := by
  obtain ⟨t, h1, h2⟩ := hc
  obtain ⟨u, h3, h4⟩ := ha
  obtain ⟨w, h5, h6⟩ := hb
  refine ⟨_, ps_if h1 h3 h5, fun G0 H0 G ω σ H out ω' E o e k => ?_⟩
  obtain ⟨z, q, e⟩ := bnd e
  refine h2 G0 H0 G ω σ H z _ o q fun G1 H1 x1 => ?_
  cases z with
  | true => rw [if_pos rfl] at e ⊢; exact h4 G0 H0 G1 ω σ H1 out ω' E (o.keep x1) e fun G2 σ2 H2 o2 g2 => k G2 σ2 H2 o2 (x1.gg.trans g2)
  | false => exact h6 G0 H0 G1 ω σ H1 out ω' E (o.keep x1) e fun G2 σ2 H2 o2 g2 => k G2 σ2 H2 o2 (x1.gg.trans g2)
theorem xs_ret (he : XE X e fe) : XS X (.Return (some e) pos) (sRet fe) := by
  obtain ⟨t, h1, h2⟩ := he
  refine ⟨_, ps_ret h1, fun G0 H0 G ω σ H out ω' E o e k => ?_⟩
  obtain ⟨r, q, e⟩ := bnd e
  refine h2 G0 H0 G ω σ H r _ o q fun v G1 H1 x1 y1 => ?_
  cases r with
  | sh d => cases e; exact k G1 σ H1 (o.keep x1) x1.gg v y1
  | fr ds =>
    cases e
    obtain ⟨l, vs, e1, e2, e3⟩ := y1
    exact k G1 σ H1 (o.keep x1) x1.gg v ⟨l, vs, e1, o.ext.hh.free e2, e3⟩
  | vw ds => cases e
theorem xs_retv {i : Nat} (he : PE X e (tVar i)) : XS X (.Return (some e) pos) (sRetV i) := by
  refine ⟨_, ps_ret he, fun G0 H0 G ω σ H out ω' E o e k => ?_⟩
  unfold sRetV at e
  cases q : ω[i]? with
  | none => rw [q] at e; cases e
  | some w =>
    rw [q] at e
    cases w with
    | none => cases e
    | some w =>
      cases w with
      | sh d =>
        cases e
        obtain ⟨v, q1, q2⟩ := o.sh i d q
        exact ⟨v, q1, k G σ H o (Same.refl _) v q2⟩
      | ow ds =>
        cases e
        obtain ⟨l, vs, q1, q2, q3, q4, q5⟩ := o.ow i ds q
        exact ⟨_, q1, k G σ H o (Same.refl _) _ ⟨l, vs, rfl, q4, q3, q2, q5⟩⟩
      | od ks ds => cases e
      | pw ds => cases e
theorem xs_no : XS X st sNo := ⟨_, ps_never, fun G0 H0 G ω σ H out ω' E o e k => by cases e⟩
def sBreak : FS := fun ω => some (.bk, ω)
def sCont : FS := fun ω => some (.ct, ω)
theorem xs_expr (he : XE X e fe) (hs : swapsWith e none pos.line X.env = pure false := by rfl) : XS X (.Expr e pos) (sDrop fe) := by
  obtain ⟨t, h1, h2⟩ := he
  refine ⟨_, ps_expr h1 hs, fun G0 H0 G ω σ H out ω' E o e k => ?_⟩
  obtain ⟨r, q, e⟩ := mpd e
  cases e
  exact h2 G0 H0 G ω σ H r _ o q fun v G1 H1 x1 y1 => k G1 σ H1 (o.keep x1) x1.gg
def sApp (i : Nat) (f : FD) : FS := fun ω => (f ω).bind fun d => match ω[i]? with
  | some (some (.ow ds)) => if ds.length < 1000000 then some (.nx, ω.set i (some (.ow (ds ++ [d])))) else none
  | _ => none
theorem xs_app {i : Nat} {o e : Expr} {fd : FD} {apos cpos : Pos} (ho : PE X o (tVar i)) (he : XD X e fd)
    (hbase : attributeBase o "append" X.env (eval o X.env) = eval o X.env := by rfl)
    (hfew : ((backTo cpos (starEach [e] X.env)).all (fun x => !x.1) && (backToKw cpos (keywordEach [] X.env)).all (fun x => x.1.isSome)
      && decide (([e] : List Expr).length + ([] : List Keyword).length + (if ([] : List Keyword).isEmpty then 0 else 1) < 30)) = true := by rfl)
    (hline : (apos.endLine == cpos.line) = true := by rfl) (hs : starEach [e] X.env = (false, eval e X.env) :: starEach [] X.env := by rfl) (hplain : (backTo cpos (starEach [] X.env)).any (·.1) = false := by rfl)
    (hsw : swapsWith (.Call (.Attribute o "append" apos) [e] [] cpos) none pos.line X.env = pure false := by rfl) :
    XS X (.Expr (.Call (.Attribute o "append" apos) [e] [] cpos) pos) (sApp i fd) := by
  obtain ⟨t, h1, h2⟩ := he
  refine ⟨_, ps_expr (pe_bm PySem.F.plainAttrs_list PySem.F.slot_list_append PySem.F.type_list_append mt_append ho (pa_cons h1 pa_nil hs) hbase hfew hline hs hplain) hsw, fun G0 H0 G ω σ H out ω' E ow e k => ?_⟩
  obtain ⟨d, q, e⟩ := bnd e
  cases q2 : ω[i]? with
  | none => rw [q2] at e; cases e
  | some w =>
    rw [q2] at e
    cases w with
    | none => cases e
    | some w =>
      cases w with
      | sh d => cases e
      | od ks ds => cases e
      | pw ds => cases e
      | ow ds =>
        dsimp only at e
        by_cases z : ds.length < 1000000
        · rw [if_pos z] at e
          cases e
          obtain ⟨l, vs, r1, r2, r3, r4, r5⟩ := ow.ow i ds q2
          refine ⟨.ref l, r1, .inl ⟨rfl, vs, SqL.of r2⟩, h2 G0 H0 G ω σ H d _ ow q fun v G1 H1 x1 y1 => ?_⟩
          have o1 := ow.keep x1
          have hz : vs.length < sizeLine := by rw [← r5.len, sizeLine_eq]; omega
          refine ⟨l, vs, v, rfl, rfl, x1.hh _ _ r2, hz, ?_⟩
          exact k G1 σ _ (o1.mut q2 r1 (x1.hh _ _ r2) (x1.new l r3 (by rw [r2]; exact fun z => by cases z)) r4 ((r5.mono x1.gg).app (Reps.cons y1 Reps.nil))) x1.gg
        · rw [if_neg z] at e; cases e
end
end Hk
set_option maxRecDepth 100000
namespace PySem
open AutoSeq1 MeetsSeq MeetsSeq2 MeetsSeq3
theorem extTup (l b : Addr) (xs ys : Array Value) (n m : Nat) (dd : Option Addr) (sl : Array (Option Value)) (h1 : ¬(!xs.isEmpty && Builtin.List.listTooLong (xs.size + ys.size)) = true) (h2 : xs.size ≤ sizeLine) (h3 : xs.size + ys.size ≤ sizeLine + 1) :
    Meets (Builtin.«list.extend» ⟨[.ref l, .ref b], []⟩) (fun _ R s => s.heap.get? l = some { cls := .type "list", data := .seq xs n } ∧ s.heap.get? b = some { cls := .type "tuple", dict := dd, data := .seq ys m, slots := sl } ∧
      R (.ok (.ret Value.none)) { s with heap := s.heap.update l (Obj.mapSeq fun z => z ++ ys), toks := s.toks }) :=
  .of_wp fun prog w A R s h => by
    obtain ⟨hp, g, d, tk, os⟩ := s
    obtain ⟨e1, e2, q⟩ := h
    have p1 := idx_int
    have p2 := sub_tuple_tuple
    have p3 := sub_list_list
    have p4 := sub_tuple_list
    have p5 := sub_list_tuple
    have fit : (xs ++ ys).size ≤ sizeLine + 1 := by rw [Array.size_append]; exact h3
    wp_walk using (wpAny_updateSeq e1 rfl (hz := h2) (_hz' := fit)), wpAny_loadPart' e1, wpAny_loadPart' e2
    exact ⟨_, rfl, q⟩
end PySem
namespace Hk
open PySem L2
section
variable {X : Cx} {pos : Pos}
def rExtA : V → List V → Hp → VK → Prop := fun x vs H Q => rExtend x vs H Q ∨ ∃ l b xs zs, x = .ref l ∧ vs = [.ref b] ∧ H l = some (.lst xs) ∧ H b = some (.tup zs) ∧ xs.length + zs.length ≤ sizeLine ∧ Q .non (upd H l (.lst (xs ++ zs)))
theorem mt_extA : MtR X "list.extend" rExtA := by
  intro pins s σ H x vs v us Q I rx rv h
  rcases h with h | h
  · exact mt_extend pins s σ H x vs v us Q I rx rv h
  obtain ⟨l, b, xs, zs, rfl, rfl, hH, hB, hz, q⟩ := h
  cases rx
  obtain ⟨u, rfl, ru⟩ := rv.one
  cases ru
  obtain ⟨z, its, n, r, hl, e⟩ := I.lstM hH
  obtain ⟨its2, r2, ⟨o2, e2, c2, n2, d2⟩, z2⟩ := I.tuple (SqT.of hB)
  have hl2 := r2.length
  obtain ⟨cls, dd, dt, sl⟩ := o2
  cases c2
  cases d2
  have hsz : its.toArray.size + its2.toArray.size ≤ sizeLine := by rw [List.size_toArray, List.size_toArray]; omega
  have hlong : ¬ (!its.toArray.isEmpty && Builtin.List.listTooLong (its.toArray.size + its2.toArray.size)) = true := by
    rw [notLongL hsz, Bool.and_false]
    exact Bool.false_ne_true
  refine call_meets F.slot_list_extend ⟨_, e, rfl⟩ F.entry_list_extend (F.args_list_extend_2 _ _)
    (extTup l b its.toArray its2.toArray n n2 dd sl hlong (by rw [List.size_toArray]; omega) (by omega)) ⟨e, e2, ?_⟩
  refine ⟨.non, _, I.lset (its' := its ++ its2) hH e (by simp) (r.append r2) ?_, rfl, q⟩
  rw [List.length_append]
  omega
def itemsOf : D → Option (List D)
  | .lst ds => some ds
  | .tup ds => some ds
  | _ => none
def sExt (i : Nat) (f : FD) : FS := fun ω => (f ω).bind fun d => (itemsOf d).bind fun es => match ω[i]? with
  | some (some (.ow ds)) => if ds.length + es.length ≤ 1000000 then some (.nx, ω.set i (some (.ow (ds ++ es)))) else none
  | _ => none
theorem xs_ext {i : Nat} {o e : Expr} {fd : FD} {apos cpos : Pos} (ho : PE X o (tVar i)) (he : XD X e fd)
    (hbase : attributeBase o "extend" X.env (eval o X.env) = eval o X.env := by rfl)
    (hfew : ((backTo cpos (starEach [e] X.env)).all (fun x => !x.1) && (backToKw cpos (keywordEach [] X.env)).all (fun x => x.1.isSome)
      && decide (([e] : List Expr).length + ([] : List Keyword).length + (if ([] : List Keyword).isEmpty then 0 else 1) < 30)) = true := by rfl)
    (hline : (apos.endLine == cpos.line) = true := by rfl) (hs : starEach [e] X.env = (false, eval e X.env) :: starEach [] X.env := by rfl) (hplain : (backTo cpos (starEach [] X.env)).any (·.1) = false := by rfl)
    (hsw : swapsWith (.Call (.Attribute o "extend" apos) [e] [] cpos) none pos.line X.env = pure false := by rfl) :
    XS X (.Expr (.Call (.Attribute o "extend" apos) [e] [] cpos) pos) (sExt i fd) := by
  obtain ⟨t, h1, h2⟩ := he
  refine ⟨_, ps_expr (pe_bm PySem.F.plainAttrs_list PySem.F.slot_list_extend PySem.F.type_list_extend mt_extA ho (pa_cons h1 pa_nil hs) hbase hfew hline hs hplain) hsw, fun G0 H0 G ω σ H out ω' E ow e k => ?_⟩
  obtain ⟨d, q, e⟩ := bnd e
  obtain ⟨es, q3, e⟩ := bnd e
  cases q2 : ω[i]? with
  | none => rw [q2] at e; cases e
  | some w =>
    rw [q2] at e
    cases w with
    | none => cases e
    | some w =>
      cases w with
      | sh d => cases e
      | od ks ds => cases e
      | pw ds => cases e
      | ow ds =>
        dsimp only at e
        by_cases z : ds.length + es.length ≤ 1000000
        · rw [if_pos z] at e
          cases e
          obtain ⟨l, vs, r1, r2, r3, r4, r5⟩ := ow.ow i ds q2
          refine ⟨.ref l, r1, .inl ⟨rfl, vs, SqL.of r2⟩, h2 G0 H0 G ω σ H d _ ow q fun v G1 H1 x1 y1 => ?_⟩
          have o1 := ow.keep x1
          have fin : ∀ us : List V, Reps X.K G1 es us → vs.length + us.length ≤ sizeLine ∧ Post X.K H0 G1 E .nx σ (upd H1 l (.lst (vs ++ us))) := fun us hu =>
            ⟨by rw [← r5.len, ← hu.len]; exact le_line6 z, k G1 σ _ (o1.mut q2 r1 (x1.hh _ _ r2) (x1.new l r3 (by rw [r2]; exact fun z => by cases z)) r4 ((r5.mono x1.gg).app hu)) x1.gg⟩
          cases d with
          | lst ds' =>
            cases q3
            obtain ⟨b, us, rfl, r6, r7⟩ := y1
            obtain ⟨f1, f2⟩ := fin us r7
            exact .inl ⟨l, b, vs, us, rfl, rfl, x1.hh _ _ r2, x1.gh _ _ r6, f1, f2⟩
          | tup ds' =>
            cases q3
            obtain ⟨b, us, rfl, r6, r7⟩ := y1
            obtain ⟨f1, f2⟩ := fin us r7
            exact .inr ⟨l, b, vs, us, rfl, rfl, x1.hh _ _ r2, x1.gh _ _ r6, f1, f2⟩
          | _ => cases q3
        · rw [if_neg z] at e; cases e
end
structure IterOf (K : PySem.W.Frag) (J : It) (G : Hp) (ds : List D) : Prop where
  go : ∀ H i, Same G H → i < ds.length → J.go i H
  yld : ∀ G2 H i x H' d, Same G G2 → Same G2 H → ds[i]? = some d → J.yld i H x H' → ∃ G3, Ext G2 H G3 H' ∧ Rep K G3 d x
  stop : ∀ H, Same G H → J.stop ds.length H
abbrev FI := WSt → Option (List D)
def SimI (K : PySem.W.Frag) (wi : TI) (f : FI) : Prop := ∀ G0 H0 G ω σ H ds (R : It → Hp → Prop), Own K G0 H0 G ω σ H → f ω = some ds → (∀ J G' H', Ext G H G' H' → IterOf K J G' ds → R J H') → wi σ H R
def XI (X : Cx) (tg iter : Expr) (f : FI) : Prop := ∃ wi, PI X tg iter wi ∧ SimI X.K wi f
section
variable {X : Cx} {tg e : Expr}
theorem iter_lst {K : PySem.W.Frag} {G : Hp} {a : Addr} {ds : List D} {vs : List V} (h1 : G a = some (.lst vs)) (h2 : Reps K G ds vs) : IterOf K (Itl K a) G ds := by
  refine ⟨fun H i s hi => ?_, fun G2 H i x H' d s0 s1 hd hy => ?_, fun H s => ⟨vs, SqL.of (s _ _ h1), by rw [h2.len]; exact Nat.le_refl _⟩⟩
  · have : i < vs.length := by rw [← h2.len]; exact hi
    exact ⟨vs, vs[i], SqL.of (s _ _ h1), List.getElem?_eq_getElem this⟩
  · obtain ⟨e, y⟩ := hy
    obtain ⟨v, q1, q2⟩ := h2.get hd
    have := y vs (SqL.of (s1 _ _ (s0 _ _ h1)))
    rw [q1] at this
    cases this
    subst e
    exact ⟨G2, Ext.refl s1, q2.mono s0⟩
theorem iter_tup {K : PySem.W.Frag} {G : Hp} {a : Addr} {ds : List D} {vs : List V} (h1 : G a = some (.tup vs)) (h2 : Reps K G ds vs) : IterOf K (Itt K a) G ds := by
  refine ⟨fun H i s hi => ?_, fun G2 H i x H' d s0 s1 hd hy => ?_, fun H s => ⟨vs, SqT.of (s _ _ h1), by rw [h2.len]; exact Nat.le_refl _⟩⟩
  · have : i < vs.length := by rw [← h2.len]; exact hi
    exact ⟨vs, vs[i], SqT.of (s _ _ h1), List.getElem?_eq_getElem this⟩
  · obtain ⟨e, y⟩ := hy
    obtain ⟨v, q1, q2⟩ := h2.get hd
    have := y vs (SqT.of (s1 _ _ (s0 _ _ h1)))
    rw [q1] at this
    cases this
    subst e
    exact ⟨G2, Ext.refl s1, q2.mono s0⟩
def iSeq (f : FD) : FI := fun ω => (f ω).bind itemsOf
theorem xi_seq {f : FD} (h : XD X e f) : XI X tg e (iSeq f) := by
  obtain ⟨t, h1, h2⟩ := h
  refine ⟨fun σ H R => iList X.K t σ H R ∨ iTup X.K t σ H R, fun pins s σ H R I q => ?_, fun G0 H0 G ω σ H ds R o e k => ?_⟩
  · rcases q with q | q
    · exact pi_list h1 pins s σ H R I q
    · exact pi_tup h1 pins s σ H R I q
  · obtain ⟨d, q, e⟩ := bnd e
    cases d with
    | lst es =>
      cases e
      refine .inl (h2 G0 H0 G ω σ H _ _ o q fun v G1 H1 x1 ⟨a, vs, e1, e2, e3⟩ => ⟨a, e1, ⟨vs, SqL.of (x1.gh _ _ e2)⟩, k _ G1 H1 x1 (iter_lst e2 e3)⟩)
    | tup es =>
      cases e
      refine .inr (h2 G0 H0 G ω σ H _ _ o q fun v G1 H1 x1 ⟨a, vs, e1, e2, e3⟩ => ⟨a, e1, ⟨vs, SqT.of (x1.gh _ _ e2)⟩, k _ G1 H1 x1 (iter_tup e2 e3)⟩)
    | _ => cases e
def upTo (lo : Int) (n : Nat) : List D := (List.range n).map fun (i : Nat) => D.int (lo + (i : Int))
theorem iter_rng {K : PySem.W.Frag} {G : Hp} (lo : Int) (n : Nat) : IterOf K (Itr lo n) G (upTo lo n) := by
  have hl : (upTo lo n).length = n := by unfold upTo; rw [List.length_map, List.length_range]
  refine ⟨fun H i s hi => by rw [hl] at hi; exact hi, fun G2 H i x H' d s0 s1 hd hy => ?_, fun H s => by rw [hl]; exact Nat.le_refl _⟩
  obtain ⟨e, y⟩ := hy
  subst e
  refine ⟨G2, Ext.refl s1, ?_⟩
  unfold upTo at hd
  rw [List.getElem?_map] at hd
  have hi : i < n := by
    rcases Nat.lt_or_ge i n with z | z
    · exact z
    · rw [List.getElem?_eq_none (by rw [List.length_range]; exact z)] at hd; cases hd
  rw [List.getElem?_range hi] at hd
  cases hd
  exact y
def iRg1 (g : FA) : FI := fun ω => (g ω).bind fun ds => match ds with
  | [.int j] => if -(2 ^ 62) ≤ j ∧ j < 2 ^ 62 then some (upTo 0 j.toNat) else none
  | _ => none
def iRg2 (g : FA) : FI := fun ω => (g ω).bind fun ds => match ds with
  | [.int i, .int j] => if (-(2 ^ 62) ≤ i ∧ i < 2 ^ 62) ∧ -(2 ^ 62) ≤ j ∧ j < 2 ^ 62 then some (upTo i (j - i).toNat) else none
  | _ => none
theorem xi_range1 {a : Expr} {g : FA} {p pos : Pos} (hg : Gl X "range") (hm : X.mg "range" = none) (ha : XVA X [a] g) (hs : starEach [a] X.env = [(false, eval a X.env)] := by rfl) : XI X tg (.Call (.Name "range" p) [a] [] pos) (iRg1 g) := by
  obtain ⟨t, h1, h2⟩ := ha
  refine ⟨_, pi_range1 hg hm h1 hs, fun G0 H0 G ω σ H ds R o e k => ?_⟩
  obtain ⟨vs, q, e⟩ := bnd e
  refine h2 G0 H0 G ω σ H vs _ o q fun us G1 H1 x1 y1 => ?_
  match vs, e with
  | [.int j], e =>
    dsimp only at e
    by_cases z : -(2 ^ 62) ≤ j ∧ j < 2 ^ 62
    · rw [if_pos z] at e
      cases e
      obtain ⟨v, rfl, y2⟩ := y1.one
      cases y2.int
      exact ⟨j, rfl, z.1, z.2, k _ G1 H1 x1 (iter_rng _ _)⟩
    · rw [if_neg z] at e; cases e
end
def forD (g : FG) (b : FS) : List D → FS
  | [], ω => some (.nx, ω)
  | d :: ds, ω => (g d ω).bind fun w => (b w).bind fun p => match p.1 with
    | .nx => forD g b ds p.2
    | .ct => forD g b ds p.2
    | .bk => some (.nx, p.2)
    | .rt r => some (.rt r, p.2)
def sFor (fi : FI) (g : FG) (b : FS) : FS := fun ω => (fi ω).bind fun ds => forD g b ds ω
section
variable {X : Cx} {tg iter : Expr} {body : List Stmt} {pos : Pos} {fi : FI} {fg : FG} {fb : FS}
theorem xs_for (hp : PassesOwn (model X.prog X.w) X.A X.env X.xe) (hc : X.calm = true) (hi : XI X tg iter fi) (hg : XG X tg fg) (hb : XSs X body fb) (hs : ∀ x, foldedSetIterable iter X.env x = pure x := by intro _; rfl) : XS X (.For tg iter body [] pos) (sFor fi fg fb) := by
  obtain ⟨wi, h1, h2⟩ := hi
  obtain ⟨g, h3, h4⟩ := hg
  obtain ⟨tb, h5, h6⟩ := hb
  refine ⟨_, ps_for hp hc h1 h3 h5 hs, fun G0 H0 G ω σ H out ω' E o e k => ?_⟩
  obtain ⟨ds, q, e⟩ := bnd e
  refine h2 G0 H0 G ω σ H ds _ o q fun J G1 H1 x1 it => ?_
  refine ⟨fun i m σ2 H2 => ∃ G2 ω2, Own X.K G0 H0 G2 ω2 σ2 H2 ∧ Same G1 G2 ∧ forD fg fb (ds.drop i) ω2 = some (out, ω') ∧ i ≤ ds.length ∧ m = ds.length - i, ⟨_, G1, ω, o.keep x1, Same.refl _, e, Nat.zero_le _, rfl⟩, ?_⟩
  rintro i m σ2 H2 ⟨G2, ω2, o2, s2, f2, hi2, rfl⟩
  by_cases hlt : i < ds.length
  · refine .inr ⟨it.go H2 i (s2.trans o2.gh) hlt, fun σ3 H3 => ∃ G3 ω3, Own X.K G0 H0 G3 ω3 σ3 H3 ∧ Same G1 G3 ∧ forD fg fb (ds.drop (i + 1)) ω3 = some (out, ω'), fun σ3 H3 ⟨G3, ω3, a1, a2, a3⟩ => ⟨ds.length - (i + 1), by omega, G3, ω3, a1, a2, a3, hlt, rfl⟩, fun x H3 hy => ?_⟩
    have hd : ds[i]? = some ds[i] := List.getElem?_eq_getElem hlt
    obtain ⟨G4, x4, rx⟩ := it.yld G2 H2 i x H3 ds[i] s2 o2.gh hd hy
    have o2 := o2.keep x4
    have s2 := s2.trans x4.gg
    rw [List.drop_eq_getElem_cons hlt] at f2
    obtain ⟨w, q1, f2⟩ := bnd f2
    obtain ⟨⟨o3, ω3⟩, q2, f2⟩ := bnd f2
    refine h4 G0 H0 G4 ω2 σ2 H3 ds[i] x w _ o2 q1 rx fun σ4 o4 => ?_
    refine h6 G0 H0 G4 w σ4 H3 o3 ω3 _ o4 q2 fun G5 σ5 H5 o5 s5 => ?_
    cases o3 with
    | nx => exact ⟨G5, ω3, o5, s2.trans s5, f2⟩
    | ct => exact ⟨G5, ω3, o5, s2.trans s5, f2⟩
    | bk => cases f2; exact k G5 σ5 H5 o5 (x1.gg.trans (s2.trans s5))
    | rt r => cases f2; exact k G5 σ5 H5 o5 (x1.gg.trans (s2.trans s5))
  · have ei : i = ds.length := by omega
    subst ei
    rw [List.drop_length] at f2
    cases f2
    exact .inl ⟨it.stop H2 (s2.trans o2.gh), k G2 σ2 H2 o2 (x1.gg.trans s2)⟩
end
def compD (g : FG) (c : FT) (f : FD) : List D → WSt → Option (List D)
  | [], _ => some []
  | d :: ds, ω => (g d ω).bind fun w => (c w).bind fun b => if b = true then (f w).bind fun x => (compD g c f ds w).map fun r => x :: r else compD g c f ds w
def shOf : Option (Option W) → Option W
  | some (some (.sh d)) => some (.sh d)
  | _ => none
def inW (M : Nat) (frees : List Nat) (ω : WSt) : WSt := List.replicate M none ++ frees.map fun j => shOf ω[j]?
def fComp (M : Nat) (frees : List Nat) (fi : FI) (g : FG) (c : FT) (f : FD) : FE := fun ω => (fi ω).bind fun ds => if ds.length ≤ 1000000 then (compD g c f ds (inW M frees ω)).map R.fr else none
def XTs (X : Cx) (ifs : List Expr) (f : FT) : Prop := ∃ t, PTs X ifs t ∧ SimT X.K t f
def tTrue : FT := fun _ => some true
theorem xts_nil {X : Cx} : XTs X [] tTrue := ⟨_, pts_nil, fun G0 H0 G ω σ H b Q o e k => by cases e; exact k G H (Ext.refl o.gh)⟩
theorem xts_one {X : Cx} {c : Expr} {f : FT} (h : XT X c f) : XTs X [c] f := let ⟨t, h1, h2⟩ := h; ⟨t, pts_one h1, h2⟩
section
variable {X : Cx} {N : List Str} {M : Nat} {frees : List Nat} {scope : Scope} {tg iter elt : Expr} {ifs : List Expr} {pos : Pos} {fi : FI} {fg : FG} {fc : FT} {fe : FD}
def NoOw (ω : WSt) : Prop := ∀ (i : Nat) w, ω[i]? = some (some w) → ∃ d, w = .sh d
theorem NoOw.ow {ω : WSt} (h : NoOw ω) (i : Nat) (ds : List D) : ω[i]? ≠ some (some (.ow ds)) := fun z => by obtain ⟨d, e⟩ := h i _ z; cases e
theorem NoOw.od {ω : WSt} (h : NoOw ω) (i : Nat) (ks : List Int) (ds : List D) : ω[i]? ≠ some (some (.od ks ds)) := fun z => by obtain ⟨d, e⟩ := h i _ z; cases e
theorem NoOw.pw {ω : WSt} (h : NoOw ω) (i : Nat) (ds : List D) : ω[i]? ≠ some (some (.pw ds)) := fun z => by obtain ⟨d, e⟩ := h i _ z; cases e
theorem sim_comp {wi : TI} {g : TG} {tc : TT} {te : TE} (h2 : SimI X.K wi fi) (h4 : SimG X.K g fg) (h6 : SimT X.K tc fc) (h8 : SimD X.K te fe) (hg : ∀ d ω ω', NoOw ω → fg d ω = some ω' → NoOw ω') : SimE X.K (tComp M frees wi g tc te) (fComp M frees fi fg fc fe) := by
  intro G0 H0 G ω σ H r Q o e k
  obtain ⟨ds, q, e⟩ := bnd e
  by_cases hz : ds.length ≤ 1000000
  · rw [if_pos hz] at e
    obtain ⟨rs, q2, e⟩ := mpd e
    subst e
    refine h2 G0 H0 G ω σ H ds _ o q fun J G1 H1 x1 it => ?_
    intro A hA
    have ow0 : NoOw (inW M frees ω) := by
      intro i es z
      unfold inW at z
      rcases Nat.lt_or_ge i M with y | y
      · rw [List.getElem?_append_left (by simpa using y), List.getElem?_replicate, if_pos y] at z; cases z
      · rw [List.getElem?_append_right (by simpa using y), List.length_replicate, List.getElem?_map] at z
        cases e1 : frees[i - M]? with
        | none => rw [e1] at z; cases z
        | some j =>
          rw [e1] at z
          have z' : shOf ω[j]? = some es := Option.some.inj z
          generalize ω[j]? = u at z'
          unfold shOf at z'
          split at z'
          · cases z'; exact ⟨_, rfl⟩
          · cases z'
    have own0 : ∀ G2 H2, Same G1 G2 → Same G2 H2 → Own X.K G2 (fr H2) G2 (inW M frees ω) (sgIn M frees σ) H2 := fun G2 H2 s1 s2 => by
      have o1 := o.keep x1
      refine ⟨Ext.refl s2, by unfold inW sgIn; simp, fun i d hi => ?_, fun i ds' hi => absurd hi (ow0.ow i ds'), fun i j ds' es l hi => absurd hi (ow0.ow i ds'), fun i ks ds' hi => absurd hi (ow0.od i ks ds'), PwOk.no ow0.pw⟩
      unfold inW at hi
      unfold sgIn
      rcases Nat.lt_or_ge i M with y | y
      · rw [List.getElem?_append_left (by simpa using y), List.getElem?_replicate, if_pos y] at hi; cases hi
      · rw [List.getElem?_append_right (by simpa using y), List.length_replicate, List.getElem?_map] at hi ⊢
        cases e1 : frees[i - M]? with
        | none => rw [e1] at hi; cases hi
        | some j =>
          rw [e1] at hi
          have hi' : shOf ω[j]? = some (.sh d) := Option.some.inj hi
          cases e2 : ω[j]? with
          | none => rw [e2] at hi'; cases hi'
          | some w =>
            rw [e2] at hi'
            cases w with
            | none => cases hi'
            | some w =>
              cases w with
              | ow _ => cases hi'
              | od _ _ => cases hi'
              | pw _ => cases hi'
              | sh d' =>
                cases hi'
                obtain ⟨v, q3, q4⟩ := o1.sh j _ e2
                exact ⟨v, by rw [Option.map_some, q3]; rfl, q4.mono s1⟩
    refine ⟨fun i m σ2 H2 => ∃ G2 ω2 accd accv, Own X.K G2 (fr H2) G2 ω2 σ2 H2 ∧ NoOw ω2 ∧ Ext G1 H1 G2 H2 ∧ G2 A = none ∧ H2 A = some (.lst accv) ∧ Reps X.K G2 accd accv ∧ accd.length ≤ i ∧ i ≤ ds.length ∧ m = ds.length - i ∧
      ∃ rest, compD fg fc fe (ds.drop i) ω2 = some rest ∧ accd ++ rest = rs, ⟨_, G1, inW M frees ω, [], [], own0 _ _ (Same.refl _) (same_updR x1.gh (x1.gh.free hA) _), ow0, Ext.hide x1.gh hA _, x1.gh.free hA, upd_same, Reps.nil, Nat.le_refl _, Nat.zero_le _, rfl, rs, q2, rfl⟩, ?_⟩
    rintro i m σ2 H2 ⟨G2, ω2, accd, accv, o2, no2, x2, gA, hA2, ra, la, li, rfl, rest, cd, er⟩
    by_cases hlt : i < ds.length
    · refine .inr ⟨it.go H2 i (x2.gg.trans x2.gh) hlt, fun x H3 hy => ?_⟩
      have hd : ds[i]? = some ds[i] := List.getElem?_eq_getElem hlt
      obtain ⟨G4, x4, rx⟩ := it.yld G2 H2 i x H3 ds[i] x2.gg x2.gh hd hy
      have o2' := o2.keep x4
      have o2 : Own X.K G4 (fr H3) G4 ω2 σ2 H3 := ⟨Ext.refl x4.gh, o2'.len, o2'.sh, fun i ds' hi => absurd hi (no2.ow i ds'), fun i j ds' es l hi => absurd hi (no2.ow i ds'), fun i ks ds' hi => absurd hi (no2.od i ks ds'), PwOk.no no2.pw⟩
      have gA : G4 A = none := x4.new A gA (by rw [hA2]; exact fun z => by cases z)
      have hA2 : H3 A = some (.lst accv) := x4.hh _ _ hA2
      have x2 := x2.trans x4
      have ra := ra.mono x4.gg
      rw [List.drop_eq_getElem_cons hlt] at cd
      obtain ⟨w, q1, cd⟩ := bnd cd
      obtain ⟨b, q3, cd⟩ := bnd cd
      have now := hg _ _ _ no2 q1
      refine h4 G4 (fr H3) G4 ω2 σ2 H3 ds[i] x w _ o2 q1 rx fun σ4 o4 => ?_
      refine h6 G4 (fr H3) G4 w σ4 H3 b _ o4 q3 fun G5 H5 x5 => ?_
      have o5 := o4.keep x5
      have gA5 : G5 A = none := x5.new A gA (by rw [hA2]; exact fun z => by cases z)
      have hA5 : H5 A = some (.lst accv) := x5.hh _ _ hA2
      cases b with
      | false =>
        rw [if_neg Bool.false_ne_true]
        rw [if_neg Bool.false_ne_true] at cd
        have o6 : Own X.K G5 (fr H5) G5 w σ4 H5 := ⟨Ext.refl x5.gh, o5.len, o5.sh, fun i ds' hi => absurd hi (now.ow i ds'), fun i j ds' es l hi => absurd hi (now.ow i ds'), fun i ks ds' hi => absurd hi (now.od i ks ds'), PwOk.no now.pw⟩
        exact ⟨ds.length - (i + 1), by omega, G5, w, accd, accv, o6, now, x2.trans x5, gA5, hA5, ra.mono x5.gg, by omega, hlt, rfl, rest, cd, er⟩
      | true =>
        rw [if_pos rfl] at cd ⊢
        obtain ⟨d, q4, cd⟩ := bnd cd
        obtain ⟨rest', q5, cd⟩ := mpd cd
        subst cd
        refine h8 G4 (fr H3) G5 w σ4 H5 d _ o5 q4 fun v G6 H6 x6 y6 => ?_
        have gA6 : G6 A = none := x6.new A gA5 (by rw [hA5]; exact fun z => by cases z)
        have hA6 : H6 A = some (.lst accv) := x6.hh _ _ hA5
        have x26 := (x2.trans x5).trans x6
        have raa := ra.mono (x5.gg.trans x6.gg)
        have hl : accv.length < sizeLine := by rw [← raa.len, sizeLine_eq]; omega
        refine ⟨accv, hA6, hl, ds.length - (i + 1), by omega, G6, w, accd ++ [d], accv ++ [v], ?_, now, ⟨x26.gg, same_updR x26.gh gA6 _, same_updR x26.hh hA _, x26.new⟩, gA6, upd_same, raa.app (Reps.cons y6 Reps.nil), by rw [List.length_append, List.length_singleton]; omega, hlt, rfl, rest', q5, by rw [List.append_assoc]; exact er⟩
        have o6 := o5.keep x6
        exact ⟨Ext.refl (same_updR x6.gh gA6 _), o6.len, o6.sh, fun i ds' hi => absurd hi (now.ow i ds'), fun i j ds' es l hi => absurd hi (now.ow i ds'), fun i ks ds' hi => absurd hi (now.od i ks ds'), PwOk.no now.pw⟩
    · have ei : i = ds.length := by omega
      subst ei
      rw [List.drop_length] at cd
      cases cd
      rw [List.append_nil] at er
      subst er
      refine .inl ⟨it.stop H2 (x2.gg.trans x2.gh), k _ G2 H2 (x1.trans x2) ⟨A, accv, rfl, x1.hh.free hA, gA, hA2, ra⟩⟩
  · rw [if_neg hz] at e; cases e
theorem noOw_set {ω : WSt} {i : Nat} {d : D} (h : NoOw ω) : NoOw (ω.set i (some (.sh d))) := by
  intro j ds z
  rcases get_set z with ⟨_, _, y⟩ | ⟨_, y⟩
  · cases y; exact ⟨d, rfl⟩
  · exact h j ds y
def Tame (fg : FG) : Prop := ∀ d ω ω', NoOw ω → fg d ω = some ω' → NoOw ω'
theorem tame_n (i : Nat) : Tame (gN i) := fun d ω ω' h e => by cases e; exact noOw_set h
def canD (K : PySem.W.Frag) (f : FD) : TE := fun σ H Q => ∃ G0 H0 G ω d, Own K G0 H0 G ω σ H ∧ f ω = some d ∧ ∀ v G' H', Ext G H G' H' → Rep K G' d v → Q v H'
def canT (K : PySem.W.Frag) (f : FT) : TT := fun σ H Q => ∃ G0 H0 G ω b, Own K G0 H0 G ω σ H ∧ f ω = some b ∧ ∀ G' H', Ext G H G' H' → Q b H'
def canG (K : PySem.W.Frag) (f : FG) : TG := fun v σ H Q => ∃ G0 H0 G ω d ω', Own K G0 H0 G ω σ H ∧ f d ω = some ω' ∧ Rep K G d v ∧ ∀ σ', Own K G0 H0 G ω' σ' H → Q σ' H
theorem XD.can {X : Cx} {e : Expr} {f : FD} (h : XD X e f) : PE X e (canD X.K f) := fun pins s σ H Q I ⟨G0, H0, G, ω, d, o, e, k⟩ => let ⟨_, h1, h2⟩ := h; h1 pins s σ H Q I (h2 G0 H0 G ω σ H d Q o e k)
theorem XTs.can {X : Cx} {e : List Expr} {f : FT} (h : XTs X e f) : PTs X e (canT X.K f) := fun pins s σ H Q I ⟨G0, H0, G, ω, d, o, e, k⟩ => let ⟨_, h1, h2⟩ := h; h1 pins s σ H Q I (h2 G0 H0 G ω σ H d Q o e k)
theorem XG.can {X : Cx} {e : Expr} {f : FG} (h : XG X e f) : PG X e (canG X.K f) := fun pins s σ H v u Q I r ⟨G0, H0, G, ω, d, ω', o, e, y, k⟩ => let ⟨_, h1, h2⟩ := h; h1 pins s σ H v u Q I r (h2 G0 H0 G ω σ H d v ω' Q o e y k)
theorem sim_canD {K : PySem.W.Frag} {f : FD} : SimD K (canD K f) f := fun G0 H0 G ω σ H d Q o e k => ⟨G0, H0, G, ω, d, o, e, k⟩
theorem sim_canT {K : PySem.W.Frag} {f : FT} : SimT K (canT K f) f := fun G0 H0 G ω σ H d Q o e k => ⟨G0, H0, G, ω, d, o, e, k⟩
theorem sim_canG {K : PySem.W.Frag} {f : FG} : SimG K (canG K f) f := fun G0 H0 G ω σ H d v ω' Q o e y k => ⟨G0, H0, G, ω, d, ω', o, e, y, k⟩
theorem xe_comp (hc : X.calm = true) (B : BlkOk X N M frees scope) (hi : XI X tg iter fi) (ht : Tame fg)
    (hb : ∀ C s H fp, XG (cxIn X N scope C s H fp) tg fg ∧ XTs (cxIn X N scope C s H fp) ifs fc ∧ XD (cxIn X N scope C s H fp) elt fe)
    (hs : ∀ x, foldedSetIterable iter X.env x = pure x := by intro _; rfl) : XE X (.ListComp elt [⟨tg, iter, ifs, 0⟩] scope pos) (fComp M frees fi fg fc fe) := by
  obtain ⟨wi, h1, h2⟩ := hi
  have b4 : ∀ C s H fp, PG (cxIn X N scope C s H fp) tg (canG X.K fg) ∧ PTs (cxIn X N scope C s H fp) ifs (canT X.K fc) ∧ PE (cxIn X N scope C s H fp) elt (canD X.K fe) := fun C s H fp => ⟨(hb C s H fp).1.can, (hb C s H fp).2.1.can, (hb C s H fp).2.2.can⟩
  exact ⟨_, pe_comp hc B h1 b4 hs, sim_comp h2 sim_canG sim_canT sim_canD ht⟩
theorem xs_setc {i : Nat} {x : Str} {pos' spos : Pos} (hc : X.calm = true) (hN : X.N.Nodup) (hi' : X.N[i]? = some x) (hx : X.env.scope.names.lookup x = some .local) (B : BlkOk X N M frees scope) (hi : XI X tg iter fi) (ht : Tame fg)
    (hb : ∀ C s H fp, XG (cxIn X N scope C s H fp) tg fg ∧ XTs (cxIn X N scope C s H fp) ifs fc ∧ XD (cxIn X N scope C s H fp) elt fe)
    (hsw : swapsWith (.ListComp elt [⟨tg, iter, ifs, 0⟩] scope pos) (some (.Name x pos')) spos.line X.env = pure true := by rfl)
    (hs : ∀ x, foldedSetIterable iter X.env x = pure x := by intro _; rfl) : XS X (.Assign [.Name x pos'] (.ListComp elt [⟨tg, iter, ifs, 0⟩] scope pos) spos) (sSet i (fComp M frees fi fg fc fe)) := by
  obtain ⟨wi, h1, h2⟩ := hi
  have b4 : ∀ C s H fp, PG (cxIn X N scope C s H fp) tg (canG X.K fg) ∧ PTs (cxIn X N scope C s H fp) ifs (canT X.K fc) ∧ PE (cxIn X N scope C s H fp) elt (canD X.K fe) := fun C s H fp => ⟨(hb C s H fp).1.can, (hb C s H fp).2.1.can, (hb C s H fp).2.2.can⟩
  exact ⟨_, ps_setc hc hN hi' hx B h1 b4 hsw hs, sim_set (sim_comp h2 sim_canG sim_canT sim_canD ht)⟩
def FreesOk (X : Cx) (scope : Scope) : List Str → List Nat → Prop
  | [], [] => True
  | x :: xs, j :: js => (X.N[j]? = some x ∧ (X.env.kindOf x = some .cell ∨ X.env.kindOf x = some .free) ∧ scope.names.lookup x = some .free) ∧ FreesOk X scope xs js
  | _, _ => False
theorem freesOk_at {X : Cx} {scope : Scope} : ∀ {xs : List Str} {js : List Nat}, FreesOk X scope xs js → ∀ (k : Nat) (x : Str), xs[k]? = some x → ∃ j, js[k]? = some j ∧ X.N[j]? = some x ∧ (X.env.kindOf x = some .cell ∨ X.env.kindOf x = some .free) ∧ scope.names.lookup x = some .free
  | [], _, _, _, _, e => by simp at e
  | _ :: _, [], h, _, _, _ => h.elim
  | y :: ys, i :: is, ⟨h1, h2⟩, 0, x, e => by
    have : y = x := by simpa using e
    subst this
    exact ⟨i, rfl, h1⟩
  | y :: ys, i :: is, ⟨h1, h2⟩, k + 1, x, e => by
    obtain ⟨j, q⟩ := freesOk_at h2 k x (by simpa using e)
    exact ⟨j, by simpa using q.1, q.2⟩
theorem freesOk_len {X : Cx} {scope : Scope} : ∀ {xs : List Str} {js : List Nat}, FreesOk X scope xs js → xs.length = js.length
  | [], [], _ => rfl
  | [], _ :: _, h => h.elim
  | _ :: _, [], h => h.elim
  | _ :: ys, _ :: is, ⟨_, h2⟩ => by rw [List.length_cons, List.length_cons, freesOk_len h2]
theorem blk {X : Cx} {scope : Scope} (own free : List Str) (frees : List Nat) (h1 : scope.kind = .function) (h2 : ∀ y ∈ scope.names, y.2 ≠ .cell) (h3 : ∀ y ∈ scope.names, y.2 = .local → scope.names.lookup y.1 = some .local)
    (h4 : (scope.names.all fun p => p.2 != .free || (X.env.cells.lookup p.1).isSome) = true) (h5 : FreesOk X scope free frees) : BlkOk X (own ++ free) own.length frees scope := by
  refine ⟨h1, h2, h3, fun p hp hf => ?_, fun k x e => ?_, by rw [List.length_append, freesOk_len h5]⟩
  · have := List.all_eq_true.mp h4 p hp
    rw [hf] at this
    simpa using this
  · rw [List.getElem?_append_right (Nat.le_add_right _ _), Nat.add_sub_cancel_left] at e
    exact freesOk_at h5 k x e
end
def entry (n : Nat) (ds : List D) : WSt := ds.map (fun d => some (.sh d)) ++ List.replicate (n - ds.length) none
def mir (n : Nat) (body : FS) (ds : List D) : Option O := match body (entry n ds) with
  | some (.rt r, _) => some r
  | some (.nx, _) => some (.sh .non)
  | _ => none
theorem reps_start {K : PySem.W.Frag} {H : Hp} {N : List Str} {ds : List D} {vs : List V} (h : Reps K H ds vs) (i : Nat) (d : D) (e : (entry N.length ds)[i]? = some (some (.sh d))) : ∃ v, (L2.start N vs)[i]? = some (some v) ∧ Rep K H d v := by
  unfold entry at e
  unfold L2.start
  have hl := h.len
  rcases Nat.lt_or_ge i ds.length with y | y
  · rw [List.getElem?_append_left (by simpa using y), List.getElem?_map] at e
    have e1 : ds[i]? = some d := by
      cases q : ds[i]? with
      | none => rw [q] at e; cases e
      | some d' => rw [q] at e; cases e; rfl
    obtain ⟨v, q1, q2⟩ := h.get e1
    refine ⟨v, ?_, q2⟩
    rw [List.getElem?_append_left (by simpa using (by omega : i < vs.length)), List.getElem?_map, q1]; rfl
  · rw [List.getElem?_append_right (by simpa using y), List.getElem?_replicate] at e
    split at e <;> cases e
theorem entry_noOw {n : Nat} {ds : List D} : NoOw (entry n ds) := by
  intro i es z
  unfold entry at z
  rcases Nat.lt_or_ge i ds.length with y | y
  · rw [List.getElem?_append_left (by simpa using y), List.getElem?_map] at z
    cases q : ds[i]? with
    | none => rw [q] at z; cases z
    | some d => rw [q] at z; cases z; exact ⟨d, rfl⟩
  · rw [List.getElem?_append_right (by simpa using y), List.getElem?_replicate] at z
    split at z <;> cases z
theorem fnD {P : Program} {w : World} {K : PySem.W.Frag} {mg : Str → Option Value} {base : Heap} {x qual : Str} {st : Stmt} {f : Addr} {fd : FuncData} {N ps : List Str} {k : Nat} {body : FS} (F : Fun K x qual st f fd) (S : FnScope N ps (defScope st))
    (hb : ∀ (cdv : Value) (A : Around) (outer : List Env) (s : Shared) (H : Hp) (E : XK), Room k (A.deeper (PyProof.Rows.envOfC qual (defScope st) s.heap.objs.size f cdv)) → XSs (cxOf CX0 P w K mg base N qual (defScope st) f cdv A outer s H E).nox (defBody st) body) :
    FnOk P w K mg base CX0 (k + 1) f fd ps (spD K ps.length (mir N.length body)) := by
  refine F.ok S (fun vs H Q E h => ?_) (fun cdv A outer s H vs Q E hr h => ?_)
  · obtain ⟨G, ds, r, _, h2, _, h4, _⟩ := h
    rw [← h4.len]; exact h2
  · obtain ⟨G, ds, r, h1, h2, h3, h4, h5⟩ := h
    obtain ⟨t, p1, p2⟩ := hb cdv A outer s H E hr
    refine ⟨t, p1, ?_⟩
    unfold mir at h1
    have hl := h4.len
    have hpl : ps.length ≤ N.length := by have := congrArg List.length S.pre; rw [List.length_take] at this; omega
    have o0 : Own K G (fr H) G (entry N.length ds) (L2.start N vs) H := by
      refine ⟨Ext.refl h3, ?_, fun i d e => reps_start h4 i d e, fun i es e => absurd e (entry_noOw.ow i es), fun i j es fs l e => absurd e (entry_noOw.ow i es), fun i ks es e => absurd e (entry_noOw.od i ks es), PwOk.no entry_noOw.pw⟩
      unfold entry L2.start
      simp only [List.length_append, List.length_map, List.length_replicate]
      omega
    cases q : body (entry N.length ds) with
    | none => rw [q] at h1; cases h1
    | some p =>
      obtain ⟨out, ω'⟩ := p
      rw [q] at h1
      refine p2 G (fr H) G _ _ H out ω' _ o0 q fun G' σ' H' o' s' => ?_
      cases out with
      | nx => cases h1; exact h5 _ G' H' o'.ext rfl
      | bk => cases h1
      | ct => cases h1
      | rt r' => cases h1; exact fun v y => h5 v G' H' o'.ext y
end Hk
set_option maxRecDepth 100000
namespace Hk
open PySem L2
theorem bt_len : bootBuiltins "len" = some (.builtin "len") := by decide +kernel
theorem bt_all : bootBuiltins "all" = some (.builtin "all") := by decide +kernel
theorem bt_sorted : bootBuiltins "sorted" = some (.builtin "sorted") := by decide +kernel
theorem bt_int : bootBuiltins "int" = some (.type "int") := by decide +kernel
theorem bt_bool : bootBuiltins "bool" = some (.type "bool") := by decide +kernel
theorem bt_list : bootBuiltins "list" = some (.type "list") := by decide +kernel
theorem bt_tuple : bootBuiltins "tuple" = some (.type "tuple") := by decide +kernel
theorem bt_set : bootBuiltins "set" = some (.type "set") := by decide +kernel
theorem bt_zip : bootBuiltins "zip" = some (.type "zip") := by decide +kernel
end Hk
set_option maxRecDepth 100000
namespace Hk
open PySem L2
def bindS (o : Option (Out × WSt)) (g : FS) : Option (Out × WSt) := o.bind fun p => match p.1 with
  | .nx => g p.2
  | o => some (o, p.2)
def setS (i : Nat) (ω : WSt) (o : Option R) : Option (Out × WSt) := o.bind fun r => (setR i r ω).map fun w => (.nx, w)
def ifS (c : Option Bool) (f g : FS) (ω : WSt) : Option (Out × WSt) := c.bind fun b => if b = true then f ω else g ω
def retS (ω : WSt) (o : Option R) : Option (Out × WSt) := o.bind fun r => match r with
  | .sh d => some (.rt (.sh d), ω)
  | .fr ds => some (.rt (.fr ds), ω)
  | .vw _ => none
def retV (ω : WSt) (o : Option (Option W)) : Option (Out × WSt) := match o with
  | some (some (.sh d)) => some (.rt (.sh d), ω)
  | some (some (.ow ds)) => some (.rt (.fr ds), ω)
  | _ => none
def appS (i : Nat) (ω : WSt) (o : Option D) (l : Option (Option W)) : Option (Out × WSt) := o.bind fun d => match l with
  | some (some (.ow ds)) => if ds.length < 1000000 then some (.nx, ω.set i (some (.ow (ds ++ [d])))) else none
  | _ => none
def extS (i : Nat) (ω : WSt) (o : Option D) (l : Option (Option W)) : Option (Out × WSt) := o.bind fun d => (itemsOf d).bind fun es => match l with
  | some (some (.ow ds)) => if ds.length + es.length ≤ 1000000 then some (.nx, ω.set i (some (.ow (ds ++ es)))) else none
  | _ => none
def shrS (i : Nat) (ω : WSt) (o : Option (Option W)) : WSt := match o with
  | some (some (.ow ds)) => ω.set i (some (.sh (.lst ds)))
  | some (some (.od ks ds)) => ω.set i (some (.sh (.dic ks ds)))
  | _ => ω
def forS (o : Option (List D)) (g : FG) (b : FS) (ω : WSt) : Option (Out × WSt) := o.bind fun ds => forD g b ds ω
def asgS (o : Option D) (g : FG) (ω : WSt) : Option (Out × WSt) := o.bind fun d => (g d ω).map fun w => (.nx, w)
def varR (o : Option (Option W)) : Option R := match o with
  | some (some (.sh d)) => some (.sh d)
  | some (some (.ow ds)) => some (.vw ds)
  | some (some (.pw ds)) => some (.vw ds)
  | _ => none
def eD (o : Option D) : Option R := o.map R.sh
def dR (o : Option R) : Option D := match o with
  | some (.sh d) => some d
  | some (.fr ds) => some (.lst ds)
  | _ => none
def vR (o : Option R) : Option D := o.map R.d
def op2 (op : D → D → Option R) (x y : Option D) : Option R := x.bind fun x => y.bind fun y => op x y
def callR (m : List D → Option O) (o : Option (List D)) : Option R := o.bind fun ds => (m ds).map O.r
def consA (o : Option D) (r : Option (List D)) : Option (List D) := o.bind fun d => r.map fun ds => d :: ds
def bltR (op : List D → Option R) (o : Option (List D)) : Option R := o.bind op
def slR (o : Option D) (l h : Option (Option Int)) : Option R := o.bind fun d => l.bind fun lo => h.bind fun hi => oSl d lo hi
def atP (o : Option D) : Option (Option Int) := o.bind fun d => match d with | .int i => some (some i) | _ => none
def iteR (c : Option Bool) (f g : FE) (ω : WSt) : Option R := c.bind fun k => if k = true then f ω else g ω
def isiR (c : Ty) (o : Option D) : Option R := o.bind fun d => match d with
  | .scr _ => none
  | .exc _ => none
  | .dic _ _ => none
  | d => some (.sh (.bl (subT (tyD d) c)))
def tR (o : Option R) : Option Bool := match o with
  | some (.sh (.bl k)) => some k
  | _ => none
def andT (o : Option Bool) (g : FT) (ω : WSt) : Option Bool := o.bind fun c => if c = true then g ω else some false
def orT (o : Option Bool) (g : FT) (ω : WSt) : Option Bool := o.bind fun c => if c = true then some true else g ω
def notT (o : Option Bool) : Option Bool := o.map (!·)
def truT (o : Option D) : Option Bool := o.bind truD
def andV (o : Option D) (g : FD) (ω : WSt) : Option D := o.bind fun d => (blOf d).bind fun c => if c = true then g ω else some (.bl false)
def orV (o : Option D) (g : FD) (ω : WSt) : Option D := o.bind fun d => (blOf d).bind fun c => if c = true then some (.bl true) else g ω
def notV (o : Option D) : Option D := o.bind fun d => (blOf d).map fun c => .bl (!c)
def seqI (o : Option D) : Option (List D) := o.bind itemsOf
def rg1I (o : Option (List D)) : Option (List D) := o.bind fun ds => match ds with
  | [.int j] => if -(2 ^ 62) ≤ j ∧ j < 2 ^ 62 then some (upTo 0 j.toNat) else none
  | _ => none
def rg2I (o : Option (List D)) : Option (List D) := o.bind fun ds => match ds with
  | [.int i, .int j] => if (-(2 ^ 62) ≤ i ∧ i < 2 ^ 62) ∧ -(2 ^ 62) ≤ j ∧ j < 2 ^ 62 then some (upTo i (j - i).toNat) else none
  | _ => none
def compR (M : Nat) (fr : List Nat) (o : Option (List D)) (g : FG) (c : FT) (f : FD) (ω : WSt) : Option R := o.bind fun ds => if ds.length ≤ 1000000 then (compD g c f ds (inW M fr ω)).map R.fr else none
def outM (o : Option (Out × WSt)) : Option O := match o with
  | some (.rt r, _) => some r
  | some (.nx, _) => some (.sh .non)
  | _ => none
section
variable {f g : FS} {ω w : WSt} {i : Nat} {fe fe' : FE} {fd fd' : FD} {ft ft' : FT} {r : O} {d d' : D} {ds ds' : List D} {a b : Int} {p q : Bool} {fa : FA} {fg : FG} {fi : FI} {n : Nat}
theorem e_mir : mir n f ds = outM (f (entry n ds)) := rfl
theorem e_om_rt : outM (some (.rt r, w)) = some r := rfl
theorem e_om_nx : outM (some (.nx, w)) = some (.sh .non) := rfl
theorem e_seq : sSeq f g ω = bindS (f ω) g := rfl
theorem e_bs_nx : bindS (some (.nx, w)) g = g w := rfl
theorem e_bs_rt : bindS (some (.rt r, w)) g = some (.rt r, w) := rfl
theorem e_bs_bk : bindS (some (.bk, w)) g = some (.bk, w) := rfl
theorem e_bs_ct : bindS (some (.ct, w)) g = some (.ct, w) := rfl
theorem e_nil : sNil ω = some (.nx, ω) := rfl
theorem e_brk : sBreak ω = some (.bk, ω) := rfl
theorem e_cnt : sCont ω = some (.ct, ω) := rfl
theorem e_set : sSet i fe ω = setS i ω (fe ω) := rfl
theorem e_ss_sh : setS i ω (some (.sh d)) = some (.nx, ω.set i (some (.sh d))) := rfl
theorem e_ss_fr : setS i ω (some (.fr ds)) = some (.nx, ω.set i (some (.ow ds))) := rfl
theorem e_if : sIf ft f g ω = ifS (ft ω) f g ω := rfl
theorem e_if_t : ifS (some true) f g ω = f ω := rfl
theorem e_if_f : ifS (some false) f g ω = g ω := rfl
theorem e_ret : sRet fe ω = retS ω (fe ω) := rfl
theorem e_rs_sh : retS ω (some (.sh d)) = some (.rt (.sh d), ω) := rfl
theorem e_rs_fr : retS ω (some (.fr ds)) = some (.rt (.fr ds), ω) := rfl
theorem e_retn : sRetN ω = some (.rt (.sh .non), ω) := rfl
theorem e_retv : sRetV i ω = retV ω ω[i]? := rfl
theorem e_rv_sh : retV ω (some (some (.sh d))) = some (.rt (.sh d), ω) := rfl
theorem e_rv_ow : retV ω (some (some (.ow ds))) = some (.rt (.fr ds), ω) := rfl
theorem e_app : sApp i fd ω = appS i ω (fd ω) ω[i]? := rfl
theorem e_as (h : ds.length < 1000000) : appS i ω (some d) (some (some (.ow ds))) = some (.nx, ω.set i (some (.ow (ds ++ [d])))) := if_pos h
theorem e_ext : sExt i fd ω = extS i ω (fd ω) ω[i]? := rfl
theorem e_es_t (h : ds.length + ds'.length ≤ 1000000) : extS i ω (some (.tup ds')) (some (some (.ow ds))) = some (.nx, ω.set i (some (.ow (ds ++ ds')))) := if_pos h
theorem e_es_l (h : ds.length + ds'.length ≤ 1000000) : extS i ω (some (.lst ds')) (some (some (.ow ds))) = some (.nx, ω.set i (some (.ow (ds ++ ds')))) := if_pos h
theorem e_share : sShare i f ω = f (shrS i ω ω[i]?) := rfl
theorem e_sh_ow : shrS i ω (some (some (.ow ds))) = ω.set i (some (.sh (.lst ds))) := rfl
theorem e_sh_sh : shrS i ω (some (some (.sh d))) = ω := rfl
theorem e_sh_no : shrS i ω (some none) = ω := rfl
theorem e_for : sFor fi fg f ω = forS (fi ω) fg f ω := rfl
theorem e_fs : forS (some ds) fg f ω = forD fg f ds ω := rfl
theorem e_asg : sAsg fd fg ω = asgS (fd ω) fg ω := rfl
theorem e_ag : asgS (some d) fg ω = (fg d ω).map fun w => (.nx, w) := rfl
theorem e_gn : gN i d ω = some (ω.set i (some (.sh d))) := rfl
theorem e_gt {gs} : gT n gs (.tup ds) ω = if ds.length = n then gs ds ω else none := rfl
theorem e_gc {gs} : gsCons fg gs (d :: ds) ω = (fg d ω).bind fun w => gs ds w := rfl
theorem e_g0 : gsNil [] ω = some ω := rfl
theorem e_var : fVar i ω = varR ω[i]? := rfl
theorem e_vr_sh : varR (some (some (.sh d))) = some (.sh d) := rfl
theorem e_vr_ow : varR (some (some (.ow ds))) = some (.vw ds) := rfl
theorem e_c : fC d ω = some d := rfl
theorem e_e : eOf fd ω = eD (fd ω) := rfl
theorem e_ed : eD (some d) = some (.sh d) := rfl
theorem e_d : dOf fe ω = dR (fe ω) := rfl
theorem e_dr_sh : dR (some (.sh d)) = some d := rfl
theorem e_dr_fr : dR (some (.fr ds)) = some (.lst ds) := rfl
theorem e_v : vOf fe ω = vR (fe ω) := rfl
theorem e_vv_sh : vR (some (.sh d)) = some d := rfl
theorem e_vv_fr : vR (some (.fr ds)) = some (.lst ds) := rfl
theorem e_vv_vw : vR (some (.vw ds)) = some (.lst ds) := rfl
theorem e_op {op} : fOpE op fd fd' ω = op2 op (fd ω) (fd' ω) := rfl
theorem e_o2 {op} : op2 op (some d) (some d') = op d d' := rfl
theorem e_call {m} : fCall m fa ω = callR m (fa ω) := rfl
theorem e_cl {m} : callR m (some ds) = (m ds).map O.r := rfl
theorem e_or_sh : (O.sh d).r = .sh d := rfl
theorem e_or_fr : (O.fr ds).r = .fr ds := rfl
theorem e_ac : aCons fd fa ω = consA (fd ω) (fa ω) := rfl
theorem e_ca : consA (some d) (some ds) = some (d :: ds) := rfl
theorem e_an : aNil ω = some [] := rfl
theorem e_lst : fLst fa ω = (fa ω).map R.fr := rfl
theorem e_tup : fTup fa ω = (fa ω).map D.tup := rfl
theorem e_mf : (some ds).map R.fr = some (.fr ds) := rfl
theorem e_mt : (some ds).map D.tup = some (.tup ds) := rfl
theorem e_blt {op} : fBlt op fa ω = bltR op (fa ω) := rfl
theorem e_bl {op} : bltR op (some ds) = op ds := rfl
theorem e_slc {l h : FO} : fSl fd l h ω = slR (fd ω) (l ω) (h ω) := rfl
theorem e_sl {lo hi : Option Int} : slR (some d) (some lo) (some hi) = oSl d lo hi := rfl
theorem e_po : pNo ω = some none := rfl
theorem e_pa : pAt fd ω = atP (fd ω) := rfl
theorem e_ap : atP (some (.int a)) = some (some a) := rfl
theorem e_ite : fIte ft fe fe' ω = iteR (ft ω) fe fe' ω := rfl
theorem e_it_t : iteR (some true) fe fe' ω = fe ω := rfl
theorem e_it_f : iteR (some false) fe fe' ω = fe' ω := rfl
theorem e_isi {c} : fIsi c fd ω = isiR c (fd ω) := rfl
theorem e_isi_int {c} : isiR c (some (.int a)) = some (.sh (.bl (subT .int c))) := rfl
theorem e_isi_bl {c} : isiR c (some (.bl p)) = some (.sh (.bl (subT .bl c))) := rfl
theorem e_isi_non {c} : isiR c (some .non) = some (.sh (.bl (subT .non c))) := rfl
theorem e_isi_str {c x} : isiR c (some (.str x)) = some (.sh (.bl (subT .str c))) := rfl
theorem e_isi_lst {c} : isiR c (some (.lst ds)) = some (.sh (.bl (subT .lst c))) := rfl
theorem e_isi_tup {c} : isiR c (some (.tup ds)) = some (.sh (.bl (subT .tup c))) := rfl
theorem e_t : tOf fe ω = tR (fe ω) := rfl
theorem e_tr : tR (some (.sh (.bl p))) = some p := rfl
theorem e_tand : tAndF ft ft' ω = andT (ft ω) ft' ω := rfl
theorem e_ta_t : andT (some true) ft ω = ft ω := rfl
theorem e_ta_f : andT (some false) ft ω = some false := rfl
theorem e_ta : andT (some p) ft ω = if p = true then ft ω else some false := rfl
theorem e_ta2 : (if p = true then some q else some false) = some (p && q) := by cases p <;> rfl
theorem e_tor : tOrF ft ft' ω = orT (ft ω) ft' ω := rfl
theorem e_to_t : orT (some true) ft ω = some true := rfl
theorem e_to_f : orT (some false) ft ω = ft ω := rfl
theorem e_to : orT (some p) ft ω = if p = true then some true else ft ω := rfl
theorem e_to2 : (if p = true then some true else some q) = some (p || q) := by cases p <;> rfl
theorem e_tnot : tNotF ft ω = notT (ft ω) := rfl
theorem e_tn : notT (some p) = some (!p) := rfl
theorem e_ttru : tTru fd ω = truT (fd ω) := rfl
theorem e_tt_bl : truT (some (.bl p)) = some p := rfl
theorem e_tt_int : truT (some (.int a)) = some (a != 0) := rfl
theorem e_tt_lst : truT (some (.lst ds)) = some (!ds.isEmpty) := rfl
theorem e_tt_tup : truT (some (.tup ds)) = some (!ds.isEmpty) := rfl
theorem e_tt_non : truT (some .non) = some false := rfl
theorem e_ttt : tTrue ω = some true := rfl
theorem e_vand : vAnd fd fd' ω = andV (fd ω) fd' ω := rfl
theorem e_va_t : andV (some (.bl true)) fd ω = fd ω := rfl
theorem e_va_f : andV (some (.bl false)) fd ω = some (.bl false) := rfl
theorem e_va : andV (some (.bl p)) fd ω = if p = true then fd ω else some (.bl false) := rfl
theorem e_va2 : (if p = true then some (D.bl q) else some (D.bl false)) = some (.bl (p && q)) := by cases p <;> rfl
theorem e_vor : vOr fd fd' ω = orV (fd ω) fd' ω := rfl
theorem e_vo_t : orV (some (.bl true)) fd ω = some (.bl true) := rfl
theorem e_vo_f : orV (some (.bl false)) fd ω = fd ω := rfl
theorem e_vo : orV (some (.bl p)) fd ω = if p = true then some (.bl true) else fd ω := rfl
theorem e_vo2 : (if p = true then some (D.bl true) else some (D.bl q)) = some (.bl (p || q)) := by cases p <;> rfl
theorem e_vnot : vNot fd ω = notV (fd ω) := rfl
theorem e_vn : notV (some (.bl p)) = some (.bl (!p)) := rfl
theorem e_iseq : iSeq fd ω = seqI (fd ω) := rfl
theorem e_is_l : seqI (some (.lst ds)) = some ds := rfl
theorem e_is_t : seqI (some (.tup ds)) = some ds := rfl
theorem e_rg1 : iRg1 fa ω = rg1I (fa ω) := rfl
theorem e_rg2 : iRg2 fa ω = rg2I (fa ω) := rfl
theorem r1_ok (h : -(2 ^ 62) ≤ a ∧ a < 2 ^ 62) : rg1I (some [.int a]) = some (upTo 0 a.toNat) := if_pos h
theorem e_comp {M fr} : fComp M fr fi fg ft fd ω = compR M fr (fi ω) fg ft fd ω := rfl
theorem e_cp {M fr} (h : ds.length ≤ 1000000) : compR M fr (some ds) fg ft fd ω = (compD fg ft fd ds (inW M fr ω)).map R.fr := if_pos h
theorem e_neg : fNeg fd ω = (fd ω).bind oNeg := rfl
theorem e_ng : oNeg (.int a) = some (.sh (.int (-a))) := rfl
theorem e_len_l : bLen [.lst ds] = some (.sh (.int ds.length)) := rfl
theorem e_len_t : bLen [.tup ds] = some (.sh (.int ds.length)) := rfl
theorem e_len_s {ns} : bLen [.scr ns] = some (.sh (.int ns.length)) := rfl
theorem e_list_l : bList [.lst ds] = some (.fr ds) := rfl
theorem e_list_t : bList [.tup ds] = some (.fr ds) := rfl
theorem e_tuple_l : bTuple [.lst ds] = some (.sh (.tup ds)) := rfl
theorem e_tuple_t : bTuple [.tup ds] = some (.sh (.tup ds)) := rfl
theorem oEq_ii : oEq false (.int a) (.int b) = some (.sh (.bl (a == b))) := rfl
theorem oNe_ii : oEq true (.int a) (.int b) = some (.sh (.bl (!(a == b)))) := rfl
theorem oEq_bb : oEq false (.bl p) (.bl q) = some (.sh (.bl (p == q))) := rfl
theorem oSub_ii : oSub (.int a) (.int b) = some (.sh (.int (a - b))) := rfl
theorem oLt_ii : oLt (.int a) (.int b) = some (.sh (.bl (decide (a < b)))) := rfl
theorem oLe_ii : oLe (.int a) (.int b) = some (.sh (.bl (decide (a ≤ b)))) := rfl
theorem oGt_ii : oGt (.int a) (.int b) = some (.sh (.bl (decide (b < a)))) := rfl
theorem oGe_ii : oGe (.int a) (.int b) = some (.sh (.bl (decide (b ≤ a)))) := rfl
theorem oAdd_ii : oAdd (.int a) (.int b) = some (.sh (.int (a + b))) := rfl
theorem oIs_bb : oIs false (.bl p) (.bl q) = some (.sh (.bl (p == q))) := rfl
theorem oIsn_bb : oIs true (.bl p) (.bl q) = some (.sh (.bl (!(p == q)))) := rfl
theorem oIs_n : oIs false d .non = some (.sh (.bl (isN d))) := by cases d <;> rfl
theorem oIsn_n : oIs true d .non = some (.sh (.bl (!isN d))) := by cases d <;> rfl
theorem oIx_l : oIx (.lst ds) (.int a) = (atI ds a).map R.sh := rfl
theorem oIx_t : oIx (.tup ds) (.int a) = (atI ds a).map R.sh := rfl
theorem oIx_s {ns : List Int} : oIx (.scr ns) (.int a) = (atI ns a).map fun n => .sh (.int n) := rfl
theorem e_ms : (some d).map R.sh = some (.sh d) := rfl
theorem atI_nn {α : Type} {xs : List α} {i : Int} (h0 : 0 ≤ i) (h1 : i < xs.length) : atI xs i = some (xs[i.toNat]'(by omega)) := by
  unfold atI ixN
  rw [if_pos h0, if_pos h1]
  show xs[i.toNat]? = _
  rw [List.getElem?_eq_getElem (by omega)]
theorem at0 {α : Type} {x : α} {xs : List α} : atI (x :: xs) 0 = some x := by
  rw [atI_nn (by decide) (by rw [List.length_cons]; omega)]; rfl
theorem at1 {α : Type} {x y : α} {xs : List α} : atI (x :: y :: xs) 1 = some y := by
  rw [atI_nn (by decide) (by rw [List.length_cons, List.length_cons]; omega)]; rfl
theorem at2 {α : Type} {x y z : α} {xs : List α} : atI (x :: y :: z :: xs) 2 = some z := by
  rw [atI_nn (by decide) (by rw [List.length_cons, List.length_cons, List.length_cons]; omega)]; rfl
theorem cDiv_ok {i j : Int} (h0 : 0 < j) (h1 : j < 1073741824) : cDiv i j = true := by unfold cDiv; rw [decide_eq_true h0, decide_eq_true h1]; rfl
theorem cMod_ok {i j : Int} (h0 : 0 < j) : cMod i j = true := by unfold cMod; rw [decide_eq_true h0]
theorem cMulR_ok {i j : Int} (h0 : -(2 ^ 64) < j) (h1 : j < 2 ^ 64) : cMul i j = true := by unfold cMul; rw [decide_eq_true h0, decide_eq_true h1]; simp
theorem cMulL_ok {i j : Int} (h0 : -(2 ^ 64) < i) (h1 : i < 2 ^ 64) : cMul i j = true := by unfold cMul; rw [decide_eq_true h0, decide_eq_true h1]; simp
theorem oMod_ii (h : 0 < b) : oMod (.int a) (.int b) = some (.sh (.int (a % b))) := if_pos (cMod_ok h)
theorem oDiv_ii (h : 0 < b) (h' : b < 1073741824) : oDiv (.int a) (.int b) = some (.sh (.int (a / b))) := if_pos (cDiv_ok h h')
theorem oMulR_ii (h : -(2 ^ 64) < b) (h' : b < 2 ^ 64) : oMul (.int a) (.int b) = some (.sh (.int (a * b))) := if_pos (cMulR_ok h h')
theorem oMulL_ii (h : -(2 ^ 64) < a) (h' : a < 2 ^ 64) : oMul (.int a) (.int b) = some (.sh (.int (a * b))) := if_pos (cMulL_ok h h')
end
def stepS (o : Option (Out × WSt)) (P : WSt → Prop) : Prop := match o with
  | some (.nx, ω) => P ω
  | some (.ct, ω) => P ω
  | _ => False
theorem e_st_nx {ω : WSt} {P : WSt → Prop} : stepS (some (.nx, ω)) P = P ω := rfl
theorem e_st_ct {ω : WSt} {P : WSt → Prop} : stepS (some (.ct, ω)) P = P ω := rfl
theorem forD_map {α : Type} {g : FG} {b : FS} (F : α → D) (xs : List α) (I : List α → WSt → Prop)
    (turn : ∀ pre x post ω, xs = pre ++ x :: post → I pre ω → ∃ w, g (F x) ω = some w ∧ stepS (b w) (I (pre ++ [x])))
    {ω : WSt} (h0 : I [] ω) : ∃ ω', forD g b (xs.map F) ω = some (.nx, ω') ∧ I xs ω' := by
  have key : ∀ (post pre : List α) (ω : WSt), xs = pre ++ post → I pre ω → ∃ ω', forD g b (post.map F) ω = some (.nx, ω') ∧ I xs ω' := by
    intro post
    induction post with
    | nil => intro pre ω e h; exact ⟨ω, rfl, by rw [e, List.append_nil]; exact h⟩
    | cons d post ih =>
      intro pre ω e h
      obtain ⟨w, h1, h2⟩ := turn pre d post ω e h
      rw [List.map_cons, forD, h1, Option.bind_some]
      match hb : b w, h2 with
      | some (.nx, ω2), h2 => exact ih (pre ++ [d]) ω2 (by rw [e, List.append_assoc]; rfl) h2
      | some (.ct, ω2), h2 => exact ih (pre ++ [d]) ω2 (by rw [e, List.append_assoc]; rfl) h2
  exact key xs [] ω rfl h0
theorem forD_upTo {g : FG} {b : FS} (lo : Int) (n : Nat) (I : Nat → WSt → Prop) (turn : ∀ i ω, i < n → I i ω → ∃ w, g (.int (lo + i)) ω = some w ∧ stepS (b w) (I (i + 1)))
    {ω : WSt} (h0 : I 0 ω) : ∃ ω', forD g b (Hk.upTo lo n) ω = some (.nx, ω') ∧ I n ω' := by
  unfold Hk.upTo
  obtain ⟨ω', e, h⟩ := forD_map (g := g) (b := b) (fun (i : Nat) => D.int (lo + (i : Int))) (List.range n) (fun pre ω => I pre.length ω) (fun pre x post ω e h => by
    have hx : x = pre.length := by
      have := congrArg (fun l => l[pre.length]?) e
      rw [List.getElem?_append_right (Nat.le_refl _), Nat.sub_self] at this
      rcases Nat.lt_or_ge pre.length n with z | z
      · rw [List.getElem?_range z] at this; simpa using this.symm
      · rw [List.getElem?_eq_none (by rw [List.length_range]; exact z)] at this; cases this
    have hlt : pre.length < n := by
      have := congrArg List.length e
      rw [List.length_range, List.length_append, List.length_cons] at this
      omega
    subst hx
    obtain ⟨w, h1, h2⟩ := turn pre.length ω hlt h
    refine ⟨w, h1, ?_⟩
    rw [List.length_append]; exact h2) h0
  rw [List.length_range] at h
  exact ⟨ω', e, h⟩
theorem compD_rel {g : FG} {c : FT} {f : FD} (P : WSt → Prop) (q : D → Bool) (F : D → D) : ∀ (ds : List D) {ω : WSt}, P ω →
    (∀ d ∈ ds, ∀ ω, P ω → ∃ w, g d ω = some w ∧ P w ∧ c w = some (q d) ∧ (q d = true → f w = some (F d))) → compD g c f ds ω = some ((ds.filter q).map F)
  | [], _, _, _ => rfl
  | d :: ds, ω, h, t => by
    obtain ⟨w, h1, h2, h3, h4⟩ := t d List.mem_cons_self ω h
    have ih := compD_rel P q F ds h2 (fun e he => t e (List.mem_cons_of_mem _ he))
    rw [compD, h1, Option.bind_some, h3, Option.bind_some]
    cases hq : q d with
    | true => rw [if_pos rfl, h4 hq, Option.bind_some, ih, List.filter_cons_of_pos hq]; rfl
    | false => rw [if_neg (by decide), ih, List.filter_cons_of_neg (by rw [hq]; decide)]
theorem compD_map {i : Nat} {f : FD} (F : D → D) (ds : List D) {ω : WSt} (h : ∀ d ∈ ds, f (ω.set i (some (.sh d))) = some (F d)) : compD (gN i) tTrue f ds ω = some (ds.map F) := by
  have := compD_rel (g := gN i) (c := tTrue) (f := f) (fun w => ∀ x, w.set i x = ω.set i x) (fun _ => true) F ds (ω := ω) (fun x => rfl) fun d hd w hw =>
    ⟨w.set i (some (.sh d)), rfl, fun x => by rw [List.set_set, hw], rfl, fun _ => by rw [hw]; exact h d hd⟩
  rw [this, List.filter_eq_self.mpr (fun _ _ => rfl)]
theorem oSl_l {ds : List D} {lo hi : Option Int} : oSl (.lst ds) lo hi = some (.fr (cutD ds lo hi)) := rfl
theorem oSl_s {ns : List Int} {lo hi : Option Int} : oSl (.scr ns) lo hi = some (.fr ((cutD ns lo hi).map D.int)) := rfl
theorem inV_ints (a : Int) : ∀ (ns : List Int), inD (.int a) (ns.map D.int) = decide (a ∈ ns)
  | [] => rfl
  | n :: r => by
    have ih := inV_ints a r
    unfold inD inV at ih ⊢
    rw [List.map_cons, List.map_cons, List.any_cons, ih]
    have e : eqV (D.int n).v (D.int a).v = decide (a = n) := by
      show (n == a) = _
      by_cases h : a = n
      · subst h; simp
      · rw [decide_eq_false h]; simpa using fun z => h z.symm
    rw [e]
    by_cases h : a = n
    · simp [h]
    · by_cases h' : a ∈ r <;> simp [h, h']
theorem all_flat (ns : List Int) : (ns.map D.int).all flatD = true := by
  rw [List.all_map]; exact List.all_eq_true.mpr fun _ _ => rfl
theorem oIn_il {a : Int} {ns : List Int} : oIn false (.int a) (.lst (ns.map D.int)) = some (.sh (.bl (decide (a ∈ ns)))) := by
  show (if (flatD (.int a) && (ns.map D.int).all flatD) = true then _ else _) = _
  rw [all_flat]
  show some (R.sh (D.bl (inD _ _))) = _
  rw [inV_ints]
theorem eqD_refl {d : D} (h : shp d = true) : eqD d d = true := SeqAt.eqv_refl d.py (SeqAt.canLay_of_shaped h)
theorem oEq_self {d : D} (h : shp d = true) : oEq false d d = some (.sh (.bl true)) := by
  unfold oEq; rw [h]; show some (R.sh (D.bl (eqD d d))) = _; rw [eqD_refl h]
theorem oNe_self {d : D} (h : shp d = true) : oEq true d d = some (.sh (.bl false)) := by
  unfold oEq; rw [h]; show some (R.sh (D.bl (!eqD d d))) = _; rw [eqD_refl h]; rfl
theorem shp_lst {ds : List D} (n : Nat) (hn : n < 64) (h : ∀ d ∈ ds, d.py.canLay0 = true ∧ d.py.depth ≤ n) : shp (.lst ds) = true := by
  unfold shp SeqAt.shaped
  have : ∀ ds : List D, (∀ d ∈ ds, d.py.canLay0 = true ∧ d.py.depth ≤ n) → PyData.canLayAll0 (D.pys ds) = true ∧ PyData.depthAll (D.pys ds) ≤ n := by
    intro ds
    induction ds with
    | nil => intro _; exact ⟨rfl, Nat.zero_le _⟩
    | cons d ds ih =>
      intro h
      obtain ⟨a, b⟩ := ih fun e he => h e (List.mem_cons_of_mem _ he)
      obtain ⟨a', b'⟩ := h d List.mem_cons_self
      refine ⟨?_, ?_⟩
      · rw [D.pys, PyData.canLayAll0, a, a']; rfl
      · rw [D.pys, PyData.depthAll]; exact Nat.max_le.mpr ⟨b', b⟩
  obtain ⟨a, b⟩ := this ds h
  show (PyData.canLayAll0 (D.pys ds) && decide (PyData.depthAll (D.pys ds) + 1 ≤ 64)) = true
  rw [a, decide_eq_true (by omega)]; rfl
end Hk
set_option maxRecDepth 100000
namespace Hk
open PySem L2
def insU (x : Int) : List Int → List Int
  | [] => [x]
  | y :: r => if x < y then x :: y :: r else if x = y then y :: r else y :: insU x r
def sortU (ns : List Int) : List Int := ns.foldr insU []
theorem mem_insU {x y : Int} : ∀ {l : List Int}, y ∈ insU x l ↔ y = x ∨ y ∈ l
  | [] => by simp [insU]
  | z :: r => by
    unfold insU
    split
    · simp
    · split
      · rename_i h; subst h; simp
      · simp only [List.mem_cons, mem_insU (l := r)]
        constructor
        · rintro (h | h | h) <;> simp [h]
        · rintro (h | h | h) <;> simp [h]
theorem rise_insU {x : Int} : ∀ {l : List Int}, l.Pairwise (· < ·) → (insU x l).Pairwise (· < ·)
  | [], _ => by simp [insU]
  | z :: r, h => by
    obtain ⟨h1, h2⟩ := List.pairwise_cons.mp h
    unfold insU
    split
    · rename_i hx
      refine List.pairwise_cons.mpr ⟨fun y hy => ?_, h⟩
      rcases List.mem_cons.mp hy with rfl | hy
      · exact hx
      · exact Int.lt_trans hx (h1 y hy)
    · split
      · exact h
      · refine List.pairwise_cons.mpr ⟨fun y hy => ?_, rise_insU h2⟩
        rcases mem_insU.mp hy with rfl | hy
        · omega
        · exact h1 y hy
theorem mem_sortU {y : Int} : ∀ {ns : List Int}, y ∈ sortU ns ↔ y ∈ ns
  | [] => by simp [sortU]
  | x :: r => by
    show y ∈ insU x (sortU r) ↔ _
    rw [mem_insU, mem_sortU (ns := r), List.mem_cons]
theorem rise_sortU : ∀ {ns : List Int}, (sortU ns).Pairwise (· < ·)
  | [] => List.Pairwise.nil
  | x :: r => rise_insU (rise_sortU (ns := r))
theorem insU_len {x : Int} : ∀ (l : List Int), (insU x l).length ≤ l.length + 1
  | [] => by simp [insU]
  | z :: r => by
    have := insU_len (x := x) r
    unfold insU
    split
    · simp
    · split
      · simp
      · rw [List.length_cons, List.length_cons]; omega
theorem sortU_len : ∀ (l : List Int), (sortU l).length ≤ l.length
  | [] => Nat.le_refl _
  | x :: r => by
    have h1 := insU_len (x := x) (sortU r)
    have h2 := sortU_len r
    show (insU x (sortU r)).length ≤ _
    rw [List.length_cons]; omega
theorem rise_eq : ∀ {l m : List Int}, l.Pairwise (· < ·) → m.Pairwise (· < ·) → (∀ x, x ∈ l ↔ x ∈ m) → l = m
  | [], [], _, _, _ => rfl
  | [], y :: r, _, _, h => absurd ((h y).mpr List.mem_cons_self) (by simp)
  | x :: r, [], _, _, h => absurd ((h x).mp List.mem_cons_self) (by simp)
  | x :: r, y :: q, hl, hm, h => by
    obtain ⟨a1, a2⟩ := List.pairwise_cons.mp hl
    obtain ⟨b1, b2⟩ := List.pairwise_cons.mp hm
    have e : x = y := by
      rcases List.mem_cons.mp ((h x).mp List.mem_cons_self) with e | e
      · exact e
      · rcases List.mem_cons.mp ((h y).mpr List.mem_cons_self) with f | f
        · exact f.symm
        · have := b1 x e; have := a1 y f; omega
    subst e
    rw [rise_eq a2 b2 fun z => ?_]
    constructor
    · intro hz
      rcases List.mem_cons.mp ((h z).mp (List.mem_cons_of_mem _ hz)) with f | f
      · have := a1 z hz; omega
      · exact f
    · intro hz
      rcases List.mem_cons.mp ((h z).mpr (List.mem_cons_of_mem _ hz)) with f | f
      · have := b1 z hz; omega
      · exact f
theorem le_nodup_lt {l : List Int} (h : l.Pairwise (· ≤ ·)) (n : l.Nodup) : l.Pairwise (· < ·) := by
  induction l with
  | nil => exact List.Pairwise.nil
  | cons x r ih =>
    obtain ⟨h1, h2⟩ := List.pairwise_cons.mp h
    obtain ⟨n1, n2⟩ := List.nodup_cons.mp n
    refine List.pairwise_cons.mpr ⟨fun y hy => ?_, ih h2 n2⟩
    have := h1 y hy
    have : x ≠ y := fun e => n1 (e ▸ hy)
    omega
def setP (w : World) (S : Addr) (ns : List Int) : Heap → Prop := fun h => SetV h S (ledOf w) (fun i => ns.getD i 0) ns.length
def rSet (w : World) : List V → Hp → VK → Prop := fun xs H Q => ∃ p ns, xs = [.ref p] ∧ H p = some (.lst (ns.map V.int)) ∧ ns.length + 1 < 4096 ∧ ∀ S, H S = none → Q (.ref S) (upd H S (.ext (setP w S ns)))
def rSortS (w : World) : List V → Hp → VK → Prop := fun xs H Q => ∃ S ns, xs = [.ref S] ∧ H S = some (.ext (setP w S ns)) ∧ ns.length < 64 ∧ ∀ l, H l = none → Q (.ref l) (upd H l (.lst ((sortU ns).map V.int)))
section
variable {X : Cx}
theorem inv_drawn {pins : List (Addr × Obj)} {σ : St} {H : Hp} {s : Shared} (I : L2.Inv X pins σ H s) (d : Drawn) : L2.Inv X pins σ H { s with drawn := d } :=
  ⟨I.ok, I.os, I.bare, I.base, I.loc, I.cell, I.free, I.freeC, I.pin, I.hok, I.len⟩
theorem call_set (hc : X.calm = true) : CallR X (.type "set") (rSet X.w) := by
  intro pins s σ H xs us Q I r h
  obtain ⟨p, ns, rfl, hp, hz, q⟩ := h
  obtain ⟨u, rfl, rx⟩ := vals1 r
  cases rx
  obtain ⟨its, n, rv, e, _⟩ := I.lst hp
  have ia := intsAre_of rv
  have hlen : its.length = ns.length := by rw [← rv.length, List.length_map]
  refine set_of_list (items := its.toArray) (ns := ns) (I.ok.hd hc) ⟨_, e, rfl, n, rfl⟩ (by simpa using ia) (by rw [List.size_toArray, hlen]; exact hz) fun h' tk sv kp => ?_
  have hsz : its.toArray.size = ns.length := by rw [List.size_toArray, hlen]
  rw [hsz] at sv
  refine ⟨.ref s.heap.objs.size, _, I.laid (t' := tk) (fun b o e => kp b o (Heap.lt_size e) e) (Nat.le_refl _) (show ObjOk X.prog X.w _ h' _ (.ext (setP X.w s.heap.objs.size ns)) from ⟨sv, ?_, fun h1 h2 a1 a2 => a1.at a2⟩), rfl, q _ (I.hok.fresh (Nat.le_refl _))⟩
  obtain ⟨_, ⟨o, _, _, _, e, _⟩, _⟩ := sv
  exact ⟨o, e⟩
theorem call_sortS (hc : X.calm = true) : CallR X (.builtin "sorted") (rSortS X.w) := by
  intro pins s σ H xs us Q I r h
  obtain ⟨S, ns, rfl, hp, hz, q⟩ := h
  obtain ⟨u, rfl, rx⟩ := vals1 r
  cases rx
  obtain ⟨⟨zs, SI, hl, hm⟩, _⟩ := I.hok S _ hp
  refine sorted_set (I.ok.hd hc) SI (by omega) fun D h' tk d vs ys n kp hD hg ia pm pw => ?_
  obtain ⟨o, es, ep, t, go, gx, gd, T, gl, gb, gg, gv, gn⟩ := id SI
  have ey : ys = sortU ns := by
    refine rise_eq (le_nodup_lt pw (pm.nodup_iff.mpr gn)) rise_sortU fun x => ?_
    rw [pm.mem_iff, hm, mem_sortU]
    constructor
    · rintro ⟨i, hi, rfl⟩
      dsimp only
      rw [List.getD_eq_getElem?_getD, List.getElem?_eq_getElem hi]
      exact List.getElem_mem hi
    · intro hx
      obtain ⟨i, hi, e⟩ := List.mem_iff_getElem.mp hx
      exact ⟨i, hi, by dsimp only; rw [List.getD_eq_getElem?_getD, List.getElem?_eq_getElem hi]; exact e⟩
  subst ey
  have hvl : vs.length = (sortU ns).length := PyProof.Rows.IntsAre.length ia
  have hsl : (sortU ns).length ≤ sizeLine := by
    have := pm.length_eq
    exact Nat.le_trans (show (sortU ns).length ≤ 64 by omega) (by decide)
  have I2 := inv_drawn (I.laid (a := D) (o := .lst ((sortU ns).map V.int)) (t' := tk) kp hD (show ObjOk X.prog X.w _ h' _ (.lst _) from ⟨by rw [List.length_map]; exact hsl, vs, n, vals_ints ia, hg⟩)) d
  exact ⟨.ref D, _, I2, rfl, q _ (I.hok.fresh hD)⟩
def intsOf : List D → Option (List Int)
  | [] => some []
  | .int i :: r => (intsOf r).map fun l => i :: l
  | _ => none
theorem intsOf_of : ∀ {ds : List D} {ns : List Int}, intsOf ds = some ns → ds = ns.map D.int
  | [], _, e => by cases e; rfl
  | .int c :: r, b, e => by
    obtain ⟨k, q, e⟩ := mpd e
    subst e
    rw [intsOf_of q]; rfl
  | .non :: _, _, e => by cases e
  | .bl _ :: _, _, e => by cases e
  | .str _ :: _, _, e => by cases e
  | .lst _ :: _, _, e => by cases e
  | .tup _ :: _, _, e => by cases e
  | .scr _ :: _, _, e => by cases e
  | .exc _ :: _, _, e => by cases e
  | .dic _ _ :: _, _, e => by cases e
theorem intsOf_map : ∀ (ns : List Int), intsOf (ns.map D.int) = some ns
  | [] => rfl
  | n :: r => by show (intsOf (r.map D.int)).map _ = _; rw [intsOf_map r]; rfl
def oSortSet : D → Option R
  | .lst ds => (intsOf ds).bind fun ns => if ns.length < 64 then some (.fr ((sortU ns).map D.int)) else none
  | _ => none
def fSortSet (f : FD) : FE := fun ω => (f ω).bind oSortSet
theorem xe_sortset {a : Expr} {f : FD} {p1 p2 q1 q2 : Pos} (hg1 : Gl X "sorted") (hm1 : X.mg "sorted" = none) (hg2 : Gl X "set") (hm2 : X.mg "set" = none) (ha : XV X a f) (hc : X.calm = true := by rfl)
    (he1 : starEach [a] X.env = (false, eval a X.env) :: starEach [] X.env := by rfl) (hpl1 : (backTo q2 (starEach [] X.env)).any (·.1) = false := by rfl)
    (he2 : starEach [.Call (.Name "set" p2) [a] [] q2] X.env = (false, eval (.Call (.Name "set" p2) [a] [] q2) X.env) :: starEach [] X.env := by rfl) (hpl2 : (backTo q1 (starEach [] X.env)).any (·.1) = false := by rfl) :
    XE X (.Call (.Name "sorted" p1) [.Call (.Name "set" p2) [a] [] q2] [] q1) (fSortSet f) := by
  obtain ⟨t, h1, h2⟩ := ha
  refine ⟨_, pe_callB (call_sortS hc) hg1 hm1 bt_sorted (pa_cons (pe_callTy (call_set hc) hg2 hm2 bt_set (pa_cons h1 pa_nil he1) (by decide) (by decide) he1 hpl1) pa_nil he2) (by decide) (by decide) he2 hpl2, fun G0 H0 G ω σ H r Q o e k => ?_⟩
  obtain ⟨d, q, e⟩ := bnd e
  refine h2 G0 H0 G ω σ H d _ o q fun v G1 H1 x1 y1 => ?_
  cases d with
  | lst ds =>
    obtain ⟨ns, e1, e2⟩ := bnd (show (intsOf ds).bind _ = some r from e)
    have hds := intsOf_of e1
    subst hds
    by_cases hz : ns.length < 64
    · rw [if_pos hz] at e2
      cases e2
      obtain ⟨p, vs, rfl, g1, g2⟩ := y1.lst x1.gh
      have hv := g2.of_ints
      subst hv
      refine ⟨p, ns, rfl, g1, by omega, fun S hS => ?_⟩
      refine ⟨S, ns, rfl, upd_same, hz, fun l hl => ?_⟩
      have x2 := Ext.hide x1.gh hS (.ext (setP X.w S ns))
      have x3 := Ext.hide x2.gh hl (.lst ((sortU ns).map V.int))
      exact k _ G1 _ ((x1.trans x2).trans x3) ⟨l, _, rfl, (x1.trans x2).hh.free hl, x2.gh.free hl, upd_same, Reps.ints _⟩
    · rw [if_neg hz] at e2; cases e2
  | _ => cases e
end
end Hk
set_option maxRecDepth 100000
namespace PySem.F
theorem noLenZip : typeLookup (.type "zip") "__len__" = pure none := by rw [typeLookup_type, builtinLookup_eq_fast]; kernel_rfl
theorem noHintZip : typeLookup (.type "zip") "__length_hint__" = pure none := by rw [typeLookup_type, builtinLookup_eq_fast]; kernel_rfl
end PySem.F
namespace Hk
open PySem PySem.Spec PyProof.Rows
section
variable {prog : Program} {w : World} {A : Around} {E : Value → Shared → Prop} {s : Shared}
abbrev ZipAt (h : Heap) (z TI TO : Addr) (f0 f1 : Value) : Prop := h.get? z = some { cls := .type "zip", dict := none, data := .fields #[f0, f1, .bool false, .ref TI, .ref TO], slots := #[] }
theorem alive_is {a : Addr} {Q : Option Obj → Shared → Prop} (h : Q (s.heap.get? a) s) : wpAny (model prog w) A (loadIfAlive a) Q E s := fun _ _ _ => h
theorem free_no {z TI TO t : Addr} {ot : Obj} {f1 : Value} {Q : Bool → Shared → Prop} (hz : ZipAt s.heap z TI TO (rawInt t) f1) (ht : s.heap.get? t = some ot)
    (k : ∀ h' f1', ZipAt h' z TI TO (rawInt t) f1' → Heap.SameBut z s.heap h' → Q false { s with heap := h' }) : wpAny (model prog w) A (Builtin.SmallTypes.ownedTupleIsFree (.ref z)) Q E s := by
  unfold Builtin.SmallTypes.ownedTupleIsFree
  refine wpAny_bind (wpAny_field hz rfl (x := rawInt t) rfl ?_)
  show wpAny _ _ (loadIfAlive ((t : Int)).toNat >>= _) _ _ _
  rw [Int.toNat_natCast]
  refine wpAny_bind (alive_is ?_)
  rw [ht]
  show wpAny _ _ (field (.ref z) 1 >>= _) _ _ _
  refine wpAny_bind (wpAny_field hz rfl (x := f1) rfl ?_)
  refine wpAny_ite_split (fun _ => ?_) (fun _ => ?_)
  · refine wpAny_bind (wpAny_setField_rec hz (by simp) fun h1 e1 sb => wpAny_pure (k h1 (.bool true) e1 sb))
  · exact wpAny_pure (k s.heap f1 hz (Heap.SameBut.refl z s.heap))
theorem zip_item2 {z TI TO i1 i2 l1 l2 t : Addr} {ot : Obj} {f1 : Value} {k1 k2 : Nat} {xs ys : Array Value} {x y : Value} {Q : Option Value → Shared → Prop} (D : ZipApart z TI TO i1 i2 l1 l2)
    (hz : ZipAt s.heap z TI TO (rawInt t) f1) (ht : s.heap.get? t = some ot) (hTI : IsPair s.heap TI (.ref i1) (.ref i2))
    (h1 : s.heap.IsListIter i1 l1 k1) (h2 : s.heap.IsListIter i2 l2 k2) (hl1 : s.heap.IsList l1 xs) (hl2 : s.heap.IsList l2 ys) (hx : xs[k1]? = some x) (hy : ys[k2]? = some y)
    (hQ : ∀ h' f1', ZipAt h' z TI TO (rawInt t) f1' → h'.IsListIter i1 l1 (k1 + 1) → h'.IsListIter i2 l2 (k2 + 1) → IsPair h' s.heap.objs.size x y →
      (∀ c o, c ≠ z → c ≠ i1 → c ≠ i2 → s.heap.get? c = some o → h'.get? c = some o) → Q (some (.ref s.heap.objs.size)) { s with heap := h' }) :
    wpAny (model prog w) A (pyNext (.ref z)) Q E s := by
  have hT : s.TypeIs (.ref z) "zip" := ⟨_, hz, rfl⟩
  unfold pyNext
  refine wpAny_bind (wpAny_attempt (wpAny_callSpecial?_slot (name := Str.ofString "__next__") hT PySem.F.slot_zip_next (wpAny_call_entry PySem.F.slot_zip_next hT PySem.F.entry_zip_next ?_ (PySem.F.args_zip_next_1 _))))
  show wpAny _ _ (field (.ref z) 2 >>= _) _ _ _
  refine wpAny_bind (wpAny_field hz rfl (x := .bool false) rfl ?_)
  show wpAny _ _ (field (.ref z) 3 >>= _) _ _ _
  refine wpAny_bind (wpAny_field hz rfl (x := .ref TI) rfl ?_)
  refine wpAny_bind (wpAny_seqItems hTI rfl ?_)
  show wpAny _ _ (Builtin.SmallTypes.ownedTupleIsFree (.ref z) >>= _) _ _ _
  refine wpAny_bind (free_no hz ht fun h' f1' hz1 sb1 => ?_)
  simp only [Bool.false_eq_true, if_false]
  have a1 := h1.extBut sb1.extBut D.i1z
  have a2 := h2.extBut sb1.extBut D.i2z
  have b1 := hl1.extBut sb1.extBut D.l1z
  have b2 := hl2.extBut sb1.extBut D.l2z
  rw [← Array.forIn_toList]
  simp only [List.forIn_cons, List.forIn_nil]
  refine wpAny_bind (wpAny_bind (wpAny_bind (wpAny_holding ?_)))
  show wpAny _ _ (Builtin.SmallTypes.nextOf (.ref i1) >>= _) _ _ _
  refine wpAny_bind (wpAny_nextOf_list_item a1 b1 hx fun h₂ c1 sb2 => wpAny_pure ?_)
  refine wpAny_pure ?_
  refine wpAny_bind (wpAny_bind (wpAny_holding ?_))
  show wpAny _ _ (Builtin.SmallTypes.nextOf (.ref i2) >>= _) _ _ _
  refine wpAny_bind (wpAny_nextOf_list_item (a2.extBut sb2.extBut D.i12.symm) (b2.extBut sb2.extBut D.l2i1) hy fun h₃ c2 sb3 => wpAny_pure ?_)
  refine wpAny_pure (wpAny_pure ?_)
  show wpAny _ _ (newTuple [x, y] >>= _) _ _ _
  refine wpAny_bind (wpAny_newTuple ?_)
  have hsz : h₃.objs.size = s.heap.objs.size := by rw [sb3.1, sb2.1, sb1.1]
  refine wpAny_pure ⟨_, rfl, wpAny_pure ?_⟩
  dsimp only
  rw [hsz]
  refine hQ _ f1' ?_ ?_ ?_ ?_ ?_
  · exact Heap.get?_push_of_some _ (sb3.extBut _ _ D.i2z.symm (sb2.extBut _ _ D.i1z.symm hz1))
  · exact (c1.extBut sb3.extBut D.i12).at fun o e => Heap.get?_push_of_some _ e
  · exact c2.at fun o e => Heap.get?_push_of_some _ e
  · have := Heap.get?_push_size h₃ (o := { cls := .type "tuple", data := .seq [x, y].toArray }) rfl
    rw [hsz] at this
    exact this
  · exact fun c o n1 n2 n3 e => Heap.get?_push_of_some _ (sb3.extBut _ _ n3 (sb2.extBut _ _ n2 (sb1.extBut _ _ n1 e)))
theorem zip_end2 {z TI TO i1 i2 l1 l2 t : Addr} {ot : Obj} {f1 : Value} {k1 k2 : Nat} {xs ys : Array Value} {Q : Option Value → Shared → Prop} (hh : A.handled = none) (D : ZipApart z TI TO i1 i2 l1 l2)
    (hz : ZipAt s.heap z TI TO (rawInt t) f1) (ht : s.heap.get? t = some ot) (hTI : IsPair s.heap TI (.ref i1) (.ref i2))
    (h1 : s.heap.IsListIter i1 l1 k1) (h2 : s.heap.IsListIter i2 l2 k2) (hl1 : s.heap.IsList l1 xs) (hl2 : s.heap.IsList l2 ys) (hend : xs[k1]? = none ∨ ys[k2]? = none)
    (hQ : ∀ h', (∀ c o, c ≠ z → c ≠ i1 → c ≠ i2 → s.heap.get? c = some o → h'.get? c = some o) → Q none { s with heap := h' }) :
    wpAny (model prog w) A (pyNext (.ref z)) Q E s := by
  have hT : s.TypeIs (.ref z) "zip" := ⟨_, hz, rfl⟩
  unfold pyNext
  refine wpAny_bind (wpAny_attempt (wpAny_callSpecial?_slot (name := Str.ofString "__next__") hT PySem.F.slot_zip_next (wpAny_call_entry PySem.F.slot_zip_next hT PySem.F.entry_zip_next ?_ (PySem.F.args_zip_next_1 _))))
  show wpAny _ _ (field (.ref z) 2 >>= _) _ _ _
  refine wpAny_bind (wpAny_field hz rfl (x := .bool false) rfl ?_)
  show wpAny _ _ (field (.ref z) 3 >>= _) _ _ _
  refine wpAny_bind (wpAny_field hz rfl (x := .ref TI) rfl ?_)
  refine wpAny_bind (wpAny_seqItems hTI rfl ?_)
  show wpAny _ _ (Builtin.SmallTypes.ownedTupleIsFree (.ref z) >>= _) _ _ _
  refine wpAny_bind (free_no hz ht fun h' f1' hz1 sb1 => ?_)
  simp only [Bool.false_eq_true, if_false]
  have a1 := h1.extBut sb1.extBut D.i1z
  have a2 := h2.extBut sb1.extBut D.i2z
  have b1 := hl1.extBut sb1.extBut D.l1z
  have b2 := hl2.extBut sb1.extBut D.l2z
  rw [← Array.forIn_toList]
  simp only [List.forIn_cons, List.forIn_nil]
  refine wpAny_bind (wpAny_bind (wpAny_bind (wpAny_holding ?_)))
  show wpAny _ _ (Builtin.SmallTypes.nextOf (.ref i1) >>= _) _ _ _
  cases hx : xs[k1]? with
  | none =>
    refine wpAny_bind (wpAny_nextOf_list_end hh a1 b1 hx fun h₂ e sb2 he => ?_)
    obtain ⟨o, ho, hc⟩ := he
    refine wpAny_bind (wpAny_isInstance (T := "StopIteration") (b := true) ⟨o, ho, hc⟩ isSubtype_stop ?_)
    exact wpAny_pure (hQ _ fun c o n1 n2 n3 e => sb2 _ _ n2 (sb1.extBut _ _ n1 e))
  | some x =>
    have hy : ys[k2]? = none := by rcases hend with h | h; rw [hx] at h; cases h; exact h
    refine wpAny_bind (wpAny_nextOf_list_item a1 b1 hx fun h₂ c1 sb2 => wpAny_pure ?_)
    refine wpAny_pure ?_
    refine wpAny_bind (wpAny_bind (wpAny_holding ?_))
    show wpAny _ _ (Builtin.SmallTypes.nextOf (.ref i2) >>= _) _ _ _
    refine wpAny_bind (wpAny_nextOf_list_end hh (a2.extBut sb2.extBut D.i12.symm) (b2.extBut sb2.extBut D.l2i1) hy fun h₃ e sb3 he => ?_)
    obtain ⟨o, ho, hc⟩ := he
    refine wpAny_bind (wpAny_isInstance (T := "StopIteration") (b := true) ⟨o, ho, hc⟩ isSubtype_stop ?_)
    exact wpAny_pure (hQ _ fun c o n1 n2 n3 e => sb3 _ _ n3 (sb2.extBut _ _ n2 (sb1.extBut _ _ n1 e)))
structure ZSt (h0 : Heap) (S z TI TO i1 i2 l1 l2 : Addr) (xs ys : Array Value) (ts : List Addr) (h : Heap) : Prop where
  zip : (ts = [] ∧ ZipAt h z TI TO .none (.bool false)) ∨ ∃ t f1, t ∈ ts ∧ ZipAt h z TI TO (rawInt t) f1
  pTI : IsPair h TI (.ref i1) (.ref i2)
  pTO : ∃ a b, IsPair h TO a b
  it1 : h.IsListIter i1 l1 ts.length
  it2 : h.IsListIter i2 l2 ts.length
  hl1 : h.IsList l1 xs
  hl2 : h.IsList l2 ys
  tups : ∀ (j : Nat) t, ts[j]? = some t → ∃ x y, xs[j]? = some x ∧ ys[j]? = some y ∧ IsPair h t x y
  old : ∀ t ∈ ts, t ≠ S ∧ t ≠ z ∧ t ≠ TO ∧ t ≠ i1 ∧ t ≠ i2
  nd : ts.Nodup
  new : ∀ t ∈ ts, h0.objs.size ≤ t
  keep : ∀ b o, b ≠ S → h0.get? b = some o → h.get? b = some o
theorem zst_item {h0 : Heap} {S z TI TO i1 i2 l1 l2 : Addr} {xs ys : Array Value} {ts : List Addr} {Q : Option Value → Shared → Prop} (D : ZipApart z TI TO i1 i2 l1 l2) (hf : ∀ b ∈ [z, TO, i1, i2], h0.get? b = none) (hS : S ∉ [z, TI, TO, i1, i2, l1, l2]) (Z : ZSt h0 S z TI TO i1 i2 l1 l2 xs ys ts s.heap) (hSo : ∃ o, s.heap.get? S = some o) (hsz : h0.objs.size ≤ s.heap.objs.size)
    (hlt : ts.length < min xs.size ys.size)
    (k : ∀ h' t, ZSt h0 S z TI TO i1 i2 l1 l2 xs ys (ts ++ [t]) h' → (∀ o, s.heap.get? S = some o → h'.get? S = some o) → s.heap.objs.size ≤ h'.objs.size → Q (some (.ref t)) { s with heap := h' }) :
    wpAny (model prog w) A (pyNext (.ref z)) Q E s := by
  have hix : ts.length < xs.size := Nat.lt_of_lt_of_le hlt (Nat.min_le_left ..)
  have hiy : ts.length < ys.size := Nat.lt_of_lt_of_le hlt (Nat.min_le_right ..)
  obtain ⟨a, b, hTO⟩ := Z.pTO
  obtain ⟨oS, hoS⟩ := hSo
  have gx := Array.getElem?_eq_getElem hix
  have gy := Array.getElem?_eq_getElem hiy
  simp only [List.mem_cons, List.not_mem_nil, or_false, not_or] at hS
  have nz : ∀ b o, h0.get? b = some o → b ≠ z ∧ b ≠ TO ∧ b ≠ i1 ∧ b ≠ i2 := fun b o e =>
    ⟨fun q => (by have := hf z (by simp); rw [q, this] at e; cases e), fun q => (by have := hf TO (by simp); rw [q, this] at e; cases e), fun q => (by have := hf i1 (by simp); rw [q, this] at e; cases e), fun q => (by have := hf i2 (by simp); rw [q, this] at e; cases e)⟩
  have fin : ∀ (h' : Heap) (f1 : Value) (u : Addr), u ∈ ts ++ [s.heap.objs.size] → ZipAt h' z TI TO (rawInt u) f1 → (∃ a b, IsPair h' TO a b) → h'.IsListIter i1 l1 (ts.length + 1) → h'.IsListIter i2 l2 (ts.length + 1) → IsPair h' s.heap.objs.size xs[ts.length] ys[ts.length] →
      (∀ c o, c ≠ z → c ≠ TO → c ≠ i1 → c ≠ i2 → s.heap.get? c = some o → h'.get? c = some o) → Q (some (.ref s.heap.objs.size)) { s with heap := h' } := fun h' f1 u hu g1 g2 g3 g4 g5 g6 => by
    refine k h' _ ⟨.inr ⟨u, f1, hu, g1⟩, g6 _ _ D.TIz D.TITO D.TIi1 D.TIi2 Z.pTI, g2, by rw [List.length_append]; exact g3, by rw [List.length_append]; exact g4, Z.hl1.at fun o e => g6 _ o D.l1z D.l1TO D.l1i1 D.l1i2 e, Z.hl2.at fun o e => g6 _ o D.l2z D.l2TO D.l2i1 D.l2i2 e, fun j t ht => ?_, fun t ht => ?_, ?_, fun t ht => ?_, fun b o hb e => ?_⟩ (fun o e => ?_) (Nat.le_of_lt (Heap.lt_size g5))
    · rcases Nat.lt_or_ge j ts.length with y | y
      · rw [List.getElem?_append_left y] at ht
        obtain ⟨p, q, r1, r2, r3⟩ := Z.tups j t ht
        have ho := Z.old t (List.mem_of_getElem? ht)
        exact ⟨p, q, r1, r2, g6 _ _ ho.2.1 ho.2.2.1 ho.2.2.2.1 ho.2.2.2.2 r3⟩
      · rw [List.getElem?_append_right y] at ht
        have hj : j = ts.length := by
          rcases Nat.lt_or_ge (j - ts.length) 1 with c | c
          · omega
          · rw [List.getElem?_eq_none (by simpa using c)] at ht; cases ht
        subst hj
        rw [Nat.sub_self] at ht
        cases ht
        exact ⟨_, _, gx, gy, g5⟩
    · rcases List.mem_append.mp ht with ht | ht
      · exact Z.old t ht
      · rw [List.mem_singleton.mp ht]
        have lt : ∀ {c o}, s.heap.get? c = some o → s.heap.objs.size ≠ c := fun e => Nat.ne_of_gt (Heap.lt_size e)
        refine ⟨lt hoS, ?_, lt hTO, ?_, ?_⟩
        · rcases Z.zip with ⟨_, e⟩ | ⟨_, _, _, e⟩ <;> exact lt e
        · obtain ⟨_, e, _⟩ := Z.it1; exact lt e
        · obtain ⟨_, e, _⟩ := Z.it2; exact lt e
    · refine List.nodup_append.mpr ⟨Z.nd, by simp, fun a ha b hb => ?_⟩
      rw [List.mem_singleton.mp hb]
      intro e
      obtain ⟨j, hj, ej⟩ := List.mem_iff_getElem.mp ha
      obtain ⟨_, _, _, _, et⟩ := Z.tups j a (by rw [List.getElem?_eq_getElem hj, ej])
      exact absurd (Heap.lt_size et) (by rw [e]; exact Nat.lt_irrefl _)
    · rcases List.mem_append.mp ht with ht | ht
      · exact Z.new t ht
      · rw [List.mem_singleton.mp ht]; exact hsz
    · obtain ⟨n1, n2, n3, n4⟩ := nz b o e
      exact g6 b o n1 n2 n3 n4 (Z.keep b o hb e)
    · exact g6 S o hS.1 hS.2.2.1 hS.2.2.2.1 hS.2.2.2.2.1 e
  rcases Z.zip with ⟨_, hz⟩ | ⟨t, f1, ht, hz⟩
  · exact wpAny_pyNext_zip_item D hz Z.pTI hTO Z.it1 Z.it2 Z.hl1 Z.hl2 gx gy fun h' a1 a2 a3 a4 a5 a6 a7 => fin h' _ _ (by simp) a1 ⟨_, _, a2⟩ a3 a4 a5 a7
  · obtain ⟨j, hj, ej⟩ := List.mem_iff_getElem.mp ht
    obtain ⟨_, _, _, _, et⟩ := Z.tups j t (by rw [List.getElem?_eq_getElem hj, ej])
    refine zip_item2 D hz et Z.pTI Z.it1 Z.it2 Z.hl1 Z.hl2 gx gy fun h' f1' a1 a3 a4 a5 a7 => fin h' f1' t (List.mem_append_left _ ht) a1 ⟨a, b, ?_⟩ a3 a4 a5 fun c o n1 _ n3 n4 e => a7 c o n1 n3 n4 e
    exact a7 _ _ D.TOz D.TOi1 D.TOi2 hTO
theorem zst_end {h0 : Heap} {S z TI TO i1 i2 l1 l2 : Addr} {xs ys : Array Value} {ts : List Addr} {Q : Option Value → Shared → Prop} (hh : A.handled = none) (D : ZipApart z TI TO i1 i2 l1 l2) (Z : ZSt h0 S z TI TO i1 i2 l1 l2 xs ys ts s.heap)
    (hlt : ts.length = min xs.size ys.size)
    (k : ∀ h', (∀ c o, c ≠ z → c ≠ TO → c ≠ i1 → c ≠ i2 → s.heap.get? c = some o → h'.get? c = some o) → Q none { s with heap := h' }) :
    wpAny (model prog w) A (pyNext (.ref z)) Q E s := by
  obtain ⟨a, b, hTO⟩ := Z.pTO
  have hend : xs[ts.length]? = none ∨ ys[ts.length]? = none := by
    rcases Nat.le_total xs.size ys.size with h | h
    · left; exact Array.getElem?_eq_none (by omega)
    · right; exact Array.getElem?_eq_none (by omega)
  rcases Z.zip with ⟨_, hz⟩ | ⟨t, f1, ht, hz⟩
  · exact wpAny_pyNext_zip_end hh D hz Z.pTI hTO Z.it1 Z.it2 Z.hl1 Z.hl2 hend fun h' g => k h' g
  · obtain ⟨j, hj, ej⟩ := List.mem_iff_getElem.mp ht
    obtain ⟨_, _, _, _, et⟩ := Z.tups j t (by rw [List.getElem?_eq_getElem hj, ej])
    exact zip_end2 hh D hz et Z.pTI Z.it1 Z.it2 Z.hl1 Z.hl2 hend fun h' g => k h' fun c o n1 _ n3 n4 e => g c o n1 n3 n4 e
end
end Hk
set_option maxRecDepth 100000
namespace Hk
open PySem PySem.Spec PySem.W PyProof.Rows
section
variable {prog : Program} {w : World} {A : Around} {E : Value → Shared → Prop} {R : Result → Shared → Prop} {s : Shared}
abbrev lstAt (h : Heap) (S : Addr) (acc : Array Value) (c : Nat) : Prop := h.get? S = some { cls := .type "list", dict := none, data := .seq acc c, slots := #[] }
theorem zst_frame {h0 h h' : Heap} {S z TI TO i1 i2 l1 l2 : Addr} {xs ys : Array Value} {ts : List Addr} (hS : S ∉ [z, TI, TO, i1, i2, l1, l2]) (Z : ZSt h0 S z TI TO i1 i2 l1 l2 xs ys ts h) (k : ∀ b o, b ≠ S → h.get? b = some o → h'.get? b = some o) :
    ZSt h0 S z TI TO i1 i2 l1 l2 xs ys ts h' := by
  simp only [List.mem_cons, List.not_mem_nil, or_false, not_or] at hS
  obtain ⟨s1, s2, s3, s4, s5, s6, s7⟩ := hS
  refine ⟨?_, k _ _ (Ne.symm s2) Z.pTI, ?_, Z.it1.at fun o e => k _ o (Ne.symm s4) e, Z.it2.at fun o e => k _ o (Ne.symm s5) e, Z.hl1.at fun o e => k _ o (Ne.symm s6) e, Z.hl2.at fun o e => k _ o (Ne.symm s7) e, fun j t ht => ?_, Z.old, Z.nd, Z.new, fun b o hb e => k b o hb (Z.keep b o hb e)⟩
  · rcases Z.zip with ⟨e1, e2⟩ | ⟨t, f1, e1, e2⟩
    · exact .inl ⟨e1, k _ _ (Ne.symm s1) e2⟩
    · exact .inr ⟨t, f1, e1, k _ _ (Ne.symm s1) e2⟩
  · obtain ⟨a, b, e⟩ := Z.pTO
    exact ⟨a, b, k _ _ (Ne.symm s3) e⟩
  · obtain ⟨x, y, a1, a2, a3⟩ := Z.tups j t ht
    exact ⟨x, y, a1, a2, k _ _ (Z.old t (List.mem_of_getElem? ht)).1 a3⟩
theorem zip_loop {h0 : Heap} {S z TI TO i1 i2 l1 l2 : Addr} {xs ys : Array Value} {res : Value} (hh : A.handled = none) (D : ZipApart z TI TO i1 i2 l1 l2) (hf : ∀ b ∈ [z, TO, i1, i2], h0.get? b = none) (hS : S ∉ [z, TI, TO, i1, i2, l1, l2]) (hn : min xs.size ys.size ≤ sizeLine) (g0 : Array GenState) (d0 : Drawn) (o0)
    (hR : ∀ (h' : Heap) (tk : Nat) (ts : List Addr) (c : Nat), ts.length = min xs.size ys.size → ts.Nodup → (∀ t ∈ ts, t ≠ S ∧ h0.objs.size ≤ t) → lstAt h' S (ts.map Value.ref).toArray c → (∀ b o, b ≠ S → h0.get? b = some o → h'.get? b = some o) → (∀ (j : Nat) t, ts[j]? = some t → ∃ x y, xs[j]? = some x ∧ ys[j]? = some y ∧ IsPair h' t x y) → R (.ok (.ret res)) ⟨h', g0, d0, tk, o0⟩) :
    ∀ (k : Nat) (h : Heap) (tk : Nat) (ts : List Addr) (c : Nat), min xs.size ys.size - ts.length = k → ts.length ≤ min xs.size ys.size → ZSt h0 S z TI TO i1 i2 l1 l2 xs ys ts h → lstAt h S (ts.map Value.ref).toArray c → h0.objs.size ≤ h.objs.size →
      codeAny (model prog w) A (.builtin "list.extend.loop" ⟨[.ref S, .ref z, res], []⟩) R ⟨h, g0, d0, tk, o0⟩ := by
  have hS' := hS
  simp only [List.mem_cons, List.not_mem_nil, or_false, not_or] at hS'
  have nz : ∀ b o, h0.get? b = some o → b ≠ z ∧ b ≠ TO ∧ b ≠ i1 ∧ b ≠ i2 := fun b o e =>
    ⟨fun q => (by have := hf z (by simp); rw [q, this] at e; cases e), fun q => (by have := hf TO (by simp); rw [q, this] at e; cases e), fun q => (by have := hf i1 (by simp); rw [q, this] at e; cases e), fun q => (by have := hf i2 (by simp); rw [q, this] at e; cases e)⟩
  intro k
  induction k with
  | zero =>
    intro h tk ts c hk hi Z hl hsz
    have hin : ts.length = min xs.size ys.size := by omega
    refine codeAny_builtin PySem.F.entry_extend_loop ?_
    rw [Around.under_plainId PySem.F.plain_extend_loop _]
    show wpAny _ A.in1 (pyNext (.ref z) >>= _) _ _ _
    refine wpAny_bind (zst_end (A := A.in1) hh D Z hin fun h' g => ?_)
    refine wpAny_pure (hR h' tk ts c hin Z.nd (fun t ht => ⟨(Z.old t ht).1, Z.new t ht⟩) (g _ _ hS'.1 hS'.2.2.1 hS'.2.2.2.1 hS'.2.2.2.2.1 hl) (fun b o hb e => ?_) fun j t ht => ?_)
    · obtain ⟨n1, n2, n3, n4⟩ := nz b o e
      exact g b o n1 n2 n3 n4 (Z.keep b o hb e)
    · obtain ⟨x, y, a1, a2, a3⟩ := Z.tups j t ht
      have ho := Z.old t (List.mem_of_getElem? ht)
      exact ⟨x, y, a1, a2, g _ _ ho.2.1 ho.2.2.1 ho.2.2.2.1 ho.2.2.2.2 a3⟩
  | succ k ih =>
    intro h tk ts c hk hi Z hl hsz
    have hlt : ts.length < min xs.size ys.size := by omega
    refine codeAny_builtin PySem.F.entry_extend_loop ?_
    rw [Around.under_plainId PySem.F.plain_extend_loop _]
    show wpAny _ A.in1 (pyNext (.ref z) >>= _) _ _ _
    refine wpAny_bind (zst_item (A := A.in1) D hf hS Z ⟨_, hl⟩ hsz hlt fun h' t Z' hk' hsz' => ?_)
    have hl' := hk' _ hl
    show wpAny _ A.in1 (updateSeq S (·.push (.ref t)) >>= _) _ _ _
    refine wpAny_bind ?_
    have sz : (ts.map Value.ref).toArray.size = ts.length := by simp
    have e := get?_update_seq hl' (·.push (Value.ref t))
    have e2 : (ts.map Value.ref).toArray.push (.ref t) = ((ts ++ [t]).map Value.ref).toArray := by simp
    rw [e2] at e
    refine wpAny_updateSeq hl' rfl (wpAny_pure ⟨plainId_quiet PySem.F.plain_extend_loop _, ih _ _ (ts ++ [t]) _ (by rw [List.length_append, List.length_singleton]; omega) (by rw [List.length_append, List.length_singleton]; omega) (zst_frame hS Z' fun b o hb e => ?_) e (by rw [Heap.size_update]; exact Nat.le_trans hsz hsz')⟩)
      (by rw [sz]; omega) (by show ((ts.map Value.ref).toArray.push (.ref t)).size ≤ sizeLine + 1; rw [Array.size_push, sz]; omega)
    exact (Heap.get?_update_other _ _ (Ne.symm hb)).trans e
theorem zip_extend {h0 : Heap} {S z TI TO i1 i2 l1 l2 : Addr} {xs ys : Array Value} {res : Value} {c₀ : Nat} (hh : A.handled = none) (D : ZipApart z TI TO i1 i2 l1 l2) (hf : ∀ b ∈ [z, TO, i1, i2], h0.get? b = none) (hS : S ∉ [z, TI, TO, i1, i2, l1, l2]) (hn : min xs.size ys.size ≤ sizeLine)
    (Z : ZSt h0 S z TI TO i1 i2 l1 l2 xs ys [] s.heap) (hl : lstAt s.heap S #[] c₀) (hsz : h0.objs.size ≤ s.heap.objs.size)
    (hR : ∀ (h' : Heap) (tk : Nat) (ts : List Addr) (c : Nat), ts.length = min xs.size ys.size → ts.Nodup → (∀ t ∈ ts, t ≠ S ∧ h0.objs.size ≤ t) → lstAt h' S (ts.map Value.ref).toArray c → (∀ b o, b ≠ S → h0.get? b = some o → h'.get? b = some o) → (∀ (j : Nat) t, ts[j]? = some t → ∃ x y, xs[j]? = some x ∧ ys[j]? = some y ∧ IsPair h' t x y) → R (.ok (.ret res)) { s with heap := h', toks := tk }) :
    wpAny (model prog w) A.in1 (Builtin.List.listExtendWith (.ref S) (.ref z) res)
      (fun fin s' => match fin with | .done f => R (.ok f) s' | .again c' => c'.quiet = true ∧ codeAny (model prog w) A c' R s') (fun e s' => R (.error e) s') s := by
  obtain ⟨hp, g, d, tk, os⟩ := s
  have hS' := hS
  simp only [List.mem_cons, List.not_mem_nil, or_false, not_or] at hS'
  obtain ⟨_, hz⟩ | ⟨t, _, ht, _⟩ := Z.zip
  rotate_left
  · cases ht
  have hT : Shared.TypeIs ⟨hp, g, d, tk, os⟩ (.ref z) "zip" := ⟨_, hz, rfl⟩
  unfold Builtin.List.listExtendWith
  refine wpAny_bind (wpAny_typeOf (T := "zip") hT ?_)
  have h1 : Builtin.List.listSameRef (.ref S) (.ref z) = false := by simp [Builtin.List.listSameRef, hS'.1]
  have h2 : (Value.type "zip" == Value.type "list") = false := by decide
  have h3 : (Value.type "zip" == Value.type "tuple") = false := by decide
  simp only [h1, h2, h3, Bool.or_false, Bool.false_eq_true, if_false]
  refine wpAny_bind (wpAny_pyIter_zip hz ?_)
  refine wpAny_bind (wpAny_holding ?_)
  unfold Builtin.List.listLengthHint
  refine wpAny_bind (wpAny_specialOf hT PySem.F.noLenZip ?_)
  show wpAny _ A.in1 (specialOf (Value.ref z) (Str.ofString "__length_hint__") >>= _) _ _ _
  refine wpAny_bind (wpAny_specialOf hT PySem.F.noHintZip ?_)
  refine wpAny_pure ?_
  have key : ∀ (h : Heap) (c₁ : Nat), ZSt h0 S z TI TO i1 i2 l1 l2 xs ys [] h → lstAt h S #[] c₁ → h0.objs.size ≤ h.objs.size → codeAny (model prog w) A (.builtin "list.extend.loop" ⟨[.ref S, .ref z, res], []⟩) R ⟨h, g, d, tk, os⟩ :=
    fun h c₁ Z' hl' z' => zip_loop hh D hf hS hn g d os (fun h' tk' ts c a1 a2 a3 a4 a5 a6 => hR h' tk' ts c a1 a2 a3 a4 a5 a6) _ h tk [] c₁ rfl (Nat.zero_le _) Z' hl' z'
  refine wpAny_ite_split (fun _ => ?_) (fun _ => wpAny_pure ⟨plainId_quiet PySem.F.plain_extend_loop _, key _ c₀ Z hl hsz⟩)
  refine wpAny_bind (wpAny_rule ?_)
  refine wpAny_bind ?_
  show wpAny _ _ (updateSeq S (·.push .none) >>= fun _ => updateSeq S (·.pop)) _ _ _
  refine wpAny_bind (wpAny_updateSeq hl rfl ?_)
  have hS₂ := Heap.get?_update_self (Obj.mapSeq (·.push Value.none)) hl rfl
  refine wpAny_updateSeq (hz := by seq_fits) hS₂ rfl ?_
  have hS₃ := Heap.get?_update_self (Obj.mapSeq (·.pop)) hS₂ rfl
  refine wpAny_pure ⟨plainId_quiet PySem.F.plain_extend_loop _, key _ _ (zst_frame hS Z fun b o hb e => ?_) hS₃ (by rw [Heap.size_update, Heap.size_update]; exact hsz)⟩
  exact (Heap.get?_update_other _ _ (Ne.symm hb)).trans ((Heap.get?_update_other _ _ (Ne.symm hb)).trans e)
theorem list_zip {l1 l2 : Addr} {xs ys : Array Value} {Q : Value → Shared → Prop} {s0 : Shared} (hh : A.handled = none) (hl1 : s0.heap.IsList l1 xs) (hl2 : s0.heap.IsList l2 ys) (hn : min xs.size ys.size ≤ sizeLine)
    (hz : IsZip s.heap (s0.heap.objs.size + 4) (s0.heap.objs.size + 2) (s0.heap.objs.size + 3) .none) (hp1 : IsPair s.heap (s0.heap.objs.size + 2) (.ref s0.heap.objs.size) (.ref (s0.heap.objs.size + 1))) (hp2 : IsPair s.heap (s0.heap.objs.size + 3) .none .none)
    (hi1 : s.heap.IsListIter s0.heap.objs.size l1 0) (hi2 : s.heap.IsListIter (s0.heap.objs.size + 1) l2 0) (hs : s.heap.objs.size = s0.heap.objs.size + 5) (hk : ∀ c o, s0.heap.get? c = some o → s.heap.get? c = some o)
    (hQ : ∀ (h' : Heap) (tk : Nat) (S : Addr) (ts : List Addr) (c : Nat), s0.heap.objs.size ≤ S → ts.length = min xs.size ys.size → ts.Nodup → (∀ t ∈ ts, t ≠ S ∧ s0.heap.objs.size ≤ t) → lstAt h' S (ts.map Value.ref).toArray c → (∀ b o, s0.heap.get? b = some o → h'.get? b = some o) →
      (∀ (j : Nat) t, ts[j]? = some t → ∃ x y, xs[j]? = some x ∧ ys[j]? = some y ∧ IsPair h' t x y) → Q (.ref S) { s with heap := h', toks := tk }) :
    wpAny (model prog w) A (call (.type "list") [.ref (s0.heap.objs.size + 4)]) Q E s := by
  refine callType_codes (Q₁ := fun obj s₁ => obj = .ref s.heap.objs.size ∧ s₁ = { s with heap := s.heap.push { cls := .type "list", data := .seq #[] } }) PySem.F.called_list (PySem.F.typeCall_list_1 _) PySem.F.entry_list_init
    (code_list_new _ ⟨rfl, rfl⟩) fun obj s₁ h₁ => ?_
  obtain ⟨rfl, rfl⟩ := h₁
  have hS : (s.heap.push { cls := .type "list", data := .seq #[] }).get? s.heap.objs.size = some { cls := .type "list", data := .seq #[] } := Heap.get?_push_size _ rfl
  refine ⟨⟨_, hS, rfl⟩, PySem.F.args_list_init_2 _ _, ?_⟩
  generalize hn0 : s0.heap.objs.size = n at *
  have e1 : l1 < n := by obtain ⟨_, e, _⟩ := hl1; rw [← hn0]; exact Heap.lt_size e
  have e2 : l2 < n := by obtain ⟨_, e, _⟩ := hl2; rw [← hn0]; exact Heap.lt_size e
  generalize hS0 : s.heap.objs.size = S at *
  have D : ZipApart (n + 4) (n + 2) (n + 3) n (n + 1) l1 l2 := by
    constructor <;> (intro q; simp only [Addr] at *; omega)
  have hSn : S ∉ [n + 4, n + 2, n + 3, n, n + 1, l1, l2] := by
    simp only [List.mem_cons, List.not_mem_nil, or_false, not_or]
    refine ⟨?_, ?_, ?_, ?_, ?_, ?_, ?_⟩ <;> (intro q; simp only [Addr] at *; omega)
  have hf : ∀ b ∈ [n + 4, n + 3, n, n + 1], s0.heap.get? b = none := fun b hb => by
    cases q : s0.heap.get? b with
    | none => rfl
    | some o =>
      have := Heap.lt_size q
      rw [hn0] at this
      simp only [List.mem_cons, List.not_mem_nil, or_false] at hb
      simp only [Addr] at *
      omega
  show wpAny _ _ (do let old ← Builtin.List.listItems (.ref S); Builtin.List.listUpdate (.ref S) (fun _ => #[]); letGo old.toList.reverse; Builtin.List.listExtendWith (.ref S) (.ref (n + 4)) .none) _ _ _
  refine wpAny_bind ?_
  unfold Builtin.List.listItems
  refine wpAny_bind (wpAny_seqItems hS rfl (wpAny_pure ?_))
  show wpAny _ _ (updateSeq S (fun _ => #[]) >>= fun _ => letGo (#[] : Array Value).toList.reverse >>= fun _ => Builtin.List.listExtendWith (.ref S) (.ref (n + 4)) .none) _ _ _
  refine wpAny_bind (wpAny_updateSeq hS rfl ?_)
  have hS₂ := get?_update_seq hS (fun _ => (#[] : Array Value))
  have oth : ∀ b o, b ≠ S → s.heap.get? b = some o → ((s.heap.push { cls := .type "list", data := .seq #[] }).update S (Obj.mapSeq (fun _ => (#[] : Array Value)))).get? b = some o :=
    fun b o hb e => (Heap.get?_update_other _ _ (Ne.symm hb)).trans (Heap.get?_push_of_some _ e)
  refine wpAny_bind (wpAny_letGo ?_)
  have hSn' := hSn
  simp only [List.mem_cons, List.not_mem_nil, or_false, not_or] at hSn'
  refine zip_extend (A := A.in1) (h0 := s0.heap) hh D hf hSn hn ⟨.inl ⟨rfl, oth _ _ (Ne.symm hSn'.1) hz⟩, oth _ _ (Ne.symm hSn'.2.1) hp1, ⟨_, _, oth _ _ (Ne.symm hSn'.2.2.1) hp2⟩, hi1.at fun o e => oth _ o (Ne.symm hSn'.2.2.2.1) e, hi2.at fun o e => oth _ o (Ne.symm hSn'.2.2.2.2.1) e,
    hl1.at fun o e => oth _ o (Ne.symm hSn'.2.2.2.2.2.1) (hk _ o e), hl2.at fun o e => oth _ o (Ne.symm hSn'.2.2.2.2.2.2) (hk _ o e), fun j t ht => (by simp at ht), fun t ht => (by simp at ht), List.nodup_nil, fun t ht => (by simp at ht), fun b o hb e => oth b o hb (hk b o e)⟩ hS₂ (by rw [Heap.size_update, Heap.size_push, hn0, hS0]; simp only [Addr] at *; omega) fun h' tk ts c a1 a2 a3 a4 a5 a6 => ?_
  rw [hn0] at a3
  exact ⟨rfl, hQ h' tk S ts c (by simp only [Addr] at *; omega) a1 a2 a3 a4 (fun b o e => a5 b o (fun q => by
    have := Heap.lt_size e
    rw [hn0, q] at this
    simp only [Addr] at *
    omega) e) a6⟩
end
end Hk
set_option maxRecDepth 100000
namespace Hk
open PySem L2
section
variable {X : Cx} {pins : List (Addr × Obj)} {σ : St} {H H' : Hp} {s : Shared}
theorem inv_many {h' : Heap} {t' : Nat} (I : L2.Inv X pins σ H s) (k : ∀ b u, s.heap.get? b = some u → h'.get? b = some u) (hs : Same H H') (hn : ∀ b, H b = none → H' b ≠ none → s.heap.objs.size ≤ b)
    (new : ∀ b u, H b = none → H' b = some u → ObjOk X.prog X.w H' h' b u) : L2.Inv X pins σ H' { s with heap := h', toks := t' } := by
  refine I.un ⟨fun b o q _ _ _ => k b o q, fun b o q _ _ _ => ⟨o.slots, k b o q⟩, fun b o q n _ => ?_, fun b o q _ => ⟨o, k b o q⟩, fun b xs q => hs _ _ q, fun b o u q => hs _ _ q, fun b ps q => ⟨#[], by rw [hs _ _ q]; simp⟩⟩ fun b u e => ?_
  · cases e : H' b with
    | none => rfl
    | some u => exact absurd (Heap.lt_size q) (Nat.not_lt.mpr (hn b n (by rw [e]; exact fun z => by cases z)))
  · cases q : H b with
    | none => exact new b u q e
    | some u' =>
      have := hs _ _ q
      rw [e] at this
      cases this
      exact (I.hok b u q).stay (fun c v _ z => k c v z) (fun c z => hs _ _ z) fun c xs z => hs _ _ z
def updT (H : Hp) : List Addr → List V → List V → Hp
  | t :: ts, x :: xs, y :: ys => upd (updT H ts xs ys) t (.tup [x, y])
  | _, _, _ => H
theorem updT_out {b : Addr} : ∀ {ts : List Addr} {xs ys : List V}, b ∉ ts → updT H ts xs ys b = H b
  | [], _, _, _ => rfl
  | _ :: _, [], _, _ => rfl
  | _ :: _, _ :: _, [], _ => rfl
  | t :: ts, x :: xs, y :: ys, h => by
    rw [List.mem_cons, not_or] at h
    show upd _ t _ b = _
    rw [upd_ne h.1]; exact updT_out h.2
theorem updT_at : ∀ {ts : List Addr} {xs ys : List V} {j : Nat} {t : Addr} {x y : V}, ts.Nodup → ts[j]? = some t → xs[j]? = some x → ys[j]? = some y → updT H ts xs ys t = some (.tup [x, y])
  | [], _, _, _, _, _, _, _, h, _, _ => by simp at h
  | _ :: _, [], _, _, _, _, _, _, _, h, _ => by simp at h
  | _ :: _, _ :: _, [], _, _, _, _, _, _, _, h => by simp at h
  | u :: ts, a :: xs, b :: ys, 0, t, x, y, n, h1, h2, h3 => by
    simp at h1 h2 h3
    subst h1; subst h2; subst h3
    exact upd_same
  | u :: ts, a :: xs, b :: ys, j + 1, t, x, y, n, h1, h2, h3 => by
    simp only [List.getElem?_cons_succ] at h1 h2 h3
    obtain ⟨n1, n2⟩ := List.nodup_cons.mp n
    show upd _ u _ t = _
    rw [upd_ne (fun e => n1 (by rw [← e]; exact List.mem_of_getElem? h1))]
    exact updT_at n2 h1 h2 h3
def rLZ : List V → Hp → VK → Prop := fun vs H2 Q => ∃ p q xs ys, vs = [.ref p, .ref q] ∧ H2 p = some (.lst xs) ∧ H2 q = some (.lst ys) ∧
  ∀ (S : Addr) (ts : List Addr), H2 S = none → (∀ t ∈ ts, H2 t = none ∧ t ≠ S) → ts.Nodup → ts.length = min xs.length ys.length → Q (.ref S) (upd (updT H2 ts xs ys) S (.lst (ts.map V.ref)))
theorem vals_get : ∀ {xs : List V} {us : List Value}, Vals xs us → ∀ {j : Nat} {u : Value}, us[j]? = some u → ∃ x, xs[j]? = some x ∧ RelV x u
  | _, _, .nil, j, u, h => by simp at h
  | _, _, .cons r1 r2, 0, u, h => by simp at h; subst h; exact ⟨_, rfl, r1⟩
  | _, _, .cons r1 r2, j + 1, u, h => by
    simp only [List.getElem?_cons_succ] at h ⊢
    exact vals_get r2 h
theorem vals_refs : ∀ (ts : List Addr), Vals (ts.map V.ref) (ts.map Value.ref)
  | [] => .nil
  | t :: r => .cons rfl (vals_refs r)
theorem pe_listzip {a b : Expr} {t : TA} {p1 p2 q1 q2 : Pos} (hg1 : Gl X "list") (hm1 : X.mg "list" = none) (hg2 : Gl X "zip") (hm2 : X.mg "zip" = none) (ha : PA X [a, b] t) (hc : X.calm = true)
    (he1 : starEach [a, b] X.env = (false, eval a X.env) :: starEach [b] X.env) (hpl1 : (backTo q2 (starEach [b] X.env)).any (·.1) = false)
    (he2 : starEach [.Call (.Name "zip" p2) [a, b] [] q2] X.env = (false, eval (.Call (.Name "zip" p2) [a, b] [] q2) X.env) :: starEach [] X.env) (hpl2 : (backTo q1 (starEach [] X.env)).any (·.1) = false) :
    PE X (.Call (.Name "list" p1) [.Call (.Name "zip" p2) [a, b] [] q2] [] q1) (tCB rLZ t) := by
  intro pins s σ H Q I h
  refine wpAny_Call_Name_kw (ld_blt I hg1 hm1 bt_list ?_ (by decide) (by decide))
  refine PyProof.Rows.callWith_type1 ?_ he2 hpl2
  rw [he2]
  show wpAny _ _ (spliced ((false, eval _ X.env) :: backTo q1 (starEach [] X.env))) _ _ s
  refine Calls.spliced_cons ?_
  refine wpAny_Call_Name_kw (ld_blt I hg2 hm2 bt_zip ?_ (by decide) (by decide))
  refine PyProof.Rows.callWith_type1 (thn (ha q2 pins s σ H _ I h) fun us s1 ⟨vs, H1, I1, r1, q1⟩ => ?_) he1 hpl1
  · obtain ⟨p, q, xs, ys, rfl, hp, hq, k⟩ := q1
    obtain ⟨u1, u2, rfl, e1, e2⟩ := vals2 r1
    cases e1
    cases e2
    obtain ⟨its1, n1, rv1, g1, z1⟩ := I1.lst hp
    obtain ⟨its2, n2, rv2, g2, z2⟩ := I1.lst hq
    have il1 : s1.heap.IsList p its1.toArray := ⟨_, g1, rfl, n1, rfl⟩
    have il2 : s1.heap.IsList q its2.toArray := ⟨_, g2, rfl, n2, rfl⟩
    refine call_zip_2 il1 il2 fun h' a1 a2 a3 a4 a5 a6 a7 => ?_
    refine Calls.spliced_nil ?_
    have len1 : its1.toArray.size = xs.length := by rw [List.size_toArray, rv1.length]
    have len2 : its2.toArray.size = ys.length := by rw [List.size_toArray, rv2.length]
    refine list_zip (s0 := s1) (I1.ok.hd hc) il1 il2 (by rw [len1]; exact Nat.le_trans (Nat.min_le_left _ _) z1) a1 a2 a3 a4 a5 a6 a7 fun h2 tk S ts c b1 b2 b3 b4 b5 b6 b7 => ?_
    rw [len1, len2] at b2
    have fS : H1 S = none := I1.hok.fresh b1
    have ft : ∀ t ∈ ts, H1 t = none := fun t ht => I1.hok.fresh (b4 t ht).2
    have hsame : Same H1 (upd (updT H1 ts xs ys) S (.lst (ts.map V.ref))) := fun b u e => by
      have nS : b ≠ S := fun z => by rw [z, fS] at e; cases e
      have nt : b ∉ ts := fun z => by rw [ft b z] at e; cases e
      rw [upd_ne nS, updT_out nt]; exact e
    have tup : ∀ (j : Nat) t, ts[j]? = some t → ∃ x y, xs[j]? = some x ∧ ys[j]? = some y ∧ updT H1 ts xs ys t = some (.tup [x, y]) ∧ ObjOk X.prog X.w (upd (updT H1 ts xs ys) S (.lst (ts.map V.ref))) h2 t (.tup [x, y]) := fun j t ht => by
      obtain ⟨x', y', c1, c2, c3⟩ := b7 j t ht
      obtain ⟨x, d1, d2⟩ := vals_get rv1 (j := j) (u := x') (by simpa using c1)
      obtain ⟨y, d3, d4⟩ := vals_get rv2 (j := j) (u := y') (by simpa using c2)
      exact ⟨x, y, d1, d3, updT_at b3 ht d1 d3, ⟨by show 2 ≤ sizeLine; decide, [x', y'], .cons d2 (.cons d4 .nil), ⟨_, c3, rfl, _, rfl⟩⟩⟩
    refine ⟨.ref S, _, inv_many (s := s1) (t' := tk) I1 b6 hsame (fun b n1 n2 => ?_) (fun b u n1 n2 => ?_), rfl, k S ts fS (fun t ht => ⟨ft t ht, (b4 t ht).1⟩) b3 b2⟩
    · by_cases e : b = S
      · rw [e]; exact b1
      · by_cases e' : b ∈ ts
        · exact (b4 b e').2
        · rw [upd_ne e, updT_out e'] at n2; exact absurd n1 n2
    · by_cases e : b = S
      · subst e
        rw [upd_same] at n2
        cases n2
        refine ⟨?_, ts.map Value.ref, c, vals_refs ts, b5⟩
        rw [List.length_map, b2]; exact Nat.le_trans (Nat.min_le_left _ _) z1
      · by_cases e' : b ∈ ts
        · obtain ⟨j, hj, ej⟩ := List.mem_iff_getElem.mp e'
          obtain ⟨x, y, _, _, m1, m2⟩ := tup j b (by rw [List.getElem?_eq_getElem hj, ej])
          rw [upd_ne e, m1] at n2
          cases n2
          exact m2
        · rw [upd_ne e, updT_out e', n1] at n2; cases n2
def pairD (x y : D) : D := .tup [x, y]
def bListZip : List D → Option R
  | [.lst xs, .lst ys] => some (.fr (List.zipWith pairD xs ys))
  | _ => none
theorem reps_refs {K : PySem.W.Frag} {G : Hp} : ∀ {ds : List D} {ts : List Addr}, ds.length = ts.length → (∀ (j : Nat) d t, ds[j]? = some d → ts[j]? = some t → Rep K G d (.ref t)) → Reps K G ds (ts.map V.ref)
  | [], [], _, _ => rfl
  | [], _ :: _, h, _ => by simp at h
  | _ :: _, [], h, _ => by simp at h
  | d :: ds, t :: ts, h, f => ⟨.ref t, _, rfl, f 0 d t rfl rfl, reps_refs (by simpa using h) fun j e u h1 h2 => f (j + 1) e u (by simpa using h1) (by simpa using h2)⟩
theorem cd_listzip {K : PySem.W.Frag} : CallD K rLZ bListZip := by
  intro G H ds vs d Q s e hv k
  match ds, e with
  | [.lst xs, .lst ys], e =>
    cases e
    obtain ⟨v, u, rfl, h, h'⟩ := hv.two
    obtain ⟨p, us, rfl, h1, h2⟩ := h.lst s
    obtain ⟨q, ws, rfl, h3, h4⟩ := h'.lst s
    refine ⟨p, q, us, ws, rfl, h1, h3, fun S ts hS ht nd hl => ?_⟩
    let G' : Hp := fun b => if b ∈ ts then updT H ts us ws b else G b
    have hout : ∀ b, b ∉ ts → G' b = G b := fun b z => if_neg z
    have hin : ∀ b, b ∈ ts → G' b = updT H ts us ws b := fun b z => if_pos z
    have gg : Same G G' := fun b o z => by
      have n : b ∉ ts := fun y => by rw [s.free (ht b y).1] at z; cases z
      rw [hout b n]; exact z
    have hh : Same H (upd (updT H ts us ws) S (.lst (ts.map V.ref))) := fun b o z => by
      have nS : b ≠ S := fun y => by rw [y, hS] at z; cases z
      have n : b ∉ ts := fun y => by rw [(ht b y).1] at z; cases z
      rw [upd_ne nS, updT_out n]; exact z
    have gh : Same G' (upd (updT H ts us ws) S (.lst (ts.map V.ref))) := fun b o z => by
      by_cases y : b ∈ ts
      · rw [hin b y] at z
        rw [upd_ne (ht b y).2]; exact z
      · rw [hout b y] at z
        exact hh b o (s _ _ z)
    have x : Ext G H G' (upd (updT H ts us ws) S (.lst (ts.map V.ref))) := ⟨gg, gh, hh, fun b z1 z2 => by
      have n : b ∉ ts := fun y => z2 (ht b y).1
      rw [hout b n]; exact z1⟩
    have nS : S ∉ ts := fun y => (ht S y).2 rfl
    refine k _ G' _ x ⟨S, _, rfl, hS, by rw [hout S nS]; exact s.free hS, upd_same, reps_refs ?_ fun j d t e1 e2 => ?_⟩
    · rw [List.length_zipWith, hl, h2.len, h4.len]
    · rw [List.getElem?_zipWith] at e1
      cases q1 : xs[j]? with
      | none => rw [q1] at e1; cases e1
      | some a =>
        cases q2 : ys[j]? with
        | none => rw [q1, q2] at e1; cases e1
        | some b =>
          rw [q1, q2] at e1
          cases e1
          obtain ⟨va, y1, y2⟩ := h2.get q1
          obtain ⟨vb, y3, y4⟩ := h4.get q2
          refine ⟨t, [va, vb], rfl, ?_, Reps.cons (y2.mono gg) (Reps.cons (y4.mono gg) Reps.nil)⟩
          rw [hin t (List.mem_of_getElem? e2)]
          exact updT_at nd e2 y1 y3
theorem xe_listzip {a b : Expr} {g : FA} {p1 p2 q1 q2 : Pos} (hg1 : Gl X "list") (hm1 : X.mg "list" = none) (hg2 : Gl X "zip") (hm2 : X.mg "zip" = none) (ha : XVA X [a, b] g) (hc : X.calm = true := by rfl)
    (he1 : starEach [a, b] X.env = (false, eval a X.env) :: starEach [b] X.env := by rfl) (hpl1 : (backTo q2 (starEach [b] X.env)).any (·.1) = false := by rfl)
    (he2 : starEach [.Call (.Name "zip" p2) [a, b] [] q2] X.env = (false, eval (.Call (.Name "zip" p2) [a, b] [] q2) X.env) :: starEach [] X.env := by rfl) (hpl2 : (backTo q1 (starEach [] X.env)).any (·.1) = false := by rfl) :
    XE X (.Call (.Name "list" p1) [.Call (.Name "zip" p2) [a, b] [] q2] [] q1) (fBlt bListZip g) := by
  obtain ⟨t, h1, h2⟩ := ha
  exact ⟨_, pe_listzip hg1 hm1 hg2 hm2 h1 hc he1 hpl1 he2 hpl2, sim_blt cd_listzip h2⟩
end
end Hk
set_option maxRecDepth 100000
namespace Hk
open PySem L2
def maxL : List Int → Int
  | [] => 0
  | [x] => x
  | x :: y :: r => if x ≤ maxL (y :: r) then maxL (y :: r) else x
def minL : List Int → Int
  | [] => 0
  | [x] => x
  | x :: y :: r => if minL (y :: r) ≤ x then minL (y :: r) else x
theorem maxL_ok : ∀ {ns : List Int}, ns ≠ [] → maxL ns ∈ ns ∧ ∀ a ∈ ns, a ≤ maxL ns
  | [x], _ => ⟨by simp [maxL], fun a h => by simp at h; subst h; exact Int.le_refl _⟩
  | x :: y :: r, _ => by
    obtain ⟨h1, h2⟩ := maxL_ok (ns := y :: r) (by simp)
    unfold maxL
    split
    · rename_i h
      refine ⟨List.mem_cons_of_mem _ h1, fun a ha => ?_⟩
      rcases List.mem_cons.mp ha with rfl | ha
      · exact h
      · exact h2 a ha
    · rename_i h
      refine ⟨List.mem_cons_self, fun a ha => ?_⟩
      rcases List.mem_cons.mp ha with rfl | ha
      · exact Int.le_refl _
      · have := h2 a ha; omega
theorem minL_ok : ∀ {ns : List Int}, ns ≠ [] → minL ns ∈ ns ∧ ∀ a ∈ ns, minL ns ≤ a
  | [x], _ => ⟨by simp [minL], fun a h => by simp at h; subst h; exact Int.le_refl _⟩
  | x :: y :: r, _ => by
    obtain ⟨h1, h2⟩ := minL_ok (ns := y :: r) (by simp)
    unfold minL
    split
    · rename_i h
      refine ⟨List.mem_cons_of_mem _ h1, fun a ha => ?_⟩
      rcases List.mem_cons.mp ha with rfl | ha
      · exact h
      · exact h2 a ha
    · rename_i h
      refine ⟨List.mem_cons_self, fun a ha => ?_⟩
      rcases List.mem_cons.mp ha with rfl | ha
      · exact Int.le_refl _
      · have := h2 a ha; omega
section
variable {X : Cx}
end
end Hk
set_option maxRecDepth 100000
namespace Hk
open PySem L2
def whD (c : FT) (b : FS) : Nat → FS
  | 0 => fun _ => none
  | n + 1 => fun ω => (c ω).bind fun k => if k = true then (b ω).bind (fun p => match p.1 with
      | .nx => whD c b n p.2
      | .ct => whD c b n p.2
      | .bk => some (.nx, p.2)
      | .rt r => some (.rt r, p.2)) else some (.nx, ω)
def sWh (n : Nat) (c : FT) (b : FS) : FS := whD c b n
section
variable {X : Cx} {c : Expr} {body : List Stmt} {fc : FT} {fb : FS} {pos : Pos} {n : Nat}
theorem sim_while {K : PySem.W.Frag} {t : TT} {u : TS} (h2 : SimT K t fc) (h4 : SimS K u fb) : SimS K (tWhile t u) (sWh n fc fb) := by
  intro G0 H0 G ω σ H out ω' E o e k
  refine ⟨fun m σ1 H1 => ∃ G1 ω1, Own K G0 H0 G1 ω1 σ1 H1 ∧ Same G G1 ∧ whD fc fb m ω1 = some (out, ω'), ⟨n, G, ω, o, Same.refl _, e⟩, fun m σ1 H1 ⟨G1, ω1, o1, g1, e1⟩ => ?_⟩
  cases m with
  | zero => cases e1
  | succ m =>
    obtain ⟨b, q, e1⟩ := bnd e1
    refine h2 G0 H0 G1 ω1 σ1 H1 b _ o1 q fun G2 H2 x2 => ?_
    cases b with
    | false => cases e1; exact k G2 σ1 H2 (o1.keep x2) (g1.trans x2.gg)
    | true =>
      rw [if_pos rfl]
      rw [if_pos rfl] at e1
      obtain ⟨⟨o3, ω3⟩, q3, e1⟩ := bnd e1
      refine ⟨fun σ' H' => ∃ G1 ω1, Own K G0 H0 G1 ω1 σ' H' ∧ Same G G1 ∧ whD fc fb m ω1 = some (out, ω'), fun σ' H' z => ⟨m, Nat.lt_succ_self m, z⟩, ?_⟩
      refine h4 G0 H0 G2 ω1 σ1 H2 o3 ω3 _ (o1.keep x2) q3 fun G4 σ4 H4 o4 g4 => ?_
      have gg := (g1.trans x2.gg).trans g4
      cases o3 with
      | nx => exact ⟨G4, ω3, o4, gg, e1⟩
      | ct => exact ⟨G4, ω3, o4, gg, e1⟩
      | bk => cases e1; exact k G4 σ4 H4 o4 gg
      | rt r => cases e1; exact k G4 σ4 H4 o4 gg
theorem xs_while (hp : PassesOwn (model X.prog X.w) X.A X.env X.xe) (hc : XT X c fc) (hb : XSs X body fb) : XS X (.While c body [] pos) (sWh n fc fb) := by
  obtain ⟨t, h1, h2⟩ := hc
  obtain ⟨u, h3, h4⟩ := hb
  exact ⟨_, ps_while hp h1 h3, sim_while h2 h4⟩
end
section
variable {fc : FT} {fb : FS}
def stepW (I : WSt → Prop) (μ : WSt → Nat) (m : Nat) (J : WSt → Prop) (o : Option (Out × WSt)) : Prop := match o with
  | some (.nx, w) => I w ∧ μ w < m
  | some (.ct, w) => I w ∧ μ w < m
  | some (.bk, w) => J w
  | _ => False
theorem whD_by (I : WSt → Prop) (μ : WSt → Nat) (J : WSt → Prop) (stop : ∀ ω, I ω → fc ω = some false → J ω) (turn : ∀ ω, I ω → ∃ k, fc ω = some k ∧ (k = true → stepW I μ (μ ω) J (fb ω))) :
    ∀ (n : Nat) (ω : WSt), I ω → μ ω < n → ∃ ω', whD fc fb n ω = some (.nx, ω') ∧ J ω'
  | 0, _, _, z => absurd z (Nat.not_lt_zero _)
  | n + 1, ω, h, z => by
    obtain ⟨k, e, t⟩ := turn ω h
    show ∃ ω', ((fc ω).bind _) = _ ∧ _
    rw [e]
    cases k with
    | false => exact ⟨ω, rfl, stop ω h e⟩
    | true =>
      have t := t rfl
      rw [show ∀ (f : Bool → Option (Out × WSt)), (some true).bind f = f true from fun _ => rfl, if_pos rfl]
      cases q : fb ω with
      | none => rw [q] at t; exact t.elim
      | some p =>
        rw [q] at t
        obtain ⟨o, w⟩ := p
        cases o with
        | nx => exact whD_by I μ J stop turn n w t.1 (by have := t.2; omega)
        | ct => exact whD_by I μ J stop turn n w t.1 (by have := t.2; omega)
        | bk => exact ⟨w, rfl, t⟩
        | rt r => exact t.elim
theorem sWh_by {n : Nat} (I : WSt → Prop) (μ : WSt → Nat) (J : WSt → Prop) (stop : ∀ ω, I ω → fc ω = some false → J ω) (turn : ∀ ω, I ω → ∃ k, fc ω = some k ∧ (k = true → stepW I μ (μ ω) J (fb ω)))
    {ω : WSt} (h : I ω) (z : μ ω < n) : ∃ ω', sWh n fc fb ω = some (.nx, ω') ∧ J ω' := whD_by I μ J stop turn n ω h z
end
end Hk
namespace Hk
open PySem L2
def sMut0 (m : List D → List D) (i : Nat) : FS := fun ω => match ω[i]? with
  | some (some (.ow ds)) => some (.nx, ω.set i (some (.ow (m ds))))
  | _ => none
def sClr (i : Nat) : FS := sMut0 (fun _ => []) i
def sRev (i : Nat) : FS := sMut0 List.reverse i
section
variable {X : Cx} {pos : Pos} {o : Expr} {apos cpos : Pos} {i : Nat}
end
end Hk
set_option maxRecDepth 100000
namespace Hk
open PySem L2
abbrev FM := WSt → Option (D × WSt)
def popD (k : Int) (i : Nat) (ω : WSt) : Option (D × WSt) := match ω[i]? with
  | some (some (.ow ds)) => if -(2 ^ 63) ≤ k ∧ k < 2 ^ 63 then (seqIndex? k ds.length).bind fun n => (ds[n]?).map fun d => (d, ω.set i (some (.ow (ds.eraseIdx n)))) else none
  | _ => none
def mPop (i : Nat) (fd : FD) : FM := fun ω => (fd ω).bind fun d => match d with
  | .int k => popD k i ω
  | _ => none
section
variable {X : Cx} {pos : Pos} {o e : Expr} {apos cpos pos' : Pos} {i : Nat} {fd : FD} {f : FM}
def sSetM (i : Nat) (f : FM) : FS := fun ω => (f ω).map fun p => (.nx, p.2.set i (some (.sh p.1)))
end
end Hk
set_option maxRecDepth 100000
namespace Hk
open PySem L2
section
variable {X : Cx} {a b c : Expr} {pos : Pos} {fa fb fc : FD} {op op' : CmpOp} {p p' : Int → Int → Bool}
end
end Hk
set_option maxRecDepth 100000
namespace Hk
open PySem L2
def insZ (x : Int) : List Int → List Int
  | [] => [x]
  | y :: r => if x ≤ y then x :: y :: r else y :: insZ x r
def sortZ (ns : List Int) : List Int := ns.foldr insZ []
def oSortL : D → Option R
  | .lst ds => (intsOf ds).bind fun ns => if ns.length < 64 then some (.fr ((sortZ ns).map D.int)) else none
  | _ => none
def fSortL (f : FD) : FE := fun ω => (f ω).bind oSortL
section
variable {X : Cx}
end
end Hk
set_option maxRecDepth 100000
namespace Hk
open PySem PySem.Spec PyProof.Rows
section
variable {prog : Program} {w : World} {A : Around} {E : Value → Shared → Prop} {s : Shared}
end
open L2
section
variable {X : Cx}
end
end Hk
set_option maxRecDepth 100000
namespace L2
open PySem PySem.Spec PyProof.Rows
end L2
namespace Hk
open PySem L2
def tupL : List D → List D → List D
  | a :: as, b :: bs => .tup [a, b] :: tupL as bs
  | _, _ => []
def iZp (g : FA) : FI := fun ω => (g ω).bind fun ds => match ds with
  | [.lst a, .lst b] => some (tupL a b)
  | _ => none
section
open PySem.Spec PyProof.Rows
variable {X : Cx}
end
end Hk
set_option maxRecDepth 100000
namespace Hk
open PySem L2 PyProof.Rows
def posN (k : Int) : List Int → Option Nat
  | [] => none
  | a :: r => if a = k then some 0 else (posN k r).map (· + 1)
theorem posN_kf {k : Int} : ∀ {ns : List Int} {its : List Value}, Vals (ns.map V.int) its → PySem.W.kf_ints its = true ∧ PySem.W.kf_at k its = posN k ns
  | [], its, h => by cases h; exact ⟨rfl, rfl⟩
  | a :: r, its, h => by
    cases h with
    | cons h1 h2 =>
      obtain ⟨t, rfl⟩ := h1
      obtain ⟨e1, e2⟩ := posN_kf (k := k) h2
      refine ⟨e1, ?_⟩
      unfold PySem.W.kf_at posN
      rw [e2]
      by_cases z : a = k
      · have : isInt k (Value.int a t) = true := by simp [isInt, z]
        rw [this, if_pos z]
        rfl
      · have : isInt k (Value.int a t) = false := by simp [isInt, z]
        rw [this, if_neg z]
        cases posN k r <;> rfl
def sRem (i : Nat) (fd : FD) : FS := fun ω => (fd ω).bind fun d => match d with
  | .int k => match ω[i]? with
    | some (some (.ow ds)) => (intsOf ds).bind fun ns => (posN k ns).map fun j => (.nx, ω.set i (some (.ow ((ns.eraseIdx j).map D.int))))
    | _ => none
  | _ => none
section
variable {X : Cx} {pos : Pos} {o e : Expr} {apos cpos : Pos} {i : Nat} {fd : FD}
end
end Hk
set_option maxRecDepth 100000
namespace Hk
open PySem L2
def forChk (j : Nat) (c : FT) (b : FS) : List D → FS
  | [], ω => some (.nx, ω)
  | d :: ds, ω => (c (ω.set j (some (.sh d)))).bind fun k => if k = true then (b (ω.set j (some (.sh d)))).bind fun p => match p.1 with
      | .rt r => some (.rt r, p.2)
      | _ => none
    else forChk j c b ds (ω.set j (some (.sh d)))
def sForChk (i j : Nat) (c : FT) (b : FS) : FS := fun ω => match ω[i]? with
  | some (some (.ow ds)) => forChk j c b ds ω
  | _ => none
section
variable {X : Cx} {o c : Expr} {body : List Stmt} {pos ipos npos : Pos} {i j : Nat} {fc : FT} {fb : FS}
end
end Hk
set_option maxRecDepth 100000
namespace Hk
open PySem L2
def dropW (o : Option R) (ω : WSt) : Option (Out × WSt) := o.map fun _ => (.nx, ω)
def mutS (m : List D → List D) (i : Nat) (ω : WSt) (o : Option (Option W)) : Option (Out × WSt) := match o with
  | some (some (.ow ds)) => some (.nx, ω.set i (some (.ow (m ds))))
  | _ => none
def zipI (o : Option (List D)) : Option (List D) := o.bind fun ds => match ds with
  | [.lst a, .lst b] => some (tupL a b)
  | _ => none
def remS (i : Nat) (ω : WSt) (o : Option D) (l : Option (Option W)) : Option (Out × WSt) := o.bind fun d => match d with
  | .int k => match l with
    | some (some (.ow ds)) => (intsOf ds).bind fun ns => (posN k ns).map fun j => (.nx, ω.set i (some (.ow ((ns.eraseIdx j).map D.int))))
    | _ => none
  | _ => none
def popW (i j : Nat) (ω : WSt) (o : Option D) (l : Option (Option W)) : Option (Out × WSt) := (o.bind fun d => match d with
  | .int k => match l with
    | some (some (.ow ds)) => if -(2 ^ 63) ≤ k ∧ k < 2 ^ 63 then (seqIndex? k ds.length).bind fun n => (ds[n]?).map fun d => (d, ω.set j (some (.ow (ds.eraseIdx n)))) else none
    | _ => none
  | _ => none).map fun p => (.nx, p.2.set i (some (.sh p.1)))
def sortR (o : Option D) : Option R := o.bind oSortL
def chkS (j : Nat) (c : FT) (b : FS) (ω : WSt) (l : Option (Option W)) : Option (Out × WSt) := match l with
  | some (some (.ow ds)) => forChk j c b ds ω
  | _ => none
section
variable {ω : WSt} {fe : FE} {fd : FD} {fa : FA} {r : R} {ds as bs : List D} {i j : Nat} {f : FS} {ft : FT} {m : List D → List D}
theorem e_wdrop : sDrop fe ω = dropW (fe ω) ω := rfl
theorem e_wd : dropW (some r) ω = some (.nx, ω) := rfl
theorem e_wclr : sClr i ω = mutS (fun _ => []) i ω ω[i]? := rfl
theorem e_wrev : sRev i ω = mutS List.reverse i ω ω[i]? := rfl
theorem e_wm : mutS m i ω (some (some (.ow ds))) = some (.nx, ω.set i (some (.ow (m ds)))) := rfl
theorem e_wzip : iZp fa ω = zipI (fa ω) := rfl
theorem e_wz : zipI (some [.lst as, .lst bs]) = some (tupL as bs) := rfl
theorem e_wrem : sRem i fd ω = remS i ω (fd ω) ω[i]? := rfl
theorem e_wpop : sSetM i (mPop j fd) ω = popW i j ω (fd ω) ω[j]? := by
  unfold sSetM mPop popD popW
  cases fd ω with
  | none => rfl
  | some d => cases d <;> rfl
theorem e_wsort : fSortL fd ω = sortR (fd ω) := rfl
theorem e_wchk : sForChk i j ft f ω = chkS j ft f ω ω[i]? := rfl
theorem e_wck : chkS j ft f ω (some (some (.ow ds))) = forChk j ft f ds ω := rfl
end
end Hk
set_option maxRecDepth 100000
namespace L2
open PySem PySem.Spec PyProof.Rows
section
variable {κ : Type} [DecidableEq κ]
def valV (kvs : List (κ × V)) (k : κ) : Option V := (kvs.find? fun kv => decide (kv.1 = k)).map (·.2)
def putK (kvs : List (κ × V)) (k : κ) (v : V) : List (κ × V) :=
  if (kvs.any fun kv => decide (kv.1 = k)) = true then kvs.map (fun kv => if kv.1 = k then (kv.1, v) else kv) else kvs ++ [(k, v)]
def dropK (kvs : List (κ × V)) (k : κ) : List (κ × V) := kvs.filter fun kv => decide (kv.1 ≠ k)
theorem valV_pos {p : κ × V} {r : List (κ × V)} {k : κ} (e : p.1 = k) : valV (p :: r) k = some p.2 := by simp [valV, List.find?_cons, e]
theorem valV_neg {p : κ × V} {r : List (κ × V)} {k : κ} (e : ¬ p.1 = k) : valV (p :: r) k = valV r k := by simp [valV, List.find?_cons, e]
theorem valV_any (k : κ) : ∀ kvs : List (κ × V), (kvs.any fun kv => decide (kv.1 = k)) = (valV kvs k).isSome
  | [] => rfl
  | p :: r => by
    rw [List.any_cons]
    by_cases e : p.1 = k
    · simp only [valV_pos e, decide_eq_true e, Bool.true_or, Option.isSome_some]
    · rw [valV_neg e, decide_eq_false e, Bool.false_or]; exact valV_any k r
theorem RelO.isSome_eq {o : Option V} {u : Option Value} (r : RelO o u) : o.isSome = u.isSome := by
  cases o with
  | none => cases u with
    | none => rfl
    | some _ => exact (show False from r).elim
  | some _ => cases u with
    | none => exact (show False from r).elim
    | some _ => rfl
theorem RelO.getD {o : Option V} {u : Option Value} {d : V} {d' : Value} (r : RelO o u) (rd : RelV d d') : RelV (o.getD d) (u.getD d') := by
  cases o with
  | none => cases u with
    | none => exact rd
    | some _ => exact (show False from r).elim
  | some _ => cases u with
    | none => exact (show False from r).elim
    | some _ => exact r
theorem KV.val {kvs : List (κ × V)} {vs : List (κ × Value)} (r : KV kvs vs) (k : κ) : RelO (valV kvs k) (valueAt vs k) := by
  unfold KV at r
  induction r with
  | nil => exact True.intro
  | @cons p q ps qs h t ih =>
    obtain ⟨h1, h2⟩ := h
    by_cases e : p.1 = k
    · have e' : q.1 = k := h1.symm.trans e
      have b : valueAt (q :: qs) k = some q.2 := by simp [valueAt, List.find?_cons, e']
      rw [valV_pos e, b]; exact h2
    · have e' : ¬ q.1 = k := fun z => e (h1.trans z)
      have b : valueAt (q :: qs) k = valueAt qs k := by simp [valueAt, List.find?_cons, e']
      rw [valV_neg e, b]; exact ih
theorem KV.any {kvs : List (κ × V)} {vs : List (κ × Value)} (r : KV kvs vs) (k : κ) : (kvs.any fun kv => decide (kv.1 = k)) = vs.any fun kv => decide (kv.1 = k) := by
  unfold KV at r
  induction r with
  | nil => rfl
  | cons h t ih => rw [List.any_cons, List.any_cons, ih, h.1]
theorem KV.repl {kvs : List (κ × V)} {vs : List (κ × Value)} (r : KV kvs vs) (k : κ) {y : V} {u : Value} (ry : RelV y u) :
    KV (kvs.map fun kv => if kv.1 = k then (kv.1, y) else kv) (vs.map fun kv => if kv.1 = k then (kv.1, u) else kv) := by
  unfold KV at r ⊢
  induction r with
  | nil => exact .nil
  | @cons p q ps qs h t ih =>
    rw [List.map_cons, List.map_cons]
    refine .cons ?_ ih
    obtain ⟨h1, h2⟩ := h
    by_cases e : p.1 = k
    · rw [if_pos e, if_pos (h1.symm.trans e)]; exact ⟨h1, ry⟩
    · rw [if_neg e, if_neg (fun z => e (h1.trans z))]; exact ⟨h1, h2⟩
theorem KV.put {kvs : List (κ × V)} {vs : List (κ × Value)} (r : KV kvs vs) (k : κ) {y : V} {u : Value} (ry : RelV y u) : KV (putK kvs k y) (stored vs k u) := by
  unfold putK stored
  rw [r.any k]
  by_cases e : (vs.any fun kv => decide (kv.1 = k)) = true
  · rw [if_pos e, if_pos e]; exact r.repl k ry
  · rw [if_neg e, if_neg e]; exact Paired.snoc r ⟨rfl, ry⟩
theorem KV.drop {kvs : List (κ × V)} {vs : List (κ × Value)} (r : KV kvs vs) (k : κ) : KV (dropK kvs k) (without vs k) := by
  unfold KV at r ⊢
  unfold dropK without
  induction r with
  | nil => exact .nil
  | @cons p q ps qs h t ih =>
    obtain ⟨h1, h2⟩ := h
    rw [List.filter_cons, List.filter_cons]
    by_cases e : p.1 = k
    · have a : ¬ decide (p.1 ≠ k) = true := by simp [e]
      have b : ¬ decide (q.1 ≠ k) = true := by simp [h1.symm.trans e]
      rw [if_neg a, if_neg b]; exact ih
    · have e' : ¬ q.1 = k := fun z => e (h1.trans z)
      have a : decide (p.1 ≠ k) = true := by simp [e]
      have b : decide (q.1 ≠ k) = true := by simp [e']
      rw [if_pos a, if_pos b]; exact .cons ⟨h1, h2⟩ ih
theorem KV.keys {kvs : List (κ × V)} {vs : List (κ × Value)} (r : KV kvs vs) : kvs.map (·.1) = vs.map (·.1) := by
  unfold KV at r
  induction r with
  | nil => rfl
  | cons h t ih => rw [List.map_cons, List.map_cons, ih, h.1]
theorem KV.length {kvs : List (κ × V)} {vs : List (κ × Value)} (r : KV kvs vs) : kvs.length = vs.length := Paired.length r
end
abbrev KT (H : Hp) : List (List Key × V) → List (List Key × Addr × Value) → Prop := Paired fun p q => p.1 = q.1 ∧ H q.2.1 = some (.tup (p.1.map kV)) ∧ RelV p.2 q.2.2
theorem KT.val {H : Hp} {kvs : List (List Key × V)} {xs : List (List Key × Addr × Value)} (r : KT H kvs xs) (k : List Key) : RelO (valV kvs k) ((atKey xs k).map (·.2)) := by
  induction r with
  | nil => exact True.intro
  | @cons p q ps qs h t ih =>
    obtain ⟨h1, _, h2⟩ := h
    by_cases e : p.1 = k
    · have e' : q.1 = k := h1.symm.trans e
      have b : atKey (q :: qs) k = some q.2 := by simp [atKey, List.find?_cons, e']
      rw [valV_pos e, b]; exact h2
    · have e' : ¬ q.1 = k := fun z => e (h1.trans z)
      have b : atKey (q :: qs) k = atKey qs k := by simp [atKey, List.find?_cons, e']
      rw [valV_neg e, b]; exact ih
theorem KT.repl {H : Hp} {kvs : List (List Key × V)} {xs : List (List Key × Addr × Value)} (r : KT H kvs xs) (k : List Key) {y : V} {u : Value} (ry : RelV y u) :
    KT H (kvs.map fun kv => if kv.1 = k then (kv.1, y) else kv) (xs.map (putAt k u)) := by
  induction r with
  | nil => exact .nil
  | @cons p q ps qs h t ih =>
    rw [List.map_cons, List.map_cons]
    refine .cons ?_ ih
    obtain ⟨h1, h2, h3⟩ := h
    unfold putAt
    by_cases e : p.1 = k
    · rw [if_pos e, if_pos (h1.symm.trans e)]; exact ⟨h1, h2, ry⟩
    · rw [if_neg e, if_neg (fun z => e (h1.trans z))]; exact ⟨h1, h2, h3⟩
theorem KT.put {H : Hp} {kvs : List (List Key × V)} {xs : List (List Key × Addr × Value)} (r : KT H kvs xs) (k : List Key) {b : Addr} {y : V} {u : Value} (hb : H b = some (.tup (k.map kV))) (ry : RelV y u) :
    KT H (putK kvs k y) (storedH xs k b u) := by
  have e : (kvs.any fun kv => decide (kv.1 = k)) = (atKey xs k).isSome := by
    rw [valV_any, (r.val k).isSome_eq, Option.isSome_map]
  unfold putK storedH
  rw [e]
  by_cases q : (atKey xs k).isSome = true
  · rw [if_pos q, if_pos q]; exact r.repl k ry
  · rw [if_neg q, if_neg q]; exact Paired.snoc r ⟨rfl, hb, ry⟩
theorem KT.keeps {H H' : Hp} {kvs : List (List Key × V)} {xs : List (List Key × Addr × Value)} (r : KT H kvs xs) (ht : ∀ b ys, H b = some (.tup ys) → H' b = some (.tup ys)) : KT H' kvs xs :=
  Paired.mapP r fun _ _ z => ⟨z.1, ht _ _ z.2.1, z.2.2⟩
section
variable {P : Program} {w : World} {H : Hp} {h : Heap} {a : Addr}
end
def DGet (H : Hp) (a : Addr) (y : V) (r : Option V) : Prop :=
  (∃ kvs k, Rd H a (.dK kvs) ∧ y = kV k ∧ r = valV kvs k) ∨ ∃ kvs k b, Rd H a (.dT kvs) ∧ y = .ref b ∧ H b = some (.tup (k.map kV)) ∧ r = valV kvs k
def DPut (H : Hp) (a : Addr) (y v : V) (H' : Hp) : Prop :=
  (∃ kvs k, H a = some (.dK kvs) ∧ y = kV k ∧ kvs.length < sizeLine ∧ H' = upd H a (.dK (putK kvs k v))) ∨
  ∃ kvs k b, H a = some (.dT kvs) ∧ y = .ref b ∧ H b = some (.tup (k.map kV)) ∧ kvs.length < sizeLine ∧ H' = upd H a (.dT (putK kvs k v))
theorem DGet.k {H : Hp} {a : Addr} {kvs : List (Key × V)} {k : Key} (e : H a = some (.dK kvs)) : DGet H a (kV k) (valV kvs k) := .inl ⟨kvs, k, .inl e, rfl, rfl⟩
theorem DGet.t {H : Hp} {a b : Addr} {kvs : List (List Key × V)} {k : List Key} (e : H a = some (.dT kvs)) (eb : H b = some (.tup (k.map kV))) : DGet H a (.ref b) (valV kvs k) := .inr ⟨kvs, k, b, .inl e, rfl, eb, rfl⟩
theorem DPut.k {H : Hp} {a : Addr} {kvs : List (Key × V)} {k : Key} {v : V} (e : H a = some (.dK kvs)) (hl : kvs.length < sizeLine) : DPut H a (kV k) v (upd H a (.dK (putK kvs k v))) := .inl ⟨kvs, k, e, rfl, hl, rfl⟩
theorem DPut.t {H : Hp} {a b : Addr} {kvs : List (List Key × V)} {k : List Key} {v : V} (e : H a = some (.dT kvs)) (eb : H b = some (.tup (k.map kV))) (hl : kvs.length < sizeLine) :
    DPut H a (.ref b) v (upd H a (.dT (putK kvs k v))) := .inr ⟨kvs, k, b, e, rfl, eb, hl, rfl⟩
section
variable {X : Cx} {pins : List (Addr × Obj)} {σ : St} {H : Hp} {s : Shared} {a : Addr} {y v : V} {u r : Value} {o : Option V} {A : Around} {E : Value → Shared → Prop}
end
section
variable {X : Cx} {pins : List (Addr × Obj)} {σ : St} {H : Hp} {s : Shared} {a : Addr} {kvs : List (Key × V)} {k : Key} {u : Value} {A : Around} {E : Value → Shared → Prop}
end
section
variable {X : Cx} {o i e value : Expr} {pos pos' tpos : Pos} {td ty tv : TE}
end
section
variable {X : Cx} {pos : Pos}
end
section
variable {X : Cx} {pins : List (Addr × Obj)} {σ : St} {H : Hp} {s : Shared} {a : Addr} {y d : V} {u r : Value} {o : Option V} {A : Around} {E : Value → Shared → Prop}
end
section
variable {X : Cx} {o e f : Expr} {apos cpos : Pos} {td ty tx : TE}
end
section
variable {X : Cx} {pins : List (Addr × Obj)} {σ : St} {H : Hp} {s : Shared} {a : Addr} {kvs : List (Key × V)} {A : Around} {E : Value → Shared → Prop}
end
section
variable {X : Cx} {pins : List (Addr × Obj)} {σ : St} {H : Hp} {s : Shared} {a : Addr} {y : V} {u : Value} {A : Around} {E : Value → Shared → Prop}
end
end L2
set_option maxRecDepth 100000
namespace Hk
open PySem L2
def valD {α : Type} : List Int → List α → Int → Option α
  | k' :: ks, x :: xs, k => if k' = k then some x else valD ks xs k
  | _, _, _ => none
def repA {α : Type} : List Int → List α → Int → α → List α
  | k' :: ks, x :: xs, k, y => (if k' = k then y else x) :: repA ks xs k y
  | _, xs, _, _ => xs
def putKs (ks : List Int) (k : Int) : List Int := if k ∈ ks then ks else ks ++ [k]
def putA {α : Type} (ks : List Int) (xs : List α) (k : Int) (y : α) : List α := if k ∈ ks then repA ks xs k y else xs ++ [y]
theorem kvsOf_val : ∀ {ks : List Int} {vs : List V}, ks.length = vs.length → ∀ k, valV (kvsOf ks vs) (Sum.inl k) = valD ks vs k
  | [], [], _, k => rfl
  | [], _ :: _, h, _ => by simp at h
  | _ :: _, [], h, _ => by simp at h
  | k' :: ks, v :: vs, h, k => by
    show valV ((Sum.inl k', v) :: kvsOf ks vs) (Sum.inl k) = if k' = k then some v else valD ks vs k
    by_cases z : k' = k
    · rw [if_pos z, valV_pos (p := ((Sum.inl k' : Key), v)) (by rw [z])]
    · rw [if_neg z, valV_neg (p := ((Sum.inl k' : Key), v)) (fun e => z (Sum.inl.inj e))]
      exact kvsOf_val (by simpa using h) k
theorem kvsOf_len : ∀ {ks : List Int} {vs : List V}, ks.length = vs.length → (kvsOf ks vs).length = ks.length
  | [], [], _ => rfl
  | [], _ :: _, h => by simp at h
  | _ :: _, [], h => by simp at h
  | k' :: ks, v :: vs, h => by show (kvsOf ks vs).length + 1 = _; rw [kvsOf_len (by simpa using h)]; rfl
theorem kvsOf_any : ∀ {ks : List Int} {vs : List V}, ks.length = vs.length → ∀ k, (kvsOf ks vs).any (fun kv => decide (kv.1 = (Sum.inl k : Key))) = decide (k ∈ ks)
  | [], [], _, _ => rfl
  | [], _ :: _, h, _ => by simp at h
  | _ :: _, [], h, _ => by simp at h
  | k' :: ks, v :: vs, h, k => by
    show (decide ((Sum.inl k' : Key) = Sum.inl k) || (kvsOf ks vs).any _) = _
    rw [kvsOf_any (by simpa using h) k]
    have e : decide ((Sum.inl k' : Key) = Sum.inl k) = decide (k' = k) := by
      by_cases z : k' = k
      · rw [z]; simp
      · rw [decide_eq_false z, decide_eq_false (fun e => z (Sum.inl.inj e))]
    rw [e]
    simp only [List.mem_cons]
    by_cases z : k' = k
    · simp [z]
    · have : ¬ k = k' := fun y => z y.symm
      simp [z, this]
theorem kvsOf_map : ∀ {ks : List Int} {vs : List V}, ks.length = vs.length → ∀ (k : Int) (v : V), (kvsOf ks vs).map (fun kv => if kv.1 = (Sum.inl k : Key) then (kv.1, v) else kv) = kvsOf ks (repA ks vs k v)
  | [], [], _, _, _ => rfl
  | [], _ :: _, h, _, _ => by simp at h
  | _ :: _, [], h, _, _ => by simp at h
  | k' :: ks, u :: vs, h, k, v => by
    show (if (Sum.inl k' : Key) = Sum.inl k then ((Sum.inl k' : Key), v) else (Sum.inl k', u)) :: (kvsOf ks vs).map _ = (Sum.inl k', if k' = k then v else u) :: kvsOf ks (repA ks vs k v)
    rw [kvsOf_map (by simpa using h) k v]
    by_cases z : k' = k
    · rw [if_pos (by rw [z]), if_pos z]
    · rw [if_neg (fun e => z (Sum.inl.inj e)), if_neg z]
theorem kvsOf_snoc : ∀ {ks : List Int} {vs : List V}, ks.length = vs.length → ∀ (k : Int) (v : V), kvsOf ks vs ++ [(Sum.inl k, v)] = kvsOf (ks ++ [k]) (vs ++ [v])
  | [], [], _, _, _ => rfl
  | [], _ :: _, h, _, _ => by simp at h
  | _ :: _, [], h, _, _ => by simp at h
  | k' :: ks, u :: vs, h, k, v => by show _ :: (kvsOf ks vs ++ [(Sum.inl k, v)]) = _; rw [kvsOf_snoc (by simpa using h) k v]; rfl
theorem kvsOf_put {ks : List Int} {vs : List V} (h : ks.length = vs.length) (k : Int) (v : V) : putK (kvsOf ks vs) (Sum.inl k) v = kvsOf (putKs ks k) (putA ks vs k v) := by
  unfold putK putKs putA
  rw [kvsOf_any h]
  by_cases z : k ∈ ks
  · rw [if_pos (decide_eq_true z), if_pos z, if_pos z]; exact kvsOf_map h k v
  · rw [if_neg (by rw [decide_eq_false z]; decide), if_neg z, if_neg z]; exact kvsOf_snoc h k v
section
variable {K : PySem.W.Frag} {G : Hp}
theorem Reps.val : ∀ {ks : List Int} {ds : List D} {vs : List V} {k : Int} {d : D}, Reps K G ds vs → valD ks ds k = some d → ∃ v, valD ks vs k = some v ∧ Rep K G d v
  | [], _, _, _, _, _, e => by cases e
  | _ :: _, [], _, _, _, _, e => by cases e
  | k' :: ks, d' :: ds, _, k, d, ⟨v, r, h1, h2, h3⟩, e => by
    subst h1
    have e : (if k' = k then some d' else valD ks ds k) = some d := e
    show ∃ u, (if k' = k then some v else valD ks r k) = some u ∧ _
    by_cases z : k' = k
    · rw [if_pos z] at e ⊢; cases e; exact ⟨v, rfl, h2⟩
    · rw [if_neg z] at e ⊢; exact Reps.val h3 e
theorem Reps.repA : ∀ {ks : List Int} {ds : List D} {vs : List V} (k : Int) {d : D} {v : V}, Reps K G ds vs → Rep K G d v → Reps K G (Hk.repA ks ds k d) (Hk.repA ks vs k v)
  | [], _, _, _, _, _, h, _ => h
  | _ :: _, [], _, _, _, _, h, _ => by cases (show _ = [] from h); rfl
  | k' :: ks, d' :: ds, _, k, d, v, ⟨u, r, h1, h2, h3⟩, hv => by
    subst h1
    refine ⟨_, _, rfl, ?_, Reps.repA k h3 hv⟩
    by_cases z : k' = k
    · rw [if_pos z, if_pos z]; exact hv
    · rw [if_neg z, if_neg z]; exact h2
theorem Reps.putA {ks : List Int} {ds : List D} {vs : List V} (k : Int) {d : D} {v : V} (h : Reps K G ds vs) (hv : Rep K G d v) : Reps K G (Hk.putA ks ds k d) (Hk.putA ks vs k v) := by
  unfold Hk.putA
  by_cases z : k ∈ ks
  · rw [if_pos z, if_pos z]; exact h.repA k hv
  · rw [if_neg z, if_neg z]; exact h.app (Reps.cons hv Reps.nil)
end
def dicOf : Option (Option W) → Option (List Int × List D)
  | some (some (.od ks ds)) => some (ks, ds)
  | some (some (.sh (.dic ks ds))) => some (ks, ds)
  | _ => none
theorem Own.dic {K : PySem.W.Frag} {G0 : Hp} {H0 : Fr} {G : Hp} {ω : WSt} {σ : St} {H : Hp} {i : Nat} {ks : List Int} {ds : List D} (o : Own K G0 H0 G ω σ H) (h : dicOf ω[i]? = some (ks, ds)) :
    ∃ p vs, σ[i]? = some (some (.ref p)) ∧ Rd H p (.dK (kvsOf ks vs)) ∧ ks.length = ds.length ∧ Reps K G ds vs := by
  unfold dicOf at h
  split at h
  · rename_i q
    cases h
    obtain ⟨p, vs, h1, h2, _, _, h5, h6, _⟩ := o.od i _ _ q
    exact ⟨p, vs, h1, .inl h2, h5, h6⟩
  · rename_i q
    cases h
    obtain ⟨v, h1, p, vs, rfl, ⟨ob, h2⟩, h3, h4⟩ := o.sh i _ q
    exact ⟨p, vs, h1, .inr ⟨ob, o.gh _ _ h2⟩, h3, h4⟩
  · cases h
section
variable {X : Cx} {o k e : Expr} {pos pos' dpos : Pos} {i : Nat} {fk fv : FD}
def sDNew (i : Nat) : FS := fun ω => some (.nx, ω.set i (some (.od [] [])))
def sDSet (i : Nat) (fk fv : FD) : FS := fun ω => (fv ω).bind fun d => (fk ω).bind fun c => match c, ω[i]? with
  | .int k, some (some (.od ks ds)) => if ks.length < 1000000 then some (.nx, ω.set i (some (.od (putKs ks k) (putA ks ds k d)))) else none
  | _, _ => none
def fDGet (i : Nat) (fk : FD) : FE := fun ω => (dicOf ω[i]?).bind fun p => (fk ω).bind fun c => match c with
  | .int k => (valD p.1 p.2 k).map R.sh
  | _ => none
def tDHas (neg : Bool) (i : Nat) (fk : FD) : FT := fun ω => (fk ω).bind fun c => (dicOf ω[i]?).bind fun p => match c with
  | .int k => some (if neg then !(valD p.1 p.2 k).isSome else (valD p.1 p.2 k).isSome)
  | _ => none
end
end Hk
set_option maxRecDepth 100000
namespace Hk
open PySem L2
section
variable {X : Cx} {o k e : Expr} {pos pos' dpos : Pos} {i : Nat} {fk fv : FD}
def sDNew1 (i : Nat) (fk fv : FD) : FS := fun ω => (fk ω).bind fun c => (fv ω).bind fun d => match c with
  | .int k => some (.nx, ω.set i (some (.od [k] [d])))
  | _ => none
end
section
open PySem.Spec PyProof.Rows PySem.W
variable {prog : Program} {w : World} {A : Around} {E : Value → Shared → Prop} {s : Shared}
end
section
variable {X : Cx} {o : Expr} {i : Nat}
def fSortD (i : Nat) : FE := fun ω => (dicOf ω[i]?).bind fun p => if p.1.length < 64 then some (.fr ((sortZ p.1).map D.int)) else none
def mPop0 (i : Nat) : FM := fun ω => match ω[i]? with
  | some (some (.ow ds)) => (ds[ds.length - 1]?).map fun d => (d, ω.set i (some (.ow ds.dropLast)))
  | _ => none
theorem Reps.dropLast {K : PySem.W.Frag} {H : Hp} {ds : List D} {vs : List V} (h : Reps K H ds vs) : Reps K H ds.dropLast vs.dropLast := by
  rw [List.dropLast_eq_take, List.dropLast_eq_take, h.len]; exact h.take _
end
end Hk
set_option maxRecDepth 100000
namespace Hk
open PySem L2
def appA : List Int → List (List Int) → Int → Int → List (List Int)
  | k :: ks, x :: xs, a, b => if k = a then (x ++ [b]) :: xs else x :: appA ks xs a b
  | _, xs, _, _ => xs
structure Tab (G H0 H : Hp) (p : Addr) (ks : List Int) (ls : List Addr) (xss : List (List Int)) : Prop where
  dict : H p = some (.dK (kvsOf ks (ls.map V.ref)))
  gp : G p = none
  hp : H0 p = none
  len : ks.length = ls.length
  len2 : ls.length = xss.length
  lst : ∀ (j : Nat) l xs, ls[j]? = some l → xss[j]? = some xs → H l = some (.lst (xs.map V.int))
  gl : ∀ l ∈ ls, G l = none ∧ H0 l = none
  nd : ls.Nodup
theorem Tab.inn {G H0 H : Hp} {p : Addr} {ks : List Int} {ls : List Addr} {xss : List (List Int)} (T : Tab G H0 H p ks ls xss) {l : Addr} (h : l ∈ ls) : ∃ xs : List Int, H l = some (.lst (xs.map V.int)) := by
  obtain ⟨j, hj, rfl⟩ := List.mem_iff_getElem.mp h
  have hj2 : j < xss.length := by rw [← T.len2]; exact hj
  exact ⟨xss[j], T.lst j _ _ (List.getElem?_eq_getElem hj) (List.getElem?_eq_getElem hj2)⟩
theorem Tab.pl {G H0 H : Hp} {p : Addr} {ks : List Int} {ls : List Addr} {xss : List (List Int)} (T : Tab G H0 H p ks ls xss) : p ∉ ls := fun h => by
  obtain ⟨xs, e⟩ := T.inn h
  rw [T.dict] at e
  cases e
theorem Tab.keep {G G' H0 H H' : Hp} {p : Addr} {ks : List Int} {ls : List Addr} {xss : List (List Int)} (T : Tab G H0 H p ks ls xss) (x : Ext G H G' H') : Tab G' H0 H' p ks ls xss :=
  ⟨x.hh _ _ T.dict, x.new p T.gp (by rw [T.dict]; exact fun z => by cases z), T.hp, T.len, T.len2, fun j l xs h1 h2 => x.hh _ _ (T.lst j l xs h1 h2), fun l h => by
    obtain ⟨xs, e⟩ := T.inn h
    exact ⟨x.new l (T.gl l h).1 (by rw [e]; exact fun z => by cases z), (T.gl l h).2⟩, T.nd⟩
theorem val_ix : ∀ {ks : List Int} {ls : List Addr} {a : Int}, ks.length = ls.length → a ∈ ks → ∃ (j : Nat) (l : Addr), ks[j]? = some a ∧ ls[j]? = some l ∧ valD ks (ls.map V.ref) a = some (.ref l) ∧ ∀ (xss : List (List Int)) (b : Int), xss.length = ls.length → ∃ xs, xss[j]? = some xs ∧ appA ks xss a b = xss.set j (xs ++ [b])
  | [], _, _, _, h => by simp at h
  | _ :: _, [], _, h, _ => by simp at h
  | k :: ks, l :: ls, a, h, ha => by
    by_cases z : k = a
    · refine ⟨0, l, by rw [z]; rfl, rfl, if_pos z, fun xss b hx => ?_⟩
      cases xss with
      | nil => simp at hx
      | cons x xs => exact ⟨x, rfl, if_pos z⟩
    · have ha' : a ∈ ks := (List.mem_cons.mp ha).resolve_left fun e => z e.symm
      obtain ⟨j, l', e1, e2, e3, e4⟩ := val_ix (ks := ks) (ls := ls) (by simpa using h) ha'
      refine ⟨j + 1, l', e1, e2, ?_, fun xss b hx => ?_⟩
      · show (if k = a then _ else _) = _
        rw [if_neg z]; exact e3
      · cases xss with
        | nil => simp at hx
        | cons x xs =>
          obtain ⟨y, h1, h2⟩ := e4 xs b (by simpa using hx)
          refine ⟨y, h1, ?_⟩
          show (if k = a then _ else x :: appA ks xs a b) = _
          rw [if_neg z, h2]; rfl
theorem Tab.app {G H0 H : Hp} {p : Addr} {ks : List Int} {ls : List Addr} {xss : List (List Int)} (T : Tab G H0 H p ks ls xss) {a : Int} (b : Int) (ha : a ∈ ks) :
    ∃ (l : Addr) (xs : List Int), l ∈ ls ∧ xs ∈ xss ∧ valD ks (ls.map V.ref) a = some (.ref l) ∧ DGet H p (.int a) (some (.ref l)) ∧ H l = some (.lst (xs.map V.int)) ∧ Tab G H0 (upd H l (.lst ((xs ++ [b]).map V.int))) p ks ls (appA ks xss a b) := by
  obtain ⟨j, l, e1, e2, e3, e4⟩ := val_ix T.len ha
  obtain ⟨xs, e5, e6⟩ := e4 xss b T.len2.symm
  have hl : l ∈ ls := List.mem_of_getElem? e2
  have hlp : p ≠ l := fun z => T.pl (z ▸ hl)
  have g := DGet.k (k := (Sum.inl a : Key)) T.dict
  rw [kvsOf_val (by rw [List.length_map]; exact T.len), e3] at g
  refine ⟨l, xs, hl, List.mem_of_getElem? e5, e3, g, T.lst j l xs e2 e5, ?_⟩
  rw [e6]
  refine ⟨by rw [upd_ne hlp]; exact T.dict, T.gp, T.hp, T.len, by rw [List.length_set]; exact T.len2, fun i m ys h1 h2 => ?_, T.gl, T.nd⟩
  rcases get_set h2 with ⟨rfl, _, rfl⟩ | ⟨ne, h3⟩
  · rw [e2] at h1
    cases h1
    exact upd_same
  · have hm : m ≠ l := fun z => by
      subst z
      obtain ⟨i1, i2⟩ := List.getElem?_eq_some_iff.mp h1
      obtain ⟨j1, j2⟩ := List.getElem?_eq_some_iff.mp e2
      exact ne ((List.getElem_inj T.nd).mp (j2.trans i2.symm))
    rw [upd_ne hm]
    exact T.lst i m ys h1 h3
theorem Own.free {K : PySem.W.Frag} {G0 : Hp} {H0 : Fr} {G : Hp} {ω : WSt} {σ : St} {H : Hp} {q : Addr} {ob : HO} (o : Own K G0 H0 G ω σ H) (no : NoOw ω) (hG : G q = none) (h0 : H0 q = none) : Own K G0 H0 G ω σ (upd H q ob) :=
  ⟨⟨o.ext.gg, same_updR o.ext.gh hG _, same_updR o.ext.hh h0 _, o.ext.new⟩, o.len, o.sh, fun i ds h => absurd h (no.ow i ds), o.nd, fun i ks ds h => absurd h (no.od i ks ds), PwOk.no no.pw⟩
theorem Tab.put {G H0 H : Hp} {p : Addr} {ks : List Int} {ls : List Addr} {xss : List (List Int)} (T : Tab G H0 H p ks ls xss) {k : Int} {l : Addr} (hk : k ∉ ks) (hl : H l = none) (sg : Same G H) (s0 : Same H0 H) (hz : ks.length < 1000000) :
    ∃ H4, DPut (upd H l (.lst [])) p (.int k) (.ref l) H4 ∧ H4 = upd (upd H l (.lst [])) p (.dK (kvsOf (ks ++ [k]) ((ls ++ [l]).map V.ref))) ∧ Tab G H0 H4 p (ks ++ [k]) (ls ++ [l]) (xss ++ [[]]) := by
  have hpl : p ≠ l := fun z => by rw [← z, T.dict] at hl; cases hl
  have hlen : ks.length = (ls.map V.ref).length := by rw [List.length_map]; exact T.len
  have e : putK (kvsOf ks (ls.map V.ref)) (Sum.inl k) (.ref l) = kvsOf (ks ++ [k]) ((ls ++ [l]).map V.ref) := by
    rw [kvsOf_put hlen]
    unfold putKs putA
    rw [if_neg hk, if_neg hk, List.map_append]; rfl
  have d := DPut.k (H := upd H l (.lst [])) (a := p) (kvs := kvsOf ks (ls.map V.ref)) (k := (Sum.inl k : Key)) (v := .ref l) (by rw [upd_ne hpl]; exact T.dict) (by rw [kvsOf_len hlen, sizeLine_eq]; omega)
  rw [e] at d
  refine ⟨_, d, rfl, upd_same, T.gp, T.hp, by rw [List.length_append, List.length_append, T.len]; rfl, by rw [List.length_append, List.length_append, T.len2]; rfl, fun j m xs h1 h2 => ?_, fun m hm => ?_, ?_⟩
  · rcases Nat.lt_or_ge j ls.length with z | z
    · rw [List.getElem?_append_left z] at h1
      rw [List.getElem?_append_left (by rw [← T.len2]; exact z)] at h2
      have e1 := T.lst j m xs h1 h2
      have n1 : m ≠ p := fun y => T.pl (y ▸ List.mem_of_getElem? h1)
      have n2 : m ≠ l := fun y => by rw [y, hl] at e1; cases e1
      rw [upd_ne n1, upd_ne n2]; exact e1
    · rw [List.getElem?_append_right z] at h1
      rw [List.getElem?_append_right (by rw [← T.len2]; exact z), ← T.len2] at h2
      cases hj : j - ls.length with
      | zero =>
        rw [hj] at h1 h2
        cases h1
        cases h2
        rw [upd_ne (Ne.symm hpl)]; exact upd_same
      | succ n => rw [hj] at h1; cases h1
  · rcases List.mem_append.mp hm with h | h
    · exact T.gl m h
    · cases List.mem_singleton.mp h; exact ⟨sg.free hl, s0.free hl⟩
  · rw [List.nodup_append]
    refine ⟨T.nd, by simp, fun a ha b hb z => ?_⟩
    cases List.mem_singleton.mp hb
    obtain ⟨xs, e1⟩ := T.inn ha
    rw [z, hl] at e1
    cases e1
theorem Own.other {K : PySem.W.Frag} {G0 : Hp} {H0 : Fr} {G : Hp} {ω : WSt} {σ : St} {H : Hp} {i : Nat} {v : Option V} (o : Own K G0 H0 G ω σ H) (no : NoOw ω) (hi : ∀ w, ω[i]? ≠ some (some w)) : Own K G0 H0 G ω (σ.set i v) H :=
  ⟨o.ext, by rw [List.length_set]; exact o.len, fun j d h => by
    obtain ⟨u, h1, h2⟩ := o.sh j d h
    exact ⟨u, by rw [List.getElem?_set_ne (fun z => hi _ (z ▸ h))]; exact h1, h2⟩, fun i ds h => absurd h (no.ow i ds), fun i j ds es l h => absurd h (no.ow i ds), fun i ks ds h => absurd h (no.od i ks ds), PwOk.no no.pw⟩
theorem Tab.told {K : PySem.W.Frag} {G0 G : Hp} {H0 : Fr} {H : Hp} {ω : WSt} {σ : St} {p : Addr} {ks : List Int} {ls : List Addr} {xss : List (List Int)} (T : Tab G H0 H p ks ls xss) (o : Own K G0 H0 G ω σ H) (no : NoOw ω) (ob : Obj) :
    ∃ G', Same G G' ∧ Own K G0 H0 G' ω σ (upd H p (.frz ob (.dK (kvsOf ks (ls.map V.ref))))) ∧ Rep K G' (.dic ks (xss.map fun xs => .lst (xs.map D.int))) (.ref p) := by
  obtain ⟨H', hH⟩ : ∃ H' : Hp, H' = upd H p (.frz ob (.dK (kvsOf ks (ls.map V.ref)))) := ⟨_, rfl⟩
  rw [← hH]
  have hp' : H' p = some (.frz ob (.dK (kvsOf ks (ls.map V.ref)))) := by rw [hH]; exact upd_same
  have hn' : ∀ b, b ≠ p → H' b = H b := fun b h => by rw [hH]; exact upd_ne h
  let G' : Hp := fun b => if b = p ∨ b ∈ ls then H' b else G b
  have hin : ∀ b, (b = p ∨ b ∈ ls) → G' b = H' b := fun b h => if_pos h
  have hout : ∀ b, ¬ (b = p ∨ b ∈ ls) → G' b = G b := fun b h => if_neg h
  have gn : ∀ b, (b = p ∨ b ∈ ls) → G b = none ∧ H0 b = none := fun b h => by
    rcases h with rfl | h
    · exact ⟨T.gp, T.hp⟩
    · exact T.gl b h
  have gg : Same G G' := fun b u z => by
    by_cases y : b = p ∨ b ∈ ls
    · rw [(gn b y).1] at z; cases z
    · rw [hout b y]; exact z
  have gh : Same G' H' := fun b u z => by
    by_cases y : b = p ∨ b ∈ ls
    · rw [hin b y] at z; exact z
    · rw [hout b y] at z; rw [hn' b fun w => y (.inl w)]; exact o.gh b u z
  have hh : Same H0.hp H' := fun b u z => by
    rw [hn' b fun w => by rw [w, T.hp] at z; cases z]; exact o.ext.hh b u z
  refine ⟨G', gg, ⟨⟨o.ext.gg.trans gg, gh, hh, fun b z1 z2 => ?_⟩, o.len, fun i d h => ?_, fun i ds h => absurd h (no.ow i ds), o.nd, fun i ks ds h => absurd h (no.od i ks ds), PwOk.no no.pw⟩, p, ls.map V.ref, rfl, ⟨ob, by rw [hin p (.inl rfl)]; exact hp'⟩, by rw [List.length_map, ← T.len2]; exact T.len, ?_⟩
  · by_cases y : b = p ∨ b ∈ ls
    · exact absurd (gn b y).2 z2
    · rw [hout b y]; exact o.ext.new b z1 z2
  · obtain ⟨v, h1, h2⟩ := o.sh i d h
    exact ⟨v, h1, h2.mono gg⟩
  · refine reps_refs (by rw [List.length_map]; exact T.len2.symm) fun j d t h1 h2 => ?_
    rw [List.getElem?_map] at h1
    cases q : xss[j]? with
    | none => rw [q] at h1; cases h1
    | some xs =>
      rw [q] at h1
      cases h1
      have hl := T.lst j t xs h2 q
      exact ⟨t, _, rfl, by rw [hin t (.inr (List.mem_of_getElem? h2)), hn' t fun w => by rw [w, T.dict] at hl; cases hl]; exact hl, Reps.ints xs⟩
section
variable {X : Cx}
end
end Hk
set_option maxRecDepth 100000
namespace Hk
open PySem L2
def dnew1S (i : Nat) (ω : WSt) (c d : Option D) : Option (Out × WSt) := c.bind fun c => d.bind fun d => match c with
  | .int k => some (.nx, ω.set i (some (.od [k] [d])))
  | _ => none
def dsetS (i : Nat) (ω : WSt) (v c : Option D) (w : Option (Option W)) : Option (Out × WSt) := v.bind fun d => c.bind fun c => match c, w with
  | .int k, some (some (.od ks ds)) => if ks.length < 1000000 then some (.nx, ω.set i (some (.od (putKs ks k) (putA ks ds k d)))) else none
  | _, _ => none
def dgetR (o : Option (List Int × List D)) (c : Option D) : Option R := o.bind fun p => c.bind fun c => match c with
  | .int k => (valD p.1 p.2 k).map R.sh
  | _ => none
def dhasT (neg : Bool) (c : Option D) (o : Option (List Int × List D)) : Option Bool := c.bind fun c => o.bind fun p => match c with
  | .int k => some (if neg then !(valD p.1 p.2 k).isSome else (valD p.1 p.2 k).isSome)
  | _ => none
def sortDR (o : Option (List Int × List D)) : Option R := o.bind fun p => if p.1.length < 64 then some (.fr ((sortZ p.1).map D.int)) else none
def pop0 (i : Nat) (ω : WSt) (w : Option (Option W)) : Option (D × WSt) := match w with
  | some (some (.ow ds)) => (ds[ds.length - 1]?).map fun d => (d, ω.set i (some (.ow ds.dropLast)))
  | _ => none
def pop0W (j i : Nat) (ω : WSt) (w : Option (Option W)) : Option (Out × WSt) := (pop0 i ω w).map fun p => (.nx, p.2.set j (some (.sh p.1)))
section
variable {ω : WSt} {fk fv : FD} {i j : Nat} {ks : List Int} {ds : List D} {k : Int} {d : D} {neg : Bool}
theorem e_dnew : sDNew i ω = some (.nx, ω.set i (some (.od [] []))) := rfl
theorem e_dnew1 : sDNew1 i fk fv ω = dnew1S i ω (fk ω) (fv ω) := rfl
theorem e_dn1 : dnew1S i ω (some (.int k)) (some d) = some (.nx, ω.set i (some (.od [k] [d]))) := rfl
theorem e_dset : sDSet i fk fv ω = dsetS i ω (fv ω) (fk ω) ω[i]? := rfl
theorem e_dget : fDGet i fk ω = dgetR (dicOf ω[i]?) (fk ω) := rfl
theorem e_dgr : dgetR (some (ks, ds)) (some (.int k)) = (valD ks ds k).map R.sh := rfl
theorem e_dco : dicOf (some (some (.od ks ds))) = some (ks, ds) := rfl
theorem e_dcs : dicOf (some (some (.sh (.dic ks ds)))) = some (ks, ds) := rfl
theorem e_dhas : tDHas neg i fk ω = dhasT neg (fk ω) (dicOf ω[i]?) := rfl
theorem e_dht : dhasT false (some (.int k)) (some (ks, ds)) = some (valD ks ds k).isSome := rfl
theorem e_dhn : dhasT true (some (.int k)) (some (ks, ds)) = some (!(valD ks ds k).isSome) := rfl
theorem e_dsort : fSortD i ω = sortDR (dicOf ω[i]?) := rfl
theorem e_dpop0 : sSetM j (mPop0 i) ω = pop0W j i ω ω[i]? := rfl
theorem e_dsh : shrS i ω (some (some (.od ks ds))) = ω.set i (some (.sh (.dic ks ds))) := rfl
end
end Hk
set_option maxRecDepth 100000
namespace Hk
open PySem L2
section
variable {X : Cx} {o k e : Expr} {pos pos' : Pos} {i : Nat} {fk fv : FD}
def sLSet (i : Nat) (fk fv : FD) : FS := fun ω => (fv ω).bind fun d => (fk ω).bind fun c => match c, ω[i]? with
  | .int k, some (some (.ow ds)) => (ixN ds.length k).map fun j => (.nx, ω.set i (some (.ow (ds.set j d))))
  | _, _ => none
theorem Reps.set {K : PySem.W.Frag} {H : Hp} : ∀ {ds : List D} {vs : List V} (n : Nat) {d : D} {v : V}, Reps K H ds vs → Rep K H d v → Reps K H (ds.set n d) (vs.set n v)
  | [], _, _, _, _, h, _ => by cases (show _ = _ from h); rfl
  | _ :: _, _, 0, _, _, ⟨v, r, h1, h2, h3⟩, hv => by rw [h1]; exact ⟨_, _, rfl, hv, h3⟩
  | _ :: _, _, n + 1, _, _, ⟨v, r, h1, h2, h3⟩, hv => by rw [h1]; exact ⟨v, _, rfl, h2, Reps.set n h3 hv⟩
theorem xs_lset (ho : PE X o (tVar i)) (hk : XD X k fk) (hv : XD X e fv) (hs : swapsWithSole [.Subscript o k pos'] e pos.line X.env = pure false := by rfl) (hw : swappedStores [.Subscript o k pos'] e X.env = pure none := by rfl)
    (h1' : (assignEach [.Subscript o k pos'] X.env).map (·.2) = [assign (.Subscript o k pos') X.env] := by rfl)
    (ha : ∀ v, assign (.Subscript o k pos') X.env v = (do
      let ov ← holding [v] (eval o X.env)
      let iv ← holding [v, ov] (eval k X.env)
      standAt pos'
      holding [v, ov, iv] (setItem ov iv v)
      release [v, ov, iv] []) := by intro _; rfl) : XS X (.Assign [.Subscript o k pos'] e pos) (sLSet i fk fv) := by
  obtain ⟨tk, h1, h2⟩ := hk
  obtain ⟨tv, h3, h4⟩ := hv
  refine ⟨_, ps_asg h3 (pg_sub ho h1 set_list ha) hs hw h1', fun G0 H0 G ω σ H out ω' E ow e kk => ?_⟩
  obtain ⟨d, q1, e⟩ := bnd e
  obtain ⟨c, q2, e⟩ := bnd e
  refine h4 G0 H0 G ω σ H d _ ow q1 fun v G1 H1 x1 y1 => ?_
  cases c with
  | int m =>
    split at e
    · rename_i _ _ _ m' ds ek q3
      cases ek
      obtain ⟨j, hj, e⟩ := mpd e
      cases e
      have o1 := ow.keep x1
      obtain ⟨l, vs, r1, r2, r3, r4, r5⟩ := o1.ow i ds q3
      refine ⟨.ref l, r1, h2 G0 H0 G1 ω σ H1 _ _ o1 q2 fun u G2 H2 x2 y2 => ?_⟩
      cases (show u = .int m from y2)
      have o2 := o1.keep x2
      refine ⟨l, vs, m, j, rfl, rfl, x2.hh _ _ r2, by rw [← r5.len]; exact hj, ?_⟩
      exact kk G2 σ _ (o2.mut q3 r1 (x2.hh _ _ r2) (x2.new l r3 (by rw [r2]; exact fun z => by cases z)) r4 ((r5.mono x2.gg).set j (y1.mono x2.gg))) (x1.gg.trans x2.gg)
    · cases e
  | _ => cases e
end
end Hk
set_option maxRecDepth 100000
namespace Hk
open PySem L2
section
variable {X : Cx} {e : Expr} {pos pos' : Pos} {i : Nat} {fe : FD}
def sAug (g : Int → Int → Int) (i : Nat) (fe : FD) : FS := fun ω => (fe ω).bind fun d => match d, ω[i]? with
  | .int b, some (some (.sh (.int a))) => some (.nx, ω.set i (some (.sh (.int (g a b)))))
  | _, _ => none
end
section
open PySem.Spec PyProof.Rows
variable {X : Cx}
def mx3 (i j k : Int) : Int := if k > (if j > i then j else i) then k else if j > i then j else i
end
def bMax3 : List D → Option R
  | [.int i, .int j, .int k] => some (.sh (.int (mx3 i j k)))
  | _ => none
end Hk
namespace L2
open PySem PySem.Spec PyProof.Rows
end L2
namespace Hk
open PySem L2
def iRv (g : FA) : FI := fun ω => (g ω).bind fun ds => match ds with
  | [.lst a] => some a.reverse
  | _ => none
end Hk
set_option maxRecDepth 100000
namespace Hk
open PySem L2
def lsetS (i : Nat) (ω : WSt) (v c : Option D) (w : Option (Option W)) : Option (Out × WSt) := v.bind fun d => c.bind fun c => match c, w with
  | .int k, some (some (.ow ds)) => (ixN ds.length k).map fun j => (.nx, ω.set i (some (.ow (ds.set j d))))
  | _, _ => none
def augS (g : Int → Int → Int) (i : Nat) (ω : WSt) (v : Option D) (w : Option (Option W)) : Option (Out × WSt) := v.bind fun d => match d, w with
  | .int b, some (some (.sh (.int a))) => some (.nx, ω.set i (some (.sh (.int (g a b)))))
  | _, _ => none
def rvI (o : Option (List D)) : Option (List D) := o.bind fun ds => match ds with
  | [.lst a] => some a.reverse
  | _ => none
section
variable {ω : WSt} {fk fv : FD} {fa : FA} {i j : Nat} {ds : List D} {a b c : Int} {d : D} {g : Int → Int → Int}
theorem e_lset : sLSet i fk fv ω = lsetS i ω (fv ω) (fk ω) ω[i]? := rfl
theorem e_aug : sAug g i fv ω = augS g i ω (fv ω) ω[i]? := rfl
theorem e_augi : augS g i ω (some (.int b)) (some (some (.sh (.int a)))) = some (.nx, ω.set i (some (.sh (.int (g a b))))) := rfl
theorem e_irv : iRv fa ω = rvI (fa ω) := rfl
theorem e_irl : rvI (some [.lst ds]) = some ds.reverse := rfl
theorem e_max3 : bMax3 [.int a, .int b, .int c] = some (.sh (.int (mx3 a b c))) := rfl
end
theorem lset_ok {i : Nat} {ω : WSt} {ds : List D} {d : D} {k : Int} (h0 : 0 ≤ k) (h1 : k < ds.length) : lsetS i ω (some d) (some (.int k)) (some (some (.ow ds))) = some (.nx, ω.set i (some (.ow (ds.set k.toNat d)))) := by
  show (ixN ds.length k).map _ = _
  have e : ixN ds.length k = some k.toNat := by unfold ixN; rw [if_pos h0, if_pos h1]
  rw [e]; rfl
end Hk
set_option maxRecDepth 100000
namespace Hk
open PySem L2
end Hk
set_option maxRecDepth 100000
namespace L2
open PySem PySem.Spec PyProof.Rows
end L2
namespace Hk
open PySem L2
def enumL : Nat → List D → List D
  | i, a :: as => .tup [.int i, a] :: enumL (i + 1) as
  | _, [] => []
def iEn (g : FA) : FI := fun ω => (g ω).bind fun ds => match ds with
  | [.lst a] => some (enumL 0 a)
  | _ => none
end Hk
namespace Hk
open PySem L2
def enI (o : Option (List D)) : Option (List D) := o.bind fun ds => match ds with
  | [.lst a] => some (enumL 0 a)
  | _ => none
theorem e_ien {fa : FA} {ω : WSt} : iEn fa ω = enI (fa ω) := rfl
theorem e_enl {ds : List D} : enI (some [.lst ds]) = some (enumL 0 ds) := rfl
end Hk
namespace Hk
open PySem L2
section
open PyProof.Rows PySem.Spec
variable {prog : Program} {w : World} {A : Around} {E : Value → Shared → Prop} {s : Shared} {l : Addr} {xs : Array (Int × Tok)}
end
section
variable {X : Cx}
open PyProof.Rows PySem.Spec
end
end Hk
set_option maxRecDepth 100000
namespace Hk
open PySem PySem.Spec PyProof.Rows L2
section
variable {prog : Program} {w : World} {A : Around} {E : Value → Shared → Prop} {s : Shared}
end
end Hk
namespace L2
open PySem PySem.Spec PyProof.Rows Hk
end L2
namespace Hk
open PySem L2
end Hk
set_option maxRecDepth 100000
namespace L2
open PySem PySem.Spec PyProof.Rows
end L2
namespace Hk
open PySem L2
def keysI : Option (Option W) → Option (List D)
  | some (some (.sh (.dic ks _))) => some (ks.map D.int)
  | _ => none
def iDk (i : Nat) : FI := fun ω => keysI ω[i]?
end Hk
set_option maxRecDepth 100000
namespace Hk
open PySem L2
abbrev Cal (P : Program) (w : World) (K : PySem.W.Frag) (mg : Str → Option Value) (base : Heap) (k : Nat) (f : Addr) (d : FuncData) (x : Str) (ps : List Str) (n : Nat) (m : List D → Option O) : Prop :=
  FnOk P w K mg base CX0 k f d ps (spD K n m) ∧ mg x = some (.ref f) ∧ PySem.W.keepIn K (.ref f) = true ∧ Binds K d ps []
section
variable {X : Cx} {x : Str} {pos : Pos}
theorem xc {e : Expr} {es : List Expr} {k k0 : Nat} {f : Addr} {fd : FuncData} {ps : List Str} {m : List D → Option O} {p : Pos} {g : FA} (c : Cal X.prog X.w X.K X.mg X.base k f fd x ps (e :: es).length m) (hr : Room k0 X.A) (ha : XA X (e :: es) g)
    (hk : k ≤ k0 := by decide) (hg : Gl X x := by exact rfl) (hdb : (x == ("__debug__" : Str)) = false := by decide) (he : starEach (e :: es) X.env = (false, eval e X.env) :: starEach es X.env := by rfl) (hpl : (backTo pos (starEach es X.env)).any (·.1) = false := by rfl) :
    XE X (.Call (.Name x p) (e :: es) [] pos) (fCall m g) := xe_call c.1 (hr.mono hk) hg c.2.1 c.2.2.1 c.2.2.2 pass0 ha hdb he hpl
theorem vV (i : Nat) (hN : X.N[i]? = some x := by rfl) (hv : Vis X.env.scope x := by first | exact Or.inl rfl | exact Or.inr (Or.inl rfl) | exact Or.inr (Or.inr rfl)) (hd : (x == ("__debug__" : Str)) = false := by decide) (hcd : (x == ("__classdict__" : Str)) = false := by decide) : XV X (.Name x pos) (vOf (fVar i)) := XE.toV (xe_var i (pv i hN hv hd hcd))
theorem vD (i : Nat) (hN : X.N[i]? = some x := by rfl) (hv : Vis X.env.scope x := by first | exact Or.inl rfl | exact Or.inr (Or.inl rfl) | exact Or.inr (Or.inr rfl)) (hd : (x == ("__debug__" : Str)) = false := by decide) (hcd : (x == ("__classdict__" : Str)) = false := by decide) : XD X (.Name x pos) (dOf (fVar i)) := XE.toD (xe_var i (pv i hN hv hd hcd))
end
end Hk
set_option maxRecDepth 100000
namespace Hk
open PySem PyProof.Rows
end Hk
set_option maxRecDepth 100000
namespace Hk
open PySem PyProof.Rows
section
variable {prog : Program} {w : World} {A : Around} {E : Value → Shared → Prop} {s : Shared} {a₀ : Array Keyed}
end
end Hk
set_option maxRecDepth 100000
namespace Hk
open PySem PyProof.Rows
section
variable {α β : Type}
def insK (f : α → Int) (x : α) : List α → List α
  | [] => [x]
  | y :: r => if f x ≤ f y then x :: y :: r else y :: insK f x r
def sortK (f : α → Int) (l : List α) : List α := l.foldr (insK f) []
end
end Hk
set_option maxRecDepth 100000
namespace Hk
open PySem PySem.Spec PyProof.Rows L2
section
variable {X : Cx} {pins : List (Addr × Obj)} {σ : L2.St} {H : Hp} {s : Shared}
end
end Hk
set_option maxRecDepth 100000
namespace Hk
open PySem PySem.Spec PyProof.Rows L2
section
variable {X : Cx} {pins : List (Addr × Obj)} {σ : L2.St} {G H : Hp} {s : Shared} {a kS : Addr} {xs : List V} {vs : List Value} {ds : List D} {kf : D → Int}
def apart (pins : List (Addr × Obj)) (a kS : Addr) (e1 : Nat) (ks : Array Value) (e : Nat) : List (Addr × Obj) := pins ++ [(kS, seqObj "list" ks e), (a, seqObj "list" #[] e1)]
end
end Hk
set_option maxRecDepth 100000
namespace Hk
open PySem PySem.Spec PyProof.Rows L2
section
variable {X : Cx} {pins : List (Addr × Obj)} {σ : L2.St} {G H : Hp} {s : Shared} {a : Addr} {xs : List V} {vs : List Value} {ds : List D} {kf : D → Int} {k : Nat} {f : Addr} {fd : FuncData} {ps : List Str} {m : List D → Option O}
def keyM (m : List D → Option O) (d : D) : Int := match m [d] with
  | some (.sh (.int k)) => k
  | _ => 0
def keyOk (m : List D → Option O) (d : D) : Bool := match m [d] with
  | some (.sh (.int _)) => true
  | _ => false
end
def oSortK (m : List D → Option O) : D → Option R
  | .lst ds => if ds.length < 64 ∧ ds.all (keyOk m) = true then some (.fr (sortK (keyM m) ds)) else none
  | _ => none
def fSortK (m : List D → Option O) (f : FD) : FE := fun ω => (f ω).bind (oSortK m)
end Hk
set_option maxRecDepth 100000
namespace Hk
open PySem L2
def skR (m : List D → Option O) (o : Option D) : Option R := o.bind (oSortK m)
section
variable {m : List D → Option O} {f : FD} {ω : WSt} {d : D} {i : Nat} {ks : List Int} {ds : List D}
theorem e_sortk : fSortK m f ω = skR m (f ω) := rfl
theorem e_idk' : iDk i ω = keysI ω[i]? := rfl
theorem e_kys' : keysI (some (some (.sh (.dic ks ds)))) = some (ks.map D.int) := rfl
end
end Hk
set_option maxRecDepth 100000
namespace Hk
open PySem L2
def rIdx : V → List V → Hp → VK → Prop := fun x vs H Q => ∃ (l : Addr) (ns : List Int) (k : Int) (j : Nat), x = .ref l ∧ vs = [.int k] ∧ H l = some (.lst (ns.map V.int)) ∧ posN k ns = some j ∧ Q (.int (j : Int)) H
theorem mt_index {X : Cx} : MtM X "list.index" rIdx := by
  intro pins s σ H x vs v us Q I rx rv h
  obtain ⟨l, ns, k, j, rfl, rfl, hH, hj, q⟩ := h
  cases rx
  obtain ⟨u, rfl, ru⟩ := rv.one
  obtain ⟨t, rfl⟩ := ru
  obtain ⟨z, its, n, r, hl, e⟩ := I.lstM hH
  obtain ⟨e1, e2⟩ := posN_kf (k := k) r
  rw [hj] at e2
  obtain ⟨a, b, c⟩ := PySem.W.kf_at_spec e2
  refine call_meets F.slot_list_index ⟨_, e, rfl⟩ F.entry_list_index (F.args_list_index_2 _ _)
    (MeetsSeq.list_index l its.toArray n (.int k t) (PyProof.Rows.isInt k) (fun y hy => PySem.W.kf_eq e1 y (by simpa using hy)) j (by simpa using a) (by have := line63; omega) (by simpa using b) (fun i hi hlt => (by simpa using c i (by simpa using hi) hlt))) ⟨e, ?_⟩
  exact ⟨.int (j : Int), H, I.tok _, ⟨_, rfl⟩, q⟩
def idxD : D → D → Option R
  | .lst ds, .int k => (intsOf ds).bind fun ns => (posN k ns).map fun (j : Nat) => .sh (.int (j : Int))
  | _, _ => none
def fIdx (f g : FD) : FE := fun ω => (f ω).bind fun d => (g ω).bind fun c => idxD d c
section
variable {X : Cx} {o e : Expr} {apos cpos : Pos} {f g : FD}
theorem xe_index (ho : XV X o f) (he : XD X e g) (hbase : attributeBase o "index" X.env (eval o X.env) = eval o X.env := by rfl)
    (hfew : ((backTo cpos (starEach [e] X.env)).all (fun x => !x.1) && (backToKw cpos (keywordEach [] X.env)).all (fun x => x.1.isSome)
      && decide (([e] : List Expr).length + ([] : List Keyword).length + (if ([] : List Keyword).isEmpty then 0 else 1) < 30)) = true := by rfl)
    (hline : (apos.endLine == cpos.line) = true := by rfl) (hs : starEach [e] X.env = (false, eval e X.env) :: starEach [] X.env := by rfl) (hplain : (backTo cpos (starEach [] X.env)).any (·.1) = false := by rfl) :
    XE X (.Call (.Attribute o "index" apos) [e] [] cpos) (fIdx f g) := by
  obtain ⟨t, h1, h2⟩ := ho
  obtain ⟨u, h3, h4⟩ := he
  refine ⟨_, pe_bm PySem.F.plainAttrs_list PySem.F.slot_list_index PySem.F.type_list_index mt_index h1 (pa_cons h3 pa_nil hs) hbase hfew hline hs hplain, fun G0 H0 G ω σ H r Q ow e kk => ?_⟩
  obtain ⟨d, q1, e⟩ := bnd e
  obtain ⟨c, q2, e⟩ := bnd e
  obtain ⟨ds, k, rfl, rfl, e⟩ : ∃ ds k, d = .lst ds ∧ c = .int k ∧ ((intsOf ds).bind fun ns => (posN k ns).map fun (j : Nat) => R.sh (.int (j : Int))) = some r := by
    cases d with
    | lst ds =>
      cases c with
      | int k => exact ⟨ds, k, rfl, rfl, e⟩
      | _ => cases e
    | _ => cases e
  obtain ⟨ns, q3, e⟩ := bnd e
  obtain ⟨j, q4, e⟩ := mpd e
  subst e
  have hds := intsOf_of q3
  subst hds
  refine h2 G0 H0 G ω σ H _ _ ow q1 fun v G1 H1 x1 y1 => ?_
  obtain ⟨p, vs, rfl, g1, g2⟩ := y1.lst x1.gh
  have hv := g2.of_ints
  subst hv
  refine ⟨.inl ⟨rfl, _, SqL.of g1⟩, h4 G0 H0 G1 ω σ H1 _ _ (ow.keep x1) q2 fun w G2 H2 x2 y2 => ?_⟩
  cases (show w = .int k from y2)
  exact ⟨p, ns, k, j, rfl, rfl, x2.hh _ _ g1, q4, kk _ G2 H2 (x1.trans x2) rfl⟩
end
def tripsOf : List D → Option (List (Int × Int × Int))
  | [] => some []
  | .tup [.int a, .int b, .int c] :: r => (tripsOf r).map fun l => (a, b, c) :: l
  | _ => none
def tri3 (e : Int × Int × Int) : D := .tup [.int e.1, .int e.2.1, .int e.2.2]
theorem tripsOf_of : ∀ {ds : List D} {es : List (Int × Int × Int)}, tripsOf ds = some es → ds = es.map tri3
  | [], _, h => by cases h; rfl
  | d :: r, es, h => by
    unfold tripsOf at h
    split at h
    · rename_i e; cases e
    · rename_i e
      cases e
      obtain ⟨l, h1, h2⟩ := mpd h
      subst h2
      rw [tripsOf_of h1]; rfl
    · cases h
theorem tripsOf_map : ∀ es : List (Int × Int × Int), tripsOf (es.map tri3) = some es
  | [] => rfl
  | e :: r => by show (tripsOf (r.map tri3)).map _ = _; rw [tripsOf_map r]; rfl
def numsOf (mn : List D → Option O) (ns : List Int) (a b : Int) : Option (List Int) := match mn [.lst (ns.map D.int), .int a, .int b] with
  | some (.fr ds) => (intsOf ds).bind fun ks => if (∀ k ∈ ks, 0 ≤ k ∧ k < (ns.length : Int)) ∧ ks.length ≤ 1000 then some ks else none
  | _ => none
def addC (b : Bool) (c : Int × Int) : Int × Int := if b = true then (c.1 + 1, c.2) else (c.1, c.2 + 1)
def bmp (b : Bool) (cs : List (Int × Int)) (k : Int) : List (Int × Int) := match cs[k.toNat]? with
  | some c => cs.set k.toNat (addC b c)
  | none => cs
def ctStep (mn : List D → Option O) (ns : List Int) (cs : List (Int × Int)) (e : Int × Int × Int) : Option (List (Int × Int)) :=
  if e.2.2 = 1 then (numsOf mn ns e.1 e.2.1).map fun ks => ks.foldl (bmp true) cs else (numsOf mn ns e.2.1 e.1).map fun ks => ks.foldl (bmp false) cs
def ctRun (mn : List D → Option O) (ns : List Int) : List (Int × Int × Int) → List (Int × Int) → Option (List (Int × Int))
  | [], cs => some cs
  | e :: es, cs => (ctStep mn ns cs e).bind fun cs' => ctRun mn ns es cs'
def rowD (c : Int × Int) : D := .lst [.int c.1, .int c.2]
def mCt (mn : List D → Option O) : List D → Option O
  | [.lst a, .lst b] => (intsOf a).bind fun ns => (tripsOf b).bind fun es => if ns.length ≤ 1000 ∧ es.length ≤ 1000 then (ctRun mn ns es (ns.map fun _ => (0, 0))).map fun cs => .fr (cs.map rowD) else none
  | _ => none
theorem bmp_len {b : Bool} {cs : List (Int × Int)} {k : Int} : (bmp b cs k).length = cs.length := by
  unfold bmp
  split
  · rw [List.length_set]
  · rfl
theorem bmps_len {b : Bool} : ∀ {ks : List Int} {cs : List (Int × Int)}, (ks.foldl (bmp b) cs).length = cs.length
  | [], _ => rfl
  | k :: ks, cs => by rw [List.foldl_cons, bmps_len, bmp_len]
structure Ct (H0 H : Hp) (p : Addr) (ls : List Addr) (cs : List (Int × Int)) : Prop where
  top : H p = some (.lst (ls.map V.ref))
  hp : H0 p = none
  len : ls.length = cs.length
  row : ∀ (j : Nat) l c, ls[j]? = some l → cs[j]? = some c → H l = some (.lst [.int c.1, .int c.2])
  hl : ∀ l ∈ ls, H0 l = none
  nd : ls.Nodup
  pl : p ∉ ls
  same : Same H0 H
theorem Ct.mono {H0 H H' : Hp} {p : Addr} {ls : List Addr} {cs : List (Int × Int)} (T : Ct H0 H p ls cs) (s : Same H H') : Ct H0 H' p ls cs :=
  ⟨s _ _ T.top, T.hp, T.len, fun j l c h1 h2 => s _ _ (T.row j l c h1 h2), T.hl, T.nd, T.pl, T.same.trans s⟩
theorem Ct.inn {H0 H : Hp} {p : Addr} {ls : List Addr} {cs : List (Int × Int)} (T : Ct H0 H p ls cs) {l : Addr} (h : l ∈ ls) : ∃ xs, H l = some (.lst xs) := by
  obtain ⟨j, hj, rfl⟩ := List.mem_iff_getElem.mp h
  have hj2 : j < cs.length := by rw [← T.len]; exact hj
  exact ⟨_, T.row j _ _ (List.getElem?_eq_getElem hj) (List.getElem?_eq_getElem hj2)⟩
theorem Ct.more {H0 H : Hp} {p l : Addr} {ls : List Addr} {cs : List (Int × Int)} (T : Ct H0 H p ls cs) (hl : H l = none) : Ct H0 (upd (upd H l (.lst [.int 0, .int 0])) p (.lst ((ls ++ [l]).map V.ref))) p (ls ++ [l]) (cs ++ [(0, 0)]) := by
  have hpl : p ≠ l := fun z => by rw [← z, T.top] at hl; cases hl
  have hll : l ∉ ls := fun z => by obtain ⟨xs, e⟩ := T.inn z; rw [hl] at e; cases e
  refine ⟨upd_same, T.hp, by rw [List.length_append, List.length_append, T.len]; rfl, fun j m c h1 h2 => ?_, fun m hm => ?_, ?_, fun hm => ?_, fun b u z => ?_⟩
  · rcases Nat.lt_or_ge j ls.length with z | z
    · rw [List.getElem?_append_left z] at h1
      rw [List.getElem?_append_left (by rw [← T.len]; exact z)] at h2
      have e1 := T.row j m c h1 h2
      have n1 : m ≠ p := fun y => T.pl (y ▸ List.mem_of_getElem? h1)
      have n2 : m ≠ l := fun y => hll (y ▸ List.mem_of_getElem? h1)
      rw [upd_ne n1, upd_ne n2]; exact e1
    · rw [List.getElem?_append_right z] at h1
      rw [List.getElem?_append_right (by rw [← T.len]; exact z), ← T.len] at h2
      cases hj : j - ls.length with
      | zero =>
        rw [hj] at h1 h2
        cases h1
        cases h2
        rw [upd_ne (Ne.symm hpl)]; exact upd_same
      | succ n => rw [hj] at h1; cases h1
  · rcases List.mem_append.mp hm with h | h
    · exact T.hl m h
    · cases List.mem_singleton.mp h; exact T.same.free hl
  · rw [List.nodup_append]
    refine ⟨T.nd, by simp, fun a ha b hb z => ?_⟩
    cases List.mem_singleton.mp hb
    exact hll (z ▸ ha)
  · rcases List.mem_append.mp hm with h | h
    · exact T.pl h
    · cases List.mem_singleton.mp h; exact hpl rfl
  · have n1 : b ≠ p := fun y => by rw [y, T.hp] at z; cases z
    have n2 : b ≠ l := fun y => by rw [y, T.same.free hl] at z; cases z
    rw [upd_ne n1, upd_ne n2]; exact T.same b u z
theorem Ct.set {H0 H : Hp} {p l : Addr} {ls : List Addr} {cs : List (Int × Int)} {j : Nat} {c : Int × Int} (T : Ct H0 H p ls cs) (h : ls[j]? = some l) : Ct H0 (upd H l (.lst [.int c.1, .int c.2])) p ls (cs.set j c) := by
  have hm := List.mem_of_getElem? h
  have hpl : p ≠ l := fun z => T.pl (z ▸ hm)
  refine ⟨by rw [upd_ne hpl]; exact T.top, T.hp, by rw [List.length_set]; exact T.len, fun i m d h1 h2 => ?_, T.hl, T.nd, T.pl, fun b u z => ?_⟩
  · rcases get_set h2 with ⟨rfl, _, rfl⟩ | ⟨ne, h3⟩
    · rw [h] at h1
      cases h1
      exact upd_same
    · have hne : m ≠ l := fun z => by
        subst z
        obtain ⟨i1, i2⟩ := List.getElem?_eq_some_iff.mp h1
        obtain ⟨j1, j2⟩ := List.getElem?_eq_some_iff.mp h
        exact ne ((List.getElem_inj T.nd).mp (j2.trans i2.symm))
      rw [upd_ne hne]; exact T.row i m d h1 h3
  · rw [upd_ne fun y => by rw [y, T.hl l hm] at z; cases z]; exact T.same b u z
abbrev tCell (K : PySem.W.Frag) (j : Int) : TE := tOp (rIxL K) (tOp (rIxL K) (tVar 2) (tVar 6)) (tC (.int j))
abbrev tBump (K : PySem.W.Frag) (j : Int) : TS := tAsg (tAdd (tCell K j) (tC (.int 1))) (gSub (tOp (rIxL K) (tVar 2) (tVar 6)) (tC (.int j)) rSetL)
abbrev tTurn (K : PySem.W.Frag) (sp : Sp) (E : XK) (a b : Nat) (j : Int) : TS := tFor (iList K (tCall sp [] E (tCons (tVar 0) (tCons (tVar a) (tCons (tVar b) tNil))))) (gName 6) (tBump K j)
def tCt (K : PySem.W.Frag) (sp : Sp) (E : XK) : TS := tSeq (tAsg (tComp 1 [] (iList K (tVar 0)) (gName 0) (fun _ H Q => Q true H) (tLst (tCons (tC (.int 0)) (tCons (tC (.int 0)) tNil)))) (gName 2))
  (tSeq (tFor (iList K (tVar 1)) (gTup K 3 (gCons (gName 3) (gCons (gName 4) (gCons (gName 5) gNil)))) (tIfS (tB (tEqI (tVar 5) (tC (.int 1)))) (tTurn K sp E 3 4 0) (tTurn K sp E 4 3 1)))
  (tRet (tVar 2)))
theorem atI_k {α : Type} {xs : List α} {k : Int} {x : α} (h0 : 0 ≤ k) (h1 : k < (xs.length : Int)) (h : xs[k.toNat]? = some x) : atI xs k = some x := by
  unfold atI ixN
  rw [if_pos h0, if_pos h1, Option.bind_some]; exact h
theorem bump_ok {K : PySem.W.Frag} {H0 H : Hp} {p : Addr} {ls : List Addr} {cs : List (Int × Int)} {k : Int} {b : Bool} {σ : St} {E : Ends} (T : Ct H0 H p ls cs) (s2 : σ[2]? = some (some (.ref p))) (s6 : σ[6]? = some (some (.int k))) (h0 : 0 ≤ k) (h1 : k < (cs.length : Int))
    (h : ∀ l H', l ∈ ls → (∀ q, q ≠ l → H' q = H q) → Ct H0 H' p ls (bmp b cs k) → E.nx σ H') : tBump K (if b = true then 0 else 1) E σ H := by
  have hk : k.toNat < cs.length := by omega
  have hk' : k.toNat < ls.length := by rw [T.len]; exact hk
  have e1 : ls[k.toNat]? = some ls[k.toNat] := List.getElem?_eq_getElem hk'
  have e2 : cs[k.toNat]? = some cs[k.toNat] := List.getElem?_eq_getElem hk
  have er := T.row _ _ _ e1 e2
  have a1 : atI (ls.map V.ref) k = some (.ref ls[k.toNat]) := atI_k h0 (by rw [List.length_map, T.len]; exact h1) (by rw [List.getElem?_map, e1]; rfl)
  have eb : bmp b cs k = cs.set k.toNat (addC b cs[k.toNat]) := by unfold bmp; rw [e2]
  have T' := T.set (c := addC b cs[k.toNat]) e1
  rw [← eb] at T'
  have fin := h _ _ (List.mem_of_getElem? e1) (fun q hq => upd_ne hq) T'
  cases b with
  | true =>
    refine ⟨.ref p, s2, .int k, s6, p, _, k, .ref ls[k.toNat], rfl, rfl, SqL.of T.top, a1, ls[k.toNat], _, 0, .int cs[k.toNat].1, rfl, rfl, SqL.of er, rfl, cs[k.toNat].1, 1, rfl, rfl, .ref p, s2, .int k, s6, p, _, k, .ref ls[k.toNat], rfl, rfl, SqL.of T.top, a1, ls[k.toNat], _, 0, 0, rfl, rfl, er, rfl, ?_⟩
    exact fin
  | false =>
    refine ⟨.ref p, s2, .int k, s6, p, _, k, .ref ls[k.toNat], rfl, rfl, SqL.of T.top, a1, ls[k.toNat], _, 1, .int cs[k.toNat].2, rfl, rfl, SqL.of er, rfl, cs[k.toNat].2, 1, rfl, rfl, .ref p, s2, .int k, s6, p, _, k, .ref ls[k.toNat], rfl, rfl, SqL.of T.top, a1, ls[k.toNat], _, 1, 1, rfl, rfl, er, rfl, ?_⟩
    exact fin
theorem bmps_take {b : Bool} {cs : List (Int × Int)} {ks : List Int} {i : Nat} (h : i < ks.length) : bmp b ((ks.take i).foldl (bmp b) cs) ks[i] = (ks.take (i + 1)).foldl (bmp b) cs := by
  rw [(List.take_append_getElem h).symm, List.foldl_append]; rfl
theorem turn_ok {K : PySem.W.Frag} {mn : List D → Option O} {G H0 H : Hp} {p A0 A1 : Addr} {ls : List Addr} {cs : List (Int × Int)} {ns ks : List Int} {X : XK} {E : Ends} {b : Bool} {v3 v4 v5 : Int} {x6 : Option V} {a c : Int} (ia ic : Nat)
    (T : Ct H0 H p ls cs) (gs : Same G H0) (g0 : G A0 = some (.lst (ns.map V.int))) (hcs : cs.length = ns.length) (hn : numsOf mn ns a c = some ks)
    (sa : ∀ x6 : Option V, [some (V.ref A0), some (.ref A1), some (.ref p), some (.int v3), some (.int v4), some (.int v5), x6][ia]? = some (some (.int a))) (sc : ∀ x6 : Option V, [some (V.ref A0), some (.ref A1), some (.ref p), some (.int v3), some (.int v4), some (.int v5), x6][ic]? = some (some (.int c)))
    (h : ∀ H' x6, Ct H0 H' p ls (ks.foldl (bmp b) cs) → E.nx [some (.ref A0), some (.ref A1), some (.ref p), some (.int v3), some (.int v4), some (.int v5), x6] H') :
    tTurn K (spD K 3 mn) X ia ic (if b = true then 0 else 1) E [some (.ref A0), some (.ref A1), some (.ref p), some (.int v3), some (.int v4), some (.int v5), x6] H := by
  obtain ⟨hm, hb, hz⟩ : mn [.lst (ns.map D.int), .int a, .int c] = some (.fr (ks.map D.int)) ∧ (∀ k ∈ ks, 0 ≤ k ∧ k < (ns.length : Int)) ∧ ks.length ≤ 1000 := by
    unfold numsOf at hn
    split at hn
    · rename_i ds q
      obtain ⟨ks', q2, hn⟩ := bnd hn
      by_cases cond : (∀ k ∈ ks', 0 ≤ k ∧ k < (ns.length : Int)) ∧ ks'.length ≤ 1000
      · rw [if_pos cond] at hn
        cases hn
        rw [intsOf_of q2] at q
        exact ⟨q, cond⟩
      · rw [if_neg cond] at hn; cases hn
    · cases hn
  have sg : Same G H := gs.trans T.same
  refine ⟨.ref A0, rfl, .int a, sa x6, .int c, sc x6, G, [.lst (ns.map D.int), .int a, .int c], _, hm, rfl, sg, ?_, fun v G' H' x y => ?_⟩
  · exact Reps.cons ⟨A0, _, rfl, g0, Reps.ints ns⟩ (Reps.cons rfl (Reps.cons rfl Reps.nil))
  · obtain ⟨l, us, rfl, l1, l2, l3, l4⟩ := y
    have hus := l4.of_ints
    subst hus
    have T1 := T.mono x.hh
    have nlp : l ≠ p := fun z => by rw [z, T.top] at l1; cases l1
    have nll : ∀ m ∈ ls, m ≠ l := fun m hm z => by
      obtain ⟨xs, e⟩ := T.inn hm
      rw [z, l1] at e; cases e
    refine ⟨l, rfl, ⟨_, SqL.of l3⟩, fun i m σ3 H3 => ∃ x6, σ3 = [some (.ref A0), some (.ref A1), some (.ref p), some (.int v3), some (.int v4), some (.int v5), x6] ∧ Ct H0 H3 p ls ((ks.take i).foldl (bmp b) cs) ∧ H3 l = some (.lst (ks.map V.int)) ∧ i ≤ ks.length ∧ m = ks.length - i,
      ⟨_, x6, rfl, T1, l3, Nat.zero_le _, rfl⟩, ?_⟩
    rintro i m σ3 H3 ⟨x6', rfl, T3, h3l, hi, rfl⟩
    by_cases hlt : i < ks.length
    · refine .inr ⟨⟨_, .int ks[i], SqL.of h3l, by rw [List.getElem?_map, List.getElem?_eq_getElem hlt]; rfl⟩, fun σ4 H4 => ∃ x6, σ4 = [some (.ref A0), some (.ref A1), some (.ref p), some (.int v3), some (.int v4), some (.int v5), x6] ∧ Ct H0 H4 p ls ((ks.take (i + 1)).foldl (bmp b) cs) ∧ H4 l = some (.lst (ks.map V.int)),
        fun σ4 H4 ⟨x6, b1, b2, b3⟩ => ⟨ks.length - (i + 1), by omega, x6, b1, b2, b3, hlt, rfl⟩, fun w H4 hw => ?_⟩
      obtain ⟨rfl, hw⟩ := hw
      have hw := hw _ (SqL.of h3l)
      rw [List.getElem?_map, List.getElem?_eq_getElem hlt] at hw
      cases hw
      obtain ⟨k0, k1⟩ := hb ks[i] (List.getElem_mem hlt)
      refine bump_ok T3 rfl rfl k0 (by rw [bmps_len, hcs]; exact k1) fun l' H' hl' ho T4 => ?_
      rw [bmps_take hlt] at T4
      exact ⟨some (.int ks[i]), rfl, T4, by rw [ho l fun z => nll l' hl' z.symm]; exact h3l⟩
    · have ei : i = ks.length := by omega
      subst ei
      rw [List.take_length] at T3
      exact .inl ⟨⟨_, SqL.of h3l, by rw [List.length_map]; exact Nat.le_refl _⟩, h H3 x6' T3⟩
theorem ctStep_len {mn : List D → Option O} {ns : List Int} {cs cs' : List (Int × Int)} {e : Int × Int × Int} (h : ctStep mn ns cs e = some cs') : cs'.length = cs.length := by
  unfold ctStep at h
  split at h
  · obtain ⟨ks, _, rfl⟩ := mpd h; exact bmps_len
  · obtain ⟨ks, _, rfl⟩ := mpd h; exact bmps_len
theorem ct_told {K : PySem.W.Frag} {G H0 H : Hp} {p : Addr} {ls : List Addr} {cs : List (Int × Int)} (T : Ct H0 H p ls cs) (gs : Same G H0) : ∃ G', Ext G H0 G' H ∧ RepR K H0 G' H (.fr (cs.map rowD)) (.ref p) := by
  open Classical in
  let G' : Hp := fun b => if b ∈ ls then H b else G b
  have hin : ∀ b, b ∈ ls → G' b = H b := fun b h => if_pos h
  have hout : ∀ b, b ∉ ls → G' b = G b := fun b h => if_neg h
  have gn : ∀ b, b ∈ ls → G b = none := fun b h => gs.free (T.hl b h)
  refine ⟨G', ⟨fun b u z => ?_, fun b u z => ?_, T.same, fun b z1 z2 => ?_⟩, p, ls.map V.ref, rfl, T.hp, ?_, T.top, ?_⟩
  · by_cases y : b ∈ ls
    · rw [gn b y] at z; cases z
    · rw [hout b y]; exact z
  · by_cases y : b ∈ ls
    · rw [hin b y] at z; exact z
    · rw [hout b y] at z; exact T.same b u (gs b u z)
  · by_cases y : b ∈ ls
    · exact absurd (T.hl b y) z2
    · rw [hout b y]; exact z1
  · rw [hout p T.pl]; exact gs.free T.hp
  · refine reps_refs (by rw [List.length_map]; exact T.len.symm) fun j d t h1 h2 => ?_
    rw [List.getElem?_map] at h1
    cases q : cs[j]? with
    | none => rw [q] at h1; cases h1
    | some c =>
      rw [q] at h1
      cases h1
      have hl := T.row j t c h2 q
      exact ⟨t, _, rfl, by rw [hin t (List.mem_of_getElem? h2)]; exact hl, Reps.cons rfl (Reps.cons rfl Reps.nil)⟩
theorem ct_ok {K : PySem.W.Frag} {mn : List D → Option O} {N : List Str} {vs : List V} {H : Hp} {Q : VK} {E X : XK} {nx : St → Hp → Prop} (hN : N.length = 7) (h : spD K 2 (mCt mn) vs H Q E) : tCt K (spD K 3 mn) X { nx := nx, rt := Q } (L2.start N vs) H := by
  obtain ⟨G, ds, r, h1, h2, gs, h4, q⟩ := h
  obtain ⟨a, b, rfl⟩ : ∃ a b, ds = [.lst a, .lst b] := by
    unfold mCt at h1
    split at h1
    · exact ⟨_, _, rfl⟩
    · cases h1
  have h1 : ((intsOf a).bind fun ns => (tripsOf b).bind fun es => if ns.length ≤ 1000 ∧ es.length ≤ 1000 then (ctRun mn ns es (ns.map fun _ => (0, 0))).map fun cs => O.fr (cs.map rowD) else none) = some r := h1
  obtain ⟨ns, e1, h1⟩ := bnd h1
  obtain ⟨es, e2, h1⟩ := bnd h1
  by_cases cond : ns.length ≤ 1000 ∧ es.length ≤ 1000
  case neg => rw [if_neg cond] at h1; cases h1
  rw [if_pos cond] at h1
  obtain ⟨csF, e3, e4⟩ := mpd h1
  subst e4
  have ha := intsOf_of e1
  have hb := tripsOf_of e2
  subst ha hb
  obtain ⟨v0, v1, rfl, r0, r1⟩ := h4.two
  obtain ⟨A0, vs0, rfl, g0, i0⟩ := r0
  obtain ⟨A1, vs1, rfl, g1, i1⟩ := r1
  have hv := i0.of_ints
  subst hv
  have hs : L2.start N [.ref A0, .ref A1] = [some (.ref A0), some (.ref A1), none, none, none, none, none] := by
    unfold L2.start
    rw [hN]; rfl
  rw [hs]
  have hA0 := gs _ _ g0
  refine ⟨.ref A0, rfl, A0, rfl, ⟨_, SqL.of hA0⟩, fun p hp => ?_⟩
  refine ⟨fun i m σ' H' => ∃ ls, Ct H H' p ls ((ns.take i).map fun _ => (0, 0)) ∧ i ≤ ns.length ∧ m = ns.length - i,
    ⟨_, [], ⟨upd_same, hp, rfl, fun j l c z => (by simp at z), fun l z => (by cases z), List.nodup_nil, fun z => (by cases z), same_upd hp _⟩, Nat.zero_le _, rfl⟩, ?_⟩
  rintro i m σ' H' ⟨ls, T, hi, rfl⟩
  have hA' := T.same _ _ hA0
  by_cases hlt : i < ns.length
  · refine .inr ⟨⟨_, .int ns[i], SqL.of hA', by rw [List.getElem?_map, List.getElem?_eq_getElem hlt]; rfl⟩, fun x H2 hx => ?_⟩
    obtain ⟨rfl, _⟩ := hx
    dsimp only [gName]
    rw [if_pos rfl]
    refine ⟨by show 2 ≤ sizeLine; rw [sizeLine_eq]; decide, fun l hl => ?_⟩
    have hpl : p ≠ l := fun z => by rw [← z, T.top] at hl; cases hl
    refine ⟨ls.map V.ref, by rw [upd_ne hpl]; exact T.top, by rw [List.length_map, T.len, List.length_map, List.length_take, sizeLine_eq]; omega, ns.length - (i + 1), by omega, ls ++ [l], ?_, hlt, rfl⟩
    have T2 := T.more hl
    rw [(List.take_append_getElem hlt).symm, List.map_append]
    rw [List.map_append] at T2
    exact T2
  · have ei : i = ns.length := by omega
    subst ei
    rw [List.take_length] at T
    refine .inl ⟨⟨_, SqL.of hA', by rw [List.length_map]; exact Nat.le_refl _⟩, ?_⟩
    have hA1 := T.same _ _ (gs _ _ g1)
    have l1 : es.length = vs1.length := by have := i1.len; rw [List.length_map] at this; exact this
    refine ⟨.ref A1, rfl, A1, rfl, ⟨_, SqL.of hA1⟩, fun n m σ2 H2 => ∃ (x3 x4 x5 x6 : Option V) (cs : List (Int × Int)), σ2 = [some (.ref A0), some (.ref A1), some (.ref p), x3, x4, x5, x6] ∧ Ct H H2 p ls cs ∧ cs.length = ns.length ∧ ctRun mn ns (es.drop n) cs = some csF ∧ n ≤ es.length ∧ m = es.length - n,
      ⟨_, none, none, none, none, _, rfl, T, by rw [List.length_map], e3, Nat.zero_le _, rfl⟩, ?_⟩
    rintro n m σ2 H2 ⟨x3, x4, x5, x6, cs, rfl, T2, lc, rn, hn, rfl⟩
    have hA2 := T2.same _ _ (gs _ _ g1)
    by_cases hlt2 : n < es.length
    · have hlv : n < vs1.length := by rw [← l1]; exact hlt2
      rw [List.drop_eq_getElem_cons hlt2] at rn
      obtain ⟨cs', c1, c2⟩ := bnd rn
      have lc' : cs'.length = ns.length := by rw [ctStep_len c1]; exact lc
      refine .inr ⟨⟨_, vs1[n], SqL.of hA2, List.getElem?_eq_getElem hlv⟩, fun σ3 H3 => ∃ (x3 x4 x5 x6 : Option V), σ3 = [some (.ref A0), some (.ref A1), some (.ref p), x3, x4, x5, x6] ∧ Ct H H3 p ls cs',
        fun σ3 H3 ⟨x3, x4, x5, x6, b1, b2⟩ => ⟨es.length - (n + 1), by omega, x3, x4, x5, x6, cs', b1, b2, lc', c2, hlt2, rfl⟩, fun w H3 hw => ?_⟩
      obtain ⟨rfl, hw⟩ := hw
      have hw := hw _ (SqL.of hA2)
      rw [List.getElem?_eq_getElem hlv] at hw
      cases hw
      have hd : (es.map tri3)[n]? = some (tri3 es[n]) := by rw [List.getElem?_map, List.getElem?_eq_getElem hlt2]; rfl
      obtain ⟨v, hv1, hv2⟩ := i1.get hd
      rw [List.getElem?_eq_getElem hlv] at hv1
      cases hv1
      obtain ⟨t, us, ev, gt, ru⟩ := hv2
      obtain ⟨u0, r', rfl, ru0, ru'⟩ := ru
      obtain ⟨u1, u2, rfl, ru1, ru2⟩ := Reps.two ru'
      cases (show u0 = .int es[n].1 from ru0)
      cases (show u1 = .int es[n].2.1 from ru1)
      cases (show u2 = .int es[n].2.2 from ru2)
      refine ⟨t, _, ev, SqT.of (T2.same _ _ (gs _ _ gt)), rfl, _, _, rfl, _, _, rfl, _, _, rfl, rfl, ?_⟩
      refine ⟨.int es[n].2.2, rfl, es[n].2.2, 1, rfl, rfl, _, rfl, ?_⟩
      unfold ctStep at c1
      by_cases z : es[n].2.2 = 1
      · rw [if_pos z] at c1
        obtain ⟨ks, k1, rfl⟩ := mpd c1
        dsimp only
        rw [if_pos (decide_eq_true z)]
        exact turn_ok (b := true) 3 4 T2 gs g0 lc k1 (fun _ => rfl) (fun _ => rfl) fun H' x6 T' => ⟨_, _, _, x6, rfl, T'⟩
      · rw [if_neg z] at c1
        obtain ⟨ks, k1, rfl⟩ := mpd c1
        dsimp only
        rw [if_neg (by rw [decide_eq_false z]; decide)]
        exact turn_ok (b := false) 4 3 T2 gs g0 lc k1 (fun _ => rfl) (fun _ => rfl) fun H' x6 T' => ⟨_, _, _, x6, rfl, T'⟩
    · have en : n = es.length := by omega
      subst en
      rw [List.drop_length] at rn
      cases rn
      refine .inl ⟨⟨_, SqL.of hA2, by rw [l1]; exact Nat.le_refl _⟩, .ref p, rfl, ?_⟩
      obtain ⟨G', x, y⟩ := ct_told (K := K) T2 gs
      exact q (.ref p) G' H2 x y
end Hk
set_option maxHeartbeats 4000000
namespace Kx
open PySem L2 Hk
def top (i : Nat) : Stmt := PySem.Challenge.pw_hookrail_k62_ring_lacks.main.body.getD i (.Pass ⟨0, 0, 0, 0⟩)
section
variable {P : Program} {w : World} {K : PySem.W.Frag} {mg : Str → Option Value} {base : Heap} {f : Addr} {fd : FuncData}
def B_is_whole : FS := (sRet (eOf (vAnd (dOf (fIsi .int (vOf (fVar 0)))) (vNot (dOf (fIsi .bl (vOf (fVar 0))))))))
def m_is_whole : List D → Option O := mir 1 B_is_whole
abbrev s_is_whole : Stmt := top 5
theorem S_is_whole : FnScope ["thing"] ["thing"] (defScope s_is_whole) := ⟨rfl, rfl, rfl, by decide +kernel, rfl, by decide +kernel, by decide +kernel⟩
theorem ok_is_whole 
    (F : Fun K "is_whole" "is_whole" s_is_whole f fd)
    (z_isinstance : mg "isinstance" = none)
    (z_bool : mg "bool" = none)
    (z_int : mg "int" = none)
    (i_int : IsT K .int)
    (i_bool : IsT K .bl) :
    FnOk P w K mg base CX0 1 f fd ["thing"] (spD K 1 m_is_whole) := by
  have h := fnD (P := P) (w := w) (mg := mg) (base := base) (k := 0) (body := B_is_whole) F S_is_whole (fun cdv A outer s H E hr =>
      (xss_one (xs_ret (XD.toE (xd_and (XE.toD (xe_isi (vV 0) i_int rfl z_isinstance rfl z_int bt_int)) (xd_one (xd_not (XE.toD (xe_isi (vV 0) i_bool rfl z_isinstance rfl z_bool bt_bool)))))))))
  exact h
def B_is_box : FS := (sRet (eOf (vAnd (dOf (fIsi .tup (vOf (fVar 0)))) (vAnd (dOf (fOpE (oEq false) (vOf (fBlt bLen (aCons (vOf (fVar 0)) aNil))) (fC (.int 2)))) (vAnd (dOf (fCall m_is_whole (aCons (dOf (fOpE oIx (vOf (fVar 0)) (fC (.int 0)))) aNil))) (dOf (fCall m_is_whole (aCons (dOf (fOpE oIx (vOf (fVar 0)) (fC (.int 1)))) aNil))))))))
def m_is_box : List D → Option O := mir 1 B_is_box
abbrev s_is_box : Stmt := top 6
theorem S_is_box : FnScope ["thing"] ["thing"] (defScope s_is_box) := ⟨rfl, rfl, rfl, by decide +kernel, rfl, by decide +kernel, by decide +kernel⟩
theorem ok_is_box {f_is_whole : Addr} {d_is_whole : FuncData}
    (F : Fun K "is_box" "is_box" s_is_box f fd)
    (c_is_whole : Cal P w K mg base 1 f_is_whole d_is_whole "is_whole" ["thing"] 1 m_is_whole)
    (z_len : mg "len" = none)
    (z_isinstance : mg "isinstance" = none)
    (z_tuple : mg "tuple" = none)
    (i_tuple : IsT K .tup) :
    FnOk P w K mg base CX0 2 f fd ["thing"] (spD K 1 m_is_box) := by
  have h := fnD (P := P) (w := w) (mg := mg) (base := base) (k := 1) (body := B_is_box) F S_is_box (fun cdv A outer s H E hr =>
      (xss_one (xs_ret (XD.toE (xd_and (XE.toD (xe_isi (vV 0) i_tuple rfl z_isinstance rfl z_tuple bt_tuple)) (xd_and (XE.toD (xe_eq hr.units (XE.toV (xe_blt call_len_seq cd_len rfl z_len bt_len (xva_cons (vV 0) xva_nil))) (XD.toV xd_int))) (xd_and (XE.toD (xc c_is_whole hr (xa_cons (XE.toD (xe_item (vV 0) (XD.toV xd_int))) xa_nil))) (xd_one (XE.toD (xc c_is_whole hr (xa_cons (XE.toD (xe_item (vV 0) (XD.toV xd_int))) xa_nil)))))))))))
  exact h
def E1_is_errand : FD := (dOf (fCall m_is_box (aCons (dOf (fVar 0)) aNil)))
def B_is_errand : FS := (sSeq (sIf (tOrF (tNotF (tTru (vOf (fCall m_is_whole (aCons (dOf (fVar 0)) aNil))))) (tOrF (tNotF (tTru (vOf (fCall m_is_whole (aCons (dOf (fVar 1)) aNil))))) (tNotF (tTru (vOf (fIsi .lst (vOf (fVar 2)))))))) (sRet (eOf (fC (.bl false)))) sNil)
    (sRet (fBlt bAll (aCons (vOf (fComp 1 [] (iSeq (dOf (fVar 2))) (gN 0) tTrue E1_is_errand)) aNil))))
def m_is_errand : List D → Option O := mir 3 B_is_errand
abbrev s_is_errand : Stmt := top 7
theorem S_is_errand : FnScope ["home", "last", "boxes"] ["home", "last", "boxes"] (defScope s_is_errand) := ⟨rfl, rfl, rfl, by decide +kernel, rfl, by decide +kernel, by decide +kernel⟩
theorem ok_is_errand {f_is_whole : Addr} {d_is_whole : FuncData} {f_is_box : Addr} {d_is_box : FuncData}
    (F : Fun K "is_errand" "is_errand" s_is_errand f fd)
    (c_is_whole : Cal P w K mg base 1 f_is_whole d_is_whole "is_whole" ["thing"] 1 m_is_whole)
    (c_is_box : Cal P w K mg base 2 f_is_box d_is_box "is_box" ["thing"] 1 m_is_box)
    (z_isinstance : mg "isinstance" = none)
    (z_list : mg "list" = none)
    (z_all : mg "all" = none)
    (i_list : IsT K .lst) :
    FnOk P w K mg base CX0 3 f fd ["home", "last", "boxes"] (spD K 3 m_is_errand) := by
  have h := fnD (P := P) (w := w) (mg := mg) (base := base) (k := 2) (body := B_is_errand) F S_is_errand (fun cdv A outer s H E hr =>
      (xss_cons (xs_if (XW.toT (xw_or (xt_not (xt_val (XE.toV (xc c_is_whole hr (xa_cons (vD 0) xa_nil))))) (xw_or (xt_not (xt_val (XE.toV (xc c_is_whole hr (xa_cons (vD 1) xa_nil))))) (xw_or1 (xt_not (xt_val (XE.toV (xe_isi (vV 2) i_list rfl z_isinstance rfl z_list bt_list)))))))) (xss_one (xs_ret (XD.toE xd_bl))) xss_nil)
      (xss_one (xs_ret (xe_blt (call_allL rfl) cd_all rfl z_all bt_all (xva_cons (XE.toV (xe_comp rfl (blk ["box"] [] [] rfl (by decide +kernel) (by decide +kernel) rfl trivial) (xi_seq (vD 2)) (tame_n 0) (fun _ _ _ _ => ⟨(xg_name (i := 0) (show ((["box"] : List Str) ++ ([] : List Str) : List Str).Nodup from by decide +kernel) rfl (Or.inl rfl)), xts_nil, (XE.toD (xc c_is_box hr (xa_cons (vD 0) xa_nil)))⟩))) xva_nil))))))
  exact h
def B_check_errand : FS := (sIf (tNotF (tTru (vOf (fCall m_is_errand (aCons (dOf (fVar 0)) (aCons (dOf (fVar 1)) (aCons (dOf (fVar 2)) aNil))))))) sNo sNil)
def m_check_errand : List D → Option O := mir 3 B_check_errand
abbrev s_check_errand : Stmt := top 8
theorem S_check_errand : FnScope ["home", "last", "boxes"] ["home", "last", "boxes"] (defScope s_check_errand) := ⟨rfl, rfl, rfl, by decide +kernel, rfl, by decide +kernel, by decide +kernel⟩
theorem ok_check_errand {f_is_errand : Addr} {d_is_errand : FuncData}
    (F : Fun K "check_errand" "check_errand" s_check_errand f fd)
    (c_is_errand : Cal P w K mg base 3 f_is_errand d_is_errand "is_errand" ["home", "last", "boxes"] 3 m_is_errand) :
    FnOk P w K mg base CX0 4 f fd ["home", "last", "boxes"] (spD K 3 m_check_errand) := by
  have h := fnD (P := P) (w := w) (mg := mg) (base := base) (k := 3) (body := B_check_errand) F S_check_errand (fun cdv A outer s H E hr =>
      (xss_one (xs_if (xt_not (xt_val (XE.toV (xc c_is_errand hr (xa_cons (vD 0) (xa_cons (vD 1) (xa_cons (vD 2) xa_nil))))))) (xss_one xs_no) xss_nil)))
  exact h
def L1_stops : FS := (sExt 3 (dOf (fVar 4)))
def B_stops : FS := (sSeq (sDrop (fCall m_check_errand (aCons (dOf (fVar 0)) (aCons (dOf (fVar 1)) (aCons (dOf (fVar 2)) aNil)))))
    (sSeq (sSet 3 (fLst (aCons (dOf (fVar 0)) (aCons (dOf (fVar 1)) aNil))))
    (sSeq (sFor (iSeq (dOf (fVar 2))) (gN 4) L1_stops)
    (sRet (fSortSet (vOf (fVar 3)))))))
def m_stops : List D → Option O := mir 5 B_stops
abbrev s_stops : Stmt := top 9
theorem S_stops : FnScope ["home", "last", "boxes", "places", "box"] ["home", "last", "boxes"] (defScope s_stops) := ⟨rfl, rfl, rfl, by decide +kernel, rfl, by decide +kernel, by decide +kernel⟩
theorem ok_stops {f_check_errand : Addr} {d_check_errand : FuncData}
    (F : Fun K "stops" "stops" s_stops f fd)
    (c_check_errand : Cal P w K mg base 4 f_check_errand d_check_errand "check_errand" ["home", "last", "boxes"] 3 m_check_errand)
    (z_sorted : mg "sorted" = none)
    (z_set : mg "set" = none) :
    FnOk P w K mg base CX0 5 f fd ["home", "last", "boxes"] (spD K 3 m_stops) := by
  have h := fnD (P := P) (w := w) (mg := mg) (base := base) (k := 4) (body := B_stops) F S_stops (fun cdv A outer s H E hr =>
      (xss_cons (xs_expr (xc c_check_errand hr (xa_cons (vD 0) (xa_cons (vD 1) (xa_cons (vD 2) xa_nil)))))
      (xss_cons (xs_set (i := 3) S_stops.nd rfl (Or.inl rfl) (xe_lst (xa_cons (vD 0) (xa_cons (vD 1) xa_nil))))
      (xss_cons (xs_for PassesOwn.never rfl (xi_seq (vD 2)) (xg_name (i := 4) S_stops.nd rfl (Or.inl rfl)) (xss_one (xs_ext (pv 3) (vD 4))))
      (xss_one (xs_ret (xe_sortset rfl z_sorted rfl z_set (vV 3))))))))
  exact h
def B_is_way : FS := (sRet (eOf (vAnd (dOf (fCall m_is_whole (aCons (dOf (fVar 0)) aNil))) (dOf (fOpE (oIn false) (vOf (fVar 0)) (fTup (aCons (fC (.int 1)) (aCons (dOf (fNeg (fC (.int 1)))) aNil))))))))
def m_is_way : List D → Option O := mir 1 B_is_way
abbrev s_is_way : Stmt := top 11
theorem S_is_way : FnScope ["thing"] ["thing"] (defScope s_is_way) := ⟨rfl, rfl, rfl, by decide +kernel, rfl, by decide +kernel, by decide +kernel⟩
theorem ok_is_way {f_is_whole : Addr} {d_is_whole : FuncData}
    (F : Fun K "is_way" "is_way" s_is_way f fd)
    (c_is_whole : Cal P w K mg base 1 f_is_whole d_is_whole "is_whole" ["thing"] 1 m_is_whole) :
    FnOk P w K mg base CX0 2 f fd ["thing"] (spD K 1 m_is_way) := by
  have h := fnD (P := P) (w := w) (mg := mg) (base := base) (k := 1) (body := B_is_way) F S_is_way (fun cdv A outer s H E hr =>
      (xss_one (xs_ret (XD.toE (xd_and (XE.toD (xc c_is_whole hr (xa_cons (vD 0) xa_nil))) (xd_one (XE.toD (xe_in (vV 0) (XD.toV (xd_tup (xa_cons xd_int (xa_cons (XE.toD (xe_neg (XD.toV xd_int))) xa_nil))))))))))))
  exact h
def B_has_place : FS := (sRet (eOf (vAnd (dOf (fCall m_is_whole (aCons (dOf (fVar 1)) aNil))) (vAnd (dOf (fOpE oGe (vOf (fVar 1)) (fC (.int 0)))) (dOf (fOpE oLt (vOf (fVar 1)) (vOf (fVar 0))))))))
def m_has_place : List D → Option O := mir 2 B_has_place
abbrev s_has_place : Stmt := top 12
theorem S_has_place : FnScope ["size", "thing"] ["size", "thing"] (defScope s_has_place) := ⟨rfl, rfl, rfl, by decide +kernel, rfl, by decide +kernel, by decide +kernel⟩
theorem ok_has_place {f_is_whole : Addr} {d_is_whole : FuncData}
    (F : Fun K "has_place" "has_place" s_has_place f fd)
    (c_is_whole : Cal P w K mg base 1 f_is_whole d_is_whole "is_whole" ["thing"] 1 m_is_whole) :
    FnOk P w K mg base CX0 2 f fd ["size", "thing"] (spD K 2 m_has_place) := by
  have h := fnD (P := P) (w := w) (mg := mg) (base := base) (k := 1) (body := B_has_place) F S_has_place (fun cdv A outer s H E hr =>
      (xss_one (xs_ret (XD.toE (xd_and (XE.toD (xc c_is_whole hr (xa_cons (vD 1) xa_nil))) (xd_and (XE.toD (xe_ge (vV 1) (XD.toV xd_int))) (xd_one (XE.toD (xe_lt (vV 1) (vV 0))))))))))
  exact h
def B_is_ring_box : FS := (sSeq (sIf (tOrF (tNotF (tTru (vOf (fIsi .tup (vOf (fVar 1)))))) (tOf (fOpE (oEq true) (vOf (fBlt bLen (aCons (vOf (fVar 1)) aNil))) (fC (.int 3))))) (sRet (eOf (fC (.bl false)))) sNil)
    (sRet (eOf (vAnd (dOf (fCall m_has_place (aCons (dOf (fVar 0)) (aCons (dOf (fOpE oIx (vOf (fVar 1)) (fC (.int 0)))) aNil)))) (vAnd (dOf (fCall m_has_place (aCons (dOf (fVar 0)) (aCons (dOf (fOpE oIx (vOf (fVar 1)) (fC (.int 1)))) aNil)))) (dOf (fCall m_is_way (aCons (dOf (fOpE oIx (vOf (fVar 1)) (fC (.int 2)))) aNil))))))))
def m_is_ring_box : List D → Option O := mir 2 B_is_ring_box
abbrev s_is_ring_box : Stmt := top 13
theorem S_is_ring_box : FnScope ["size", "thing"] ["size", "thing"] (defScope s_is_ring_box) := ⟨rfl, rfl, rfl, by decide +kernel, rfl, by decide +kernel, by decide +kernel⟩
theorem ok_is_ring_box {f_is_way : Addr} {d_is_way : FuncData} {f_has_place : Addr} {d_has_place : FuncData}
    (F : Fun K "is_ring_box" "is_ring_box" s_is_ring_box f fd)
    (c_is_way : Cal P w K mg base 2 f_is_way d_is_way "is_way" ["thing"] 1 m_is_way)
    (c_has_place : Cal P w K mg base 2 f_has_place d_has_place "has_place" ["size", "thing"] 2 m_has_place)
    (z_len : mg "len" = none)
    (z_isinstance : mg "isinstance" = none)
    (z_tuple : mg "tuple" = none)
    (i_tuple : IsT K .tup) :
    FnOk P w K mg base CX0 3 f fd ["size", "thing"] (spD K 2 m_is_ring_box) := by
  have h := fnD (P := P) (w := w) (mg := mg) (base := base) (k := 2) (body := B_is_ring_box) F S_is_ring_box (fun cdv A outer s H E hr =>
      (xss_cons (xs_if (XW.toT (xw_or (xt_not (xt_val (XE.toV (xe_isi (vV 1) i_tuple rfl z_isinstance rfl z_tuple bt_tuple)))) (xw_or1 (xt_ne hr.units (XE.toV (xe_blt call_len_seq cd_len rfl z_len bt_len (xva_cons (vV 1) xva_nil))) (XD.toV xd_int))))) (xss_one (xs_ret (XD.toE xd_bl))) xss_nil)
      (xss_one (xs_ret (XD.toE (xd_and (XE.toD (xc c_has_place hr (xa_cons (vD 0) (xa_cons (XE.toD (xe_item (vV 1) (XD.toV xd_int))) xa_nil)))) (xd_and (XE.toD (xc c_has_place hr (xa_cons (vD 0) (xa_cons (XE.toD (xe_item (vV 1) (XD.toV xd_int))) xa_nil)))) (xd_one (XE.toD (xc c_is_way hr (xa_cons (XE.toD (xe_item (vV 1) (XD.toV xd_int))) xa_nil)))))))))))
  exact h
def E1_is_ring : FD := (dOf (fCall m_is_ring_box (aCons (dOf (fVar 1)) (aCons (dOf (fVar 0)) aNil))))
def B_is_ring : FS := (sSeq (sIf (tOrF (tNotF (tTru (vOf (fCall m_is_whole (aCons (dOf (fVar 0)) aNil))))) (tOrF (tNotF (tTru (vOf (fCall m_has_place (aCons (dOf (fVar 0)) (aCons (dOf (fVar 1)) aNil)))))) (tNotF (tTru (vOf (fCall m_has_place (aCons (dOf (fVar 0)) (aCons (dOf (fVar 2)) aNil)))))))) (sRet (eOf (fC (.bl false)))) sNil)
    (sRet (eOf (vAnd (dOf (fIsi .lst (vOf (fVar 3)))) (dOf (fBlt bAll (aCons (vOf (fComp 1 [0] (iSeq (dOf (fVar 3))) (gN 0) tTrue E1_is_ring)) aNil)))))))
def m_is_ring : List D → Option O := mir 4 B_is_ring
abbrev s_is_ring : Stmt := top 14
theorem S_is_ring : FnScope ["size", "home", "last", "boxes"] ["size", "home", "last", "boxes"] (defScope s_is_ring) := ⟨rfl, rfl, rfl, by decide +kernel, rfl, by decide +kernel, by decide +kernel⟩
theorem ok_is_ring {f_has_place : Addr} {d_has_place : FuncData} {f_is_whole : Addr} {d_is_whole : FuncData} {f_is_ring_box : Addr} {d_is_ring_box : FuncData}
    (F : Fun K "is_ring" "is_ring" s_is_ring f fd)
    (c_has_place : Cal P w K mg base 2 f_has_place d_has_place "has_place" ["size", "thing"] 2 m_has_place)
    (c_is_whole : Cal P w K mg base 1 f_is_whole d_is_whole "is_whole" ["thing"] 1 m_is_whole)
    (c_is_ring_box : Cal P w K mg base 3 f_is_ring_box d_is_ring_box "is_ring_box" ["size", "thing"] 2 m_is_ring_box)
    (z_all : mg "all" = none)
    (z_isinstance : mg "isinstance" = none)
    (z_list : mg "list" = none)
    (i_list : IsT K .lst) :
    FnOk P w K mg base CX0 4 f fd ["size", "home", "last", "boxes"] (spD K 4 m_is_ring) := by
  have h := fnD (P := P) (w := w) (mg := mg) (base := base) (k := 3) (body := B_is_ring) F S_is_ring (fun cdv A outer s H E hr =>
      (xss_cons (xs_if (XW.toT (xw_or (xt_not (xt_val (XE.toV (xc c_is_whole hr (xa_cons (vD 0) xa_nil))))) (xw_or (xt_not (xt_val (XE.toV (xc c_has_place hr (xa_cons (vD 0) (xa_cons (vD 1) xa_nil)))))) (xw_or1 (xt_not (xt_val (XE.toV (xc c_has_place hr (xa_cons (vD 0) (xa_cons (vD 2) xa_nil)))))))))) (xss_one (xs_ret (XD.toE xd_bl))) xss_nil)
      (xss_one (xs_ret (XD.toE (xd_and (XE.toD (xe_isi (vV 3) i_list rfl z_isinstance rfl z_list bt_list)) (xd_one (XE.toD (xe_blt (call_allL rfl) cd_all rfl z_all bt_all (xva_cons (XE.toV (xe_comp rfl (blk ["box"] ["size"] [0] rfl (by decide +kernel) (by decide +kernel) rfl ⟨⟨rfl, (by first | exact Or.inl rfl | exact Or.inr rfl), rfl⟩, trivial⟩) (xi_seq (vD 3)) (tame_n 0) (fun _ _ _ _ => ⟨(xg_name (i := 0) (show ((["box"] : List Str) ++ (["size"] : List Str) : List Str).Nodup from by decide +kernel) rfl (Or.inl rfl)), xts_nil, (XE.toD (xc c_is_ring_box hr (xa_cons (vD 1) (xa_cons (vD 0) xa_nil))))⟩))) xva_nil))))))))))
  exact h
def B_check_ring : FS := (sIf (tNotF (tTru (vOf (fCall m_is_ring (aCons (dOf (fVar 0)) (aCons (dOf (fVar 1)) (aCons (dOf (fVar 2)) (aCons (dOf (fVar 3)) aNil)))))))) sNo sNil)
def m_check_ring : List D → Option O := mir 4 B_check_ring
abbrev s_check_ring : Stmt := top 15
theorem S_check_ring : FnScope ["size", "home", "last", "boxes"] ["size", "home", "last", "boxes"] (defScope s_check_ring) := ⟨rfl, rfl, rfl, by decide +kernel, rfl, by decide +kernel, by decide +kernel⟩
theorem ok_check_ring {f_is_ring : Addr} {d_is_ring : FuncData}
    (F : Fun K "check_ring" "check_ring" s_check_ring f fd)
    (c_is_ring : Cal P w K mg base 4 f_is_ring d_is_ring "is_ring" ["size", "home", "last", "boxes"] 4 m_is_ring) :
    FnOk P w K mg base CX0 5 f fd ["size", "home", "last", "boxes"] (spD K 4 m_check_ring) := by
  have h := fnD (P := P) (w := w) (mg := mg) (base := base) (k := 4) (body := B_check_ring) F S_check_ring (fun cdv A outer s H E hr =>
      (xss_one (xs_if (xt_not (xt_val (XE.toV (xc c_is_ring hr (xa_cons (vD 0) (xa_cons (vD 1) (xa_cons (vD 2) (xa_cons (vD 3) xa_nil)))))))) (xss_one xs_no) xss_nil)))
  exact h
def E1_without_ways : FD := (dOf (fSl (vOf (fVar 0)) pNo (pAt (fC (.int 2)))))
def B_without_ways : FS := (sRet (fComp 1 [] (iSeq (dOf (fVar 0))) (gN 0) tTrue E1_without_ways))
def m_without_ways : List D → Option O := mir 1 B_without_ways
abbrev s_without_ways : Stmt := top 16
theorem S_without_ways : FnScope ["boxes"] ["boxes"] (defScope s_without_ways) := ⟨rfl, rfl, rfl, by decide +kernel, rfl, by decide +kernel, by decide +kernel⟩
theorem ok_without_ways 
    (F : Fun K "without_ways" "without_ways" s_without_ways f fd) :
    FnOk P w K mg base CX0 1 f fd ["boxes"] (spD K 1 m_without_ways) := by
  have h := fnD (P := P) (w := w) (mg := mg) (base := base) (k := 0) (body := B_without_ways) F S_without_ways (fun cdv A outer s H E hr =>
      (xss_one (xs_ret (xe_comp rfl (blk ["box"] [] [] rfl (by decide +kernel) (by decide +kernel) rfl trivial) (xi_seq (vD 0)) (tame_n 0) (fun _ _ _ _ => ⟨(xg_name (i := 0) (show ((["box"] : List Str) ++ ([] : List Str) : List Str).Nodup from by decide +kernel) rfl (Or.inl rfl)), xts_nil, (XE.toD (xe_slice (vV 0) xo_none (xo_some (XD.toV xd_int))))⟩)))))
  exact h
def B_steps : FS := (sRet (fOpE oMod (vOf (fOpE oMul (vOf (fOpE oSub (vOf (fVar 2)) (vOf (fVar 1)))) (vOf (fVar 3)))) (vOf (fVar 0))))
def m_steps : List D → Option O := mir 4 B_steps
abbrev s_steps : Stmt := top 17
theorem S_steps : FnScope ["size", "start", "goal", "way"] ["size", "start", "goal", "way"] (defScope s_steps) := ⟨rfl, rfl, rfl, by decide +kernel, rfl, by decide +kernel, by decide +kernel⟩
theorem ok_steps 
    (F : Fun K "steps" "steps" s_steps f fd) :
    FnOk P w K mg base CX0 1 f fd ["size", "start", "goal", "way"] (spD K 4 m_steps) := by
  have h := fnD (P := P) (w := w) (mg := mg) (base := base) (k := 0) (body := B_steps) F S_steps (fun cdv A outer s H E hr =>
      (xss_one (xs_ret (xe_mod (XE.toV (xe_mul (XE.toV (xe_sub (vV 2) (vV 1))) (vV 3))) (vV 0)))))
  exact h
def B_ring_gaps : FS := (sSeq (sDrop (fCall m_check_ring (aCons (dOf (fVar 0)) (aCons (dOf (fVar 1)) (aCons (dOf (fVar 2)) (aCons (dOf (fVar 3)) aNil))))))
    (sSeq (sSet 4 (eOf (dOf (fCall m_stops (aCons (dOf (fVar 1)) (aCons (dOf (fVar 2)) (aCons (dOf (fCall m_without_ways (aCons (dOf (fVar 3)) aNil))) aNil)))))))
    (sRet (fBlt bListZip (aCons (vOf (fVar 4)) (aCons (vOf (fOpE oAdd (vOf (fSl (vOf (fVar 4)) (pAt (fC (.int 1))) pNo)) (vOf (fSl (vOf (fVar 4)) pNo (pAt (fC (.int 1))))))) aNil))))))
def m_ring_gaps : List D → Option O := mir 5 B_ring_gaps
abbrev s_ring_gaps : Stmt := top 18
theorem S_ring_gaps : FnScope ["size", "home", "last", "boxes", "places"] ["size", "home", "last", "boxes"] (defScope s_ring_gaps) := ⟨rfl, rfl, rfl, by decide +kernel, rfl, by decide +kernel, by decide +kernel⟩
theorem ok_ring_gaps {f_check_ring : Addr} {d_check_ring : FuncData} {f_stops : Addr} {d_stops : FuncData} {f_without_ways : Addr} {d_without_ways : FuncData}
    (F : Fun K "ring_gaps" "ring_gaps" s_ring_gaps f fd)
    (c_check_ring : Cal P w K mg base 5 f_check_ring d_check_ring "check_ring" ["size", "home", "last", "boxes"] 4 m_check_ring)
    (c_stops : Cal P w K mg base 5 f_stops d_stops "stops" ["home", "last", "boxes"] 3 m_stops)
    (c_without_ways : Cal P w K mg base 1 f_without_ways d_without_ways "without_ways" ["boxes"] 1 m_without_ways)
    (z_list : mg "list" = none)
    (z_zip : mg "zip" = none) :
    FnOk P w K mg base CX0 6 f fd ["size", "home", "last", "boxes"] (spD K 4 m_ring_gaps) := by
  have h := fnD (P := P) (w := w) (mg := mg) (base := base) (k := 5) (body := B_ring_gaps) F S_ring_gaps (fun cdv A outer s H E hr =>
      (xss_cons (xs_expr (xc c_check_ring hr (xa_cons (vD 0) (xa_cons (vD 1) (xa_cons (vD 2) (xa_cons (vD 3) xa_nil))))))
      (xss_cons (xs_set (i := 4) S_ring_gaps.nd rfl (Or.inl rfl) (XD.toE (XE.toD (xc c_stops hr (xa_cons (vD 1) (xa_cons (vD 2) (xa_cons (XE.toD (xc c_without_ways hr (xa_cons (vD 3) xa_nil))) xa_nil)))))))
      (xss_one (xs_ret (xe_listzip rfl z_list rfl z_zip (xva_cons (vV 4) (xva_cons (XE.toV (xe_add (XE.toV (xe_slice (vV 4) (xo_some (XD.toV xd_int)) xo_none)) (XE.toV (xe_slice (vV 4) xo_none (xo_some (XD.toV xd_int)))))) xva_nil))))))))
  exact h
def B_goes_over : FS := (sRet (fOpE oLt (vOf (fCall m_steps (aCons (dOf (fVar 0)) (aCons (dOf (fVar 1)) (aCons (dOf (fOpE oIx (vOf (fVar 3)) (fC (.int 0)))) (aCons (fC (.int 1)) aNil)))))) (vOf (fCall m_steps (aCons (dOf (fVar 0)) (aCons (dOf (fVar 1)) (aCons (dOf (fVar 2)) (aCons (fC (.int 1)) aNil))))))))
def m_goes_over : List D → Option O := mir 4 B_goes_over
abbrev s_goes_over : Stmt := top 19
theorem S_goes_over : FnScope ["size", "start", "goal", "gap"] ["size", "start", "goal", "gap"] (defScope s_goes_over) := ⟨rfl, rfl, rfl, by decide +kernel, rfl, by decide +kernel, by decide +kernel⟩
theorem ok_goes_over {f_steps : Addr} {d_steps : FuncData}
    (F : Fun K "goes_over" "goes_over" s_goes_over f fd)
    (c_steps : Cal P w K mg base 1 f_steps d_steps "steps" ["size", "start", "goal", "way"] 4 m_steps) :
    FnOk P w K mg base CX0 2 f fd ["size", "start", "goal", "gap"] (spD K 4 m_goes_over) := by
  have h := fnD (P := P) (w := w) (mg := mg) (base := base) (k := 1) (body := B_goes_over) F S_goes_over (fun cdv A outer s H E hr =>
      (xss_one (xs_ret (xe_lt (XE.toV (xc c_steps hr (xa_cons (vD 0) (xa_cons (vD 1) (xa_cons (XE.toD (xe_item (vV 3) (XD.toV xd_int))) (xa_cons xd_int xa_nil)))))) (XE.toV (xc c_steps hr (xa_cons (vD 0) (xa_cons (vD 1) (xa_cons (vD 2) (xa_cons xd_int xa_nil))))))))))
  exact h
def T1_bare_lack : FT := (tAndF (tOf (fOpE (oEq false) (vOf (fOpE oIx (vOf (fVar 0)) (fC (.int 2)))) (fC (.int 1)))) (tTru (vOf (fCall m_goes_over (aCons (dOf (fVar 1)) (aCons (dOf (fOpE oIx (vOf (fVar 0)) (fC (.int 0)))) (aCons (dOf (fOpE oIx (vOf (fVar 0)) (fC (.int 1)))) (aCons (dOf (fVar 2)) aNil))))))))
def E1_bare_lack : FD := (dOf (fVar 0))
def T2_bare_lack : FT := (tAndF (tOf (fOpE (oEq false) (vOf (fOpE oIx (vOf (fVar 0)) (fC (.int 2)))) (vOf (fNeg (fC (.int 1)))))) (tTru (vOf (fCall m_goes_over (aCons (dOf (fVar 1)) (aCons (dOf (fOpE oIx (vOf (fVar 0)) (fC (.int 1)))) (aCons (dOf (fOpE oIx (vOf (fVar 0)) (fC (.int 0)))) (aCons (dOf (fVar 2)) aNil))))))))
def E2_bare_lack : FD := (dOf (fVar 0))
def B_bare_lack : FS := (sSeq (sSet 5 (eOf (dOf (fIte (tTru (vOf (fCall m_goes_over (aCons (dOf (fVar 0)) (aCons (dOf (fVar 1)) (aCons (dOf (fVar 2)) (aCons (dOf (fVar 4)) aNil))))))) (eOf (fC (.int 1))) (eOf (fC (.int 0)))))))
    (sSeq (sSet 6 (fComp 1 [0, 4] (iSeq (dOf (fVar 3))) (gN 0) T1_bare_lack E1_bare_lack))
    (sShare 6 (sSeq (sSet 7 (fComp 1 [0, 4] (iSeq (dOf (fVar 3))) (gN 0) T2_bare_lack E2_bare_lack))
    (sShare 7 (sRet (fOpE oAdd (vOf (fOpE oSub (vOf (fVar 5)) (vOf (fBlt bLen (aCons (vOf (fVar 6)) aNil))))) (vOf (fBlt bLen (aCons (vOf (fVar 7)) aNil))))))))))
def m_bare_lack : List D → Option O := mir 8 B_bare_lack
abbrev s_bare_lack : Stmt := top 20
theorem S_bare_lack : FnScope ["size", "home", "last", "boxes", "gap", "own", "rights", "lefts"] ["size", "home", "last", "boxes", "gap"] (defScope s_bare_lack) := ⟨rfl, rfl, rfl, by decide +kernel, rfl, by decide +kernel, by decide +kernel⟩
theorem ok_bare_lack {f_goes_over : Addr} {d_goes_over : FuncData}
    (F : Fun K "bare_lack" "bare_lack" s_bare_lack f fd)
    (c_goes_over : Cal P w K mg base 2 f_goes_over d_goes_over "goes_over" ["size", "start", "goal", "gap"] 4 m_goes_over)
    (z_len : mg "len" = none) :
    FnOk P w K mg base CX0 3 f fd ["size", "home", "last", "boxes", "gap"] (spD K 5 m_bare_lack) := by
  have h := fnD (P := P) (w := w) (mg := mg) (base := base) (k := 2) (body := B_bare_lack) F S_bare_lack (fun cdv A outer s H E hr =>
      (xss_cons (xs_set (i := 5) S_bare_lack.nd rfl (Or.inl rfl) (XD.toE (XE.toD (xe_ite (xt_val (XE.toV (xc c_goes_over hr (xa_cons (vD 0) (xa_cons (vD 1) (xa_cons (vD 2) (xa_cons (vD 4) xa_nil))))))) (XD.toE xd_int) (XD.toE xd_int)))))
      (xss_cons (xs_setc (i := 6) rfl S_bare_lack.nd rfl rfl (blk ["box"] ["size", "gap"] [0, 4] rfl (by decide +kernel) (by decide +kernel) rfl ⟨⟨rfl, (by first | exact Or.inl rfl | exact Or.inr rfl), rfl⟩, ⟨⟨rfl, (by first | exact Or.inl rfl | exact Or.inr rfl), rfl⟩, trivial⟩⟩) (xi_seq (vD 3)) (tame_n 0) (fun _ _ _ _ => ⟨(xg_name (i := 0) (show ((["box"] : List Str) ++ (["size", "gap"] : List Str) : List Str).Nodup from by decide +kernel) rfl (Or.inl rfl)), (xts_one (XW.toT (xw_and (xt_eq hr.units (XE.toV (xe_item (vV 0) (XD.toV xd_int))) (XD.toV xd_int)) (xw_and1 (xt_val (XE.toV (xc c_goes_over hr (xa_cons (vD 1) (xa_cons (XE.toD (xe_item (vV 0) (XD.toV xd_int))) (xa_cons (XE.toD (xe_item (vV 0) (XD.toV xd_int))) (xa_cons (vD 2) xa_nil))))))))))), (vD 0)⟩))
      (xss_share 6 (xss_cons (xs_setc (i := 7) rfl S_bare_lack.nd rfl rfl (blk ["box"] ["size", "gap"] [0, 4] rfl (by decide +kernel) (by decide +kernel) rfl ⟨⟨rfl, (by first | exact Or.inl rfl | exact Or.inr rfl), rfl⟩, ⟨⟨rfl, (by first | exact Or.inl rfl | exact Or.inr rfl), rfl⟩, trivial⟩⟩) (xi_seq (vD 3)) (tame_n 0) (fun _ _ _ _ => ⟨(xg_name (i := 0) (show ((["box"] : List Str) ++ (["size", "gap"] : List Str) : List Str).Nodup from by decide +kernel) rfl (Or.inl rfl)), (xts_one (XW.toT (xw_and (xt_eq hr.units (XE.toV (xe_item (vV 0) (XD.toV xd_int))) (XE.toV (xe_neg (XD.toV xd_int)))) (xw_and1 (xt_val (XE.toV (xc c_goes_over hr (xa_cons (vD 1) (xa_cons (XE.toD (xe_item (vV 0) (XD.toV xd_int))) (xa_cons (XE.toD (xe_item (vV 0) (XD.toV xd_int))) (xa_cons (vD 2) xa_nil))))))))))), (vD 0)⟩))
      (xss_share 7 (xss_one (xs_ret (xe_add (XE.toV (xe_sub (vV 5) (XE.toV (xe_blt call_len_seq cd_len rfl z_len bt_len (xva_cons (vV 6) xva_nil))))) (XE.toV (xe_blt call_len_seq cd_len rfl z_len bt_len (xva_cons (vV 7) xva_nil))))))))))))
  exact h
def E1_ring_lacks : FD := (dOf (fOpE oAdd (vOf (fVar 1)) (vOf (fCall m_bare_lack (aCons (dOf (fVar 2)) (aCons (dOf (fVar 3)) (aCons (dOf (fVar 4)) (aCons (dOf (fVar 5)) (aCons (dOf (fVar 0)) aNil)))))))))
def B_ring_lacks : FS := (sRet (fComp 1 [4, 0, 1, 2, 3] (iSeq (dOf (fCall m_ring_gaps (aCons (dOf (fVar 0)) (aCons (dOf (fVar 1)) (aCons (dOf (fVar 2)) (aCons (dOf (fVar 3)) aNil))))))) (gN 0) tTrue E1_ring_lacks))
def m_ring_lacks : List D → Option O := mir 5 B_ring_lacks
abbrev s_ring_lacks : Stmt := top 21
theorem S_ring_lacks : FnScope ["size", "home", "last", "boxes", "c"] ["size", "home", "last", "boxes", "c"] (defScope s_ring_lacks) := ⟨rfl, rfl, rfl, by decide +kernel, rfl, by decide +kernel, by decide +kernel⟩
theorem ok_ring_lacks {f_ring_gaps : Addr} {d_ring_gaps : FuncData} {f_bare_lack : Addr} {d_bare_lack : FuncData}
    (F : Fun K "ring_lacks" "ring_lacks" s_ring_lacks f fd)
    (c_ring_gaps : Cal P w K mg base 6 f_ring_gaps d_ring_gaps "ring_gaps" ["size", "home", "last", "boxes"] 4 m_ring_gaps)
    (c_bare_lack : Cal P w K mg base 3 f_bare_lack d_bare_lack "bare_lack" ["size", "home", "last", "boxes", "gap"] 5 m_bare_lack) :
    FnOk P w K mg base CX0 7 f fd ["size", "home", "last", "boxes", "c"] (spD K 5 m_ring_lacks) := by
  have h := fnD (P := P) (w := w) (mg := mg) (base := base) (k := 6) (body := B_ring_lacks) F S_ring_lacks (fun cdv A outer s H E hr =>
      (xss_one (xs_ret (xe_comp rfl (blk ["gap"] ["c", "size", "home", "last", "boxes"] [4, 0, 1, 2, 3] rfl (by decide +kernel) (by decide +kernel) rfl ⟨⟨rfl, (by first | exact Or.inl rfl | exact Or.inr rfl), rfl⟩, ⟨⟨rfl, (by first | exact Or.inl rfl | exact Or.inr rfl), rfl⟩, ⟨⟨rfl, (by first | exact Or.inl rfl | exact Or.inr rfl), rfl⟩, ⟨⟨rfl, (by first | exact Or.inl rfl | exact Or.inr rfl), rfl⟩, ⟨⟨rfl, (by first | exact Or.inl rfl | exact Or.inr rfl), rfl⟩, trivial⟩⟩⟩⟩⟩) (xi_seq (XE.toD (xc c_ring_gaps hr (xa_cons (vD 0) (xa_cons (vD 1) (xa_cons (vD 2) (xa_cons (vD 3) xa_nil))))))) (tame_n 0) (fun _ _ _ _ => ⟨(xg_name (i := 0) (show ((["gap"] : List Str) ++ (["c", "size", "home", "last", "boxes"] : List Str) : List Str).Nodup from by decide +kernel) rfl (Or.inl rfl)), xts_nil, (XE.toD (xe_add (vV 1) (XE.toV (xc c_bare_lack hr (xa_cons (vD 2) (xa_cons (vD 3) (xa_cons (vD 4) (xa_cons (vD 5) (xa_cons (vD 0) xa_nil)))))))))⟩)))))
  exact h
def B__law_cell : FS := (sSeq (sIf (tOf (fOpE oLt (vOf (fVar 1)) (vOf (fBlt bLen (aCons (vOf (fVar 0)) aNil))))) (sRet (fOpE oIx (vOf (fVar 0)) (vOf (fVar 1)))) sNil)
    (sRet (eOf (fC (.int 0)))))
def m__law_cell : List D → Option O := mir 2 B__law_cell
abbrev s__law_cell : Stmt := top 23
theorem S__law_cell : FnScope ["script", "k"] ["script", "k"] (defScope s__law_cell) := ⟨rfl, rfl, rfl, by decide +kernel, rfl, by decide +kernel, by decide +kernel⟩
theorem ok__law_cell 
    (F : Fun K "_law_cell" "_law_cell" s__law_cell f fd)
    (z_len : mg "len" = none) :
    FnOk P w K mg base CX0 1 f fd ["script", "k"] (spD K 2 m__law_cell) := by
  have h := fnD (P := P) (w := w) (mg := mg) (base := base) (k := 0) (body := B__law_cell) F S__law_cell (fun cdv A outer s H E hr =>
      (xss_cons (xs_if (xt_lt (vV 1) (XE.toV (xe_blt call_len_seq cd_len rfl z_len bt_len (xva_cons (vV 0) xva_nil)))) (xss_one (xs_ret (xe_item (vV 0) (vV 1)))) xss_nil)
      (xss_one (xs_ret (XD.toE xd_int)))))
  exact h
def B__law_size : FS := (sSeq (sSet 1 (eOf (dOf (fCall m__law_cell (aCons (dOf (fVar 0)) (aCons (fC (.int 0)) aNil))))))
    (sRet (fOpE oIx (vOf (fLst (aCons (dOf (fOpE oAdd (fC (.int 1)) (vOf (fOpE oMod (vOf (fOpE oDiv (vOf (fVar 1)) (fC (.int 4)))) (fC (.int 12)))))) (aCons (dOf (fOpE oAdd (fC (.int 1)) (vOf (fOpE oMod (vOf (fOpE oDiv (vOf (fVar 1)) (fC (.int 4)))) (fC (.int 100)))))) (aCons (dOf (fOpE oAdd (fC (.int 1)) (vOf (fOpE oMod (vOf (fOpE oDiv (vOf (fVar 1)) (fC (.int 4)))) (vOf (fOpE oPow (fC (.int 10)) (fC (.int 39)))))))) (aCons (fC (.int 24)) aNil)))))) (vOf (fOpE oMod (vOf (fVar 1)) (fC (.int 4)))))))
def m__law_size : List D → Option O := mir 2 B__law_size
abbrev s__law_size : Stmt := top 24
theorem S__law_size : FnScope ["script", "cell"] ["script"] (defScope s__law_size) := ⟨rfl, rfl, rfl, by decide +kernel, rfl, by decide +kernel, by decide +kernel⟩
theorem ok__law_size {f__law_cell : Addr} {d__law_cell : FuncData}
    (F : Fun K "_law_size" "_law_size" s__law_size f fd)
    (c__law_cell : Cal P w K mg base 1 f__law_cell d__law_cell "_law_cell" ["script", "k"] 2 m__law_cell) :
    FnOk P w K mg base CX0 2 f fd ["script"] (spD K 1 m__law_size) := by
  have h := fnD (P := P) (w := w) (mg := mg) (base := base) (k := 1) (body := B__law_size) F S__law_size (fun cdv A outer s H E hr =>
      (xss_cons (xs_set (i := 1) S__law_size.nd rfl (Or.inl rfl) (XD.toE (XE.toD (xc c__law_cell hr (xa_cons (vD 0) (xa_cons xd_int xa_nil))))))
      (xss_one (xs_ret (xe_item (XE.toV (xe_lst (xa_cons (XE.toD (xe_add (XD.toV xd_int) (XE.toV (xe_mod (XE.toV (xe_fdiv (vV 1) (XD.toV xd_int))) (XD.toV xd_int))))) (xa_cons (XE.toD (xe_add (XD.toV xd_int) (XE.toV (xe_mod (XE.toV (xe_fdiv (vV 1) (XD.toV xd_int))) (XD.toV xd_int))))) (xa_cons (XE.toD (xe_add (XD.toV xd_int) (XE.toV (xe_mod (XE.toV (xe_fdiv (vV 1) (XD.toV xd_int))) (XE.toV (xe_pow (XD.toV xd_int) (XD.toV xd_int))))))) (xa_cons xd_int xa_nil)))))) (XE.toV (xe_mod (vV 1) (XD.toV xd_int))))))))
  exact h
def L1__law_menu : FS := (sSeq (sSet 4 (eOf (dOf (fCall m__law_cell (aCons (dOf (fVar 0)) (aCons (dOf (fOpE oAdd (fC (.int 2)) (vOf (fVar 3)))) aNil))))))
    (sApp 2 (dOf (fOpE oMod (vOf (fOpE oIx (vOf (fLst (aCons (dOf (fOpE oAdd (vOf (fVar 3)) (vOf (fOpE oDiv (vOf (fVar 4)) (fC (.int 3)))))) (aCons (dOf (fOpE oDiv (vOf (fVar 4)) (fC (.int 3)))) (aCons (dOf (fOpE oSub (vOf (fOpE oSub (fC (.int 0)) (fC (.int 1)))) (vOf (fOpE oDiv (vOf (fVar 4)) (fC (.int 3)))))) aNil))))) (vOf (fOpE oMod (vOf (fVar 4)) (fC (.int 3)))))) (vOf (fVar 1))))))
def B__law_menu : FS := (sSeq (sSet 2 (fLst aNil))
    (sSeq (sFor (iRg1 (aCons (fC (.int 7)) aNil)) (gN 3) L1__law_menu)
    (sSeq (sIf (tOf (fOpE (oEq false) (vOf (fOpE oMod (vOf (fOpE oDiv (vOf (fCall m__law_cell (aCons (dOf (fVar 0)) (aCons (fC (.int 1)) aNil)))) (fC (.int 28)))) (fC (.int 3)))) (fC (.int 1)))) (sLSet 2 (fC (.int 1)) (dOf (fOpE oIx (vOf (fVar 2)) (fC (.int 0))))) sNil)
    (sRetV 2))))
def m__law_menu : List D → Option O := mir 5 B__law_menu
abbrev s__law_menu : Stmt := top 25
theorem S__law_menu : FnScope ["script", "size", "some", "k", "cell"] ["script", "size"] (defScope s__law_menu) := ⟨rfl, rfl, rfl, by decide +kernel, rfl, by decide +kernel, by decide +kernel⟩
theorem ok__law_menu {f__law_cell : Addr} {d__law_cell : FuncData}
    (F : Fun K "_law_menu" "_law_menu" s__law_menu f fd)
    (c__law_cell : Cal P w K mg base 1 f__law_cell d__law_cell "_law_cell" ["script", "k"] 2 m__law_cell)
    (z_range : mg "range" = none) :
    FnOk P w K mg base CX0 2 f fd ["script", "size"] (spD K 2 m__law_menu) := by
  have h := fnD (P := P) (w := w) (mg := mg) (base := base) (k := 1) (body := B__law_menu) F S__law_menu (fun cdv A outer s H E hr =>
      (xss_cons (xs_set (i := 2) S__law_menu.nd rfl (Or.inl rfl) (xe_lst xa_nil))
      (xss_cons (xs_for PassesOwn.never rfl (xi_range1 rfl z_range (xva_cons (XD.toV xd_int) xva_nil)) (xg_name (i := 3) S__law_menu.nd rfl (Or.inl rfl)) (xss_cons (xs_set (i := 4) S__law_menu.nd rfl (Or.inl rfl) (XD.toE (XE.toD (xc c__law_cell hr (xa_cons (vD 0) (xa_cons (XE.toD (xe_add (XD.toV xd_int) (vV 3))) xa_nil))))))
      (xss_one (xs_app (pv 2) (XE.toD (xe_mod (XE.toV (xe_item (XE.toV (xe_lst (xa_cons (XE.toD (xe_add (vV 3) (XE.toV (xe_fdiv (vV 4) (XD.toV xd_int))))) (xa_cons (XE.toD (xe_fdiv (vV 4) (XD.toV xd_int))) (xa_cons (XE.toD (xe_sub (XE.toV (xe_sub (XD.toV xd_int) (XD.toV xd_int))) (XE.toV (xe_fdiv (vV 4) (XD.toV xd_int))))) xa_nil))))) (XE.toV (xe_mod (vV 4) (XD.toV xd_int))))) (vV 1)))))))
      (xss_cons (xs_if (xt_eq hr.units (XE.toV (xe_mod (XE.toV (xe_fdiv (XE.toV (xc c__law_cell hr (xa_cons (vD 0) (xa_cons xd_int xa_nil)))) (XD.toV xd_int))) (XD.toV xd_int))) (XD.toV xd_int)) (xss_one (xs_lset (pv 2) xd_int (XE.toD (xe_item (vV 2) (XD.toV xd_int))))) xss_nil)
      (xss_one (xs_retv (pv 2)))))))
  exact h
def L1__law_boxes : FS := (sApp 4 (fTup (aCons (dOf (fOpE oIx (vOf (fVar 1)) (vOf (fOpE oMod (vOf (fOpE oDiv (vOf (fVar 5)) (fC (.int 2)))) (fC (.int 7)))))) (aCons (dOf (fOpE oIx (vOf (fVar 1)) (vOf (fOpE oMod (vOf (fOpE oDiv (vOf (fVar 5)) (fC (.int 14)))) (fC (.int 7)))))) (aCons (dOf (fOpE oIx (vOf (fLst (aCons (fC (.int 1)) (aCons (dOf (fNeg (fC (.int 1)))) aNil)))) (vOf (fOpE oMod (vOf (fVar 5)) (fC (.int 2)))))) aNil)))))
def B__law_boxes : FS := (sSeq (sSet 2 (eOf (dOf (fCall m__law_cell (aCons (dOf (fVar 0)) (aCons (fC (.int 1)) aNil))))))
    (sSeq (sSet 3 (eOf (dOf (fOpE oIx (vOf (fLst (aCons (fC (.int 5)) (aCons (fC (.int 5)) (aCons (dOf (fOpE oMod (vOf (fOpE oDiv (vOf (fVar 2)) (fC (.int 4)))) (fC (.int 6)))) (aCons (dOf (fOpE oMod (vOf (fOpE oDiv (vOf (fVar 2)) (fC (.int 4)))) (fC (.int 3)))) aNil)))))) (vOf (fOpE oMod (vOf (fVar 2)) (fC (.int 4))))))))
    (sSeq (sSet 4 (fLst aNil))
    (sSeq (sFor (iSeq (dOf (fSl (vOf (fVar 0)) (pAt (fC (.int 9))) (pAt (vOf (fOpE oAdd (fC (.int 9)) (vOf (fVar 3)))))))) (gN 5) L1__law_boxes)
    (sRetV 4)))))
def m__law_boxes : List D → Option O := mir 6 B__law_boxes
abbrev s__law_boxes : Stmt := top 26
theorem S__law_boxes : FnScope ["script", "some", "cell", "many", "boxes", "one"] ["script", "some"] (defScope s__law_boxes) := ⟨rfl, rfl, rfl, by decide +kernel, rfl, by decide +kernel, by decide +kernel⟩
theorem ok__law_boxes {f__law_cell : Addr} {d__law_cell : FuncData}
    (F : Fun K "_law_boxes" "_law_boxes" s__law_boxes f fd)
    (c__law_cell : Cal P w K mg base 1 f__law_cell d__law_cell "_law_cell" ["script", "k"] 2 m__law_cell) :
    FnOk P w K mg base CX0 2 f fd ["script", "some"] (spD K 2 m__law_boxes) := by
  have h := fnD (P := P) (w := w) (mg := mg) (base := base) (k := 1) (body := B__law_boxes) F S__law_boxes (fun cdv A outer s H E hr =>
      (xss_cons (xs_set (i := 2) S__law_boxes.nd rfl (Or.inl rfl) (XD.toE (XE.toD (xc c__law_cell hr (xa_cons (vD 0) (xa_cons xd_int xa_nil))))))
      (xss_cons (xs_set (i := 3) S__law_boxes.nd rfl (Or.inl rfl) (XD.toE (XE.toD (xe_item (XE.toV (xe_lst (xa_cons xd_int (xa_cons xd_int (xa_cons (XE.toD (xe_mod (XE.toV (xe_fdiv (vV 2) (XD.toV xd_int))) (XD.toV xd_int))) (xa_cons (XE.toD (xe_mod (XE.toV (xe_fdiv (vV 2) (XD.toV xd_int))) (XD.toV xd_int))) xa_nil)))))) (XE.toV (xe_mod (vV 2) (XD.toV xd_int)))))))
      (xss_cons (xs_set (i := 4) S__law_boxes.nd rfl (Or.inl rfl) (xe_lst xa_nil))
      (xss_cons (xs_for PassesOwn.never rfl (xi_seq (XE.toD (xe_slice (vV 0) (xo_some (XD.toV xd_int)) (xo_some (XE.toV (xe_add (XD.toV xd_int) (vV 3))))))) (xg_name (i := 5) S__law_boxes.nd rfl (Or.inl rfl)) (xss_one (xs_app (pv 4) (xd_tup (xa_cons (XE.toD (xe_item (vV 1) (XE.toV (xe_mod (XE.toV (xe_fdiv (vV 5) (XD.toV xd_int))) (XD.toV xd_int))))) (xa_cons (XE.toD (xe_item (vV 1) (XE.toV (xe_mod (XE.toV (xe_fdiv (vV 5) (XD.toV xd_int))) (XD.toV xd_int))))) (xa_cons (XE.toD (xe_item (XE.toV (xe_lst (xa_cons xd_int (xa_cons (XE.toD (xe_neg (XD.toV xd_int))) xa_nil)))) (XE.toV (xe_mod (vV 5) (XD.toV xd_int))))) xa_nil)))))))
      (xss_one (xs_retv (pv 4))))))))
  exact h
def L1__law_stops : FS := (sSet 3 (eOf (dOf (fOpE oAdd (vOf (fVar 3)) (vOf (fLst (aCons (dOf (fVar 4)) (aCons (dOf (fVar 5)) aNil))))))))
def B__law_stops : FS := (sSeq (sSet 3 (eOf (dOf (fLst (aCons (dOf (fVar 0)) (aCons (dOf (fVar 1)) aNil))))))
    (sSeq (sFor (iSeq (dOf (fVar 2))) (gT 3 (gsCons (gN 4) (gsCons (gN 5) (gsCons (gN 6) gsNil)))) L1__law_stops)
    (sRet (fSortSet (vOf (fVar 3))))))
def m__law_stops : List D → Option O := mir 7 B__law_stops
abbrev s__law_stops : Stmt := top 27
theorem S__law_stops : FnScope ["home", "last", "boxes", "some", "start", "goal", "side"] ["home", "last", "boxes"] (defScope s__law_stops) := ⟨rfl, rfl, rfl, by decide +kernel, rfl, by decide +kernel, by decide +kernel⟩
theorem ok__law_stops 
    (F : Fun K "_law_stops" "_law_stops" s__law_stops f fd)
    (z_sorted : mg "sorted" = none)
    (z_set : mg "set" = none) :
    FnOk P w K mg base CX0 1 f fd ["home", "last", "boxes"] (spD K 3 m__law_stops) := by
  have h := fnD (P := P) (w := w) (mg := mg) (base := base) (k := 0) (body := B__law_stops) F S__law_stops (fun cdv A outer s H E hr =>
      (xss_cons (xs_set (i := 3) S__law_stops.nd rfl (Or.inl rfl) (XD.toE (XE.toD (xe_lst (xa_cons (vD 0) (xa_cons (vD 1) xa_nil))))))
      (xss_cons (xs_for PassesOwn.never rfl (xi_seq (vD 2)) (xg_tup rfl (xgs_cons (xg_name (i := 4) S__law_stops.nd rfl (Or.inl rfl)) (xgs_cons (xg_name (i := 5) S__law_stops.nd rfl (Or.inl rfl)) (xgs_cons (xg_name (i := 6) S__law_stops.nd rfl (Or.inl rfl)) xgs_nil)))) (xss_one (xs_set (i := 3) S__law_stops.nd rfl (Or.inl rfl) (XD.toE (XE.toD (xe_add (vV 3) (XE.toV (xe_lst (xa_cons (vD 4) (xa_cons (vD 5) xa_nil))))))))))
      (xss_one (xs_ret (xe_sortset rfl z_sorted rfl z_set (vV 3)))))))
  exact h
def T1__law_numbers : FT := (tOf (fOpE (oEq true) (vOf (fOpE oIx (vOf (fVar 0)) (vOf (fVar 3)))) (vOf (fVar 2))))
def L1__law_numbers : FS := (sSeq (sApp 4 (dOf (fVar 3)))
    (sSet 3 (eOf (dOf (fOpE oMod (vOf (fOpE oAdd (vOf (fVar 3)) (fC (.int 1)))) (vOf (fBlt bLen (aCons (vOf (fVar 0)) aNil))))))))
def B__law_numbers : FS := (sSeq (sSet 3 (eOf (dOf (fIdx (vOf (fVar 0)) (dOf (fVar 1))))))
    (sSeq (sSet 4 (fLst aNil))
    (sSeq (sWh 1000000 T1__law_numbers L1__law_numbers)
    (sRetV 4))))
def m__law_numbers : List D → Option O := mir 5 B__law_numbers
abbrev s__law_numbers : Stmt := top 28
theorem S__law_numbers : FnScope ["some", "start", "goal", "k", "over"] ["some", "start", "goal"] (defScope s__law_numbers) := ⟨rfl, rfl, rfl, by decide +kernel, rfl, by decide +kernel, by decide +kernel⟩
theorem ok__law_numbers 
    (F : Fun K "_law_numbers" "_law_numbers" s__law_numbers f fd)
    (z_len : mg "len" = none) :
    FnOk P w K mg base CX0 1 f fd ["some", "start", "goal"] (spD K 3 m__law_numbers) := by
  have h := fnD (P := P) (w := w) (mg := mg) (base := base) (k := 0) (body := B__law_numbers) F S__law_numbers (fun cdv A outer s H E hr =>
      (xss_cons (xs_set (i := 3) S__law_numbers.nd rfl (Or.inl rfl) (XD.toE (XE.toD (xe_index (vV 0) (vD 1)))))
      (xss_cons (xs_set (i := 4) S__law_numbers.nd rfl (Or.inl rfl) (xe_lst xa_nil))
      (xss_cons (xs_while PassesOwn.never (xt_ne hr.units (XE.toV (xe_item (vV 0) (vV 3))) (vV 2)) (xss_cons (xs_app (pv 4) (vD 3))
      (xss_one (xs_set (i := 3) S__law_numbers.nd rfl (Or.inl rfl) (XD.toE (XE.toD (xe_mod (XE.toV (xe_add (vV 3) (XD.toV xd_int))) (XE.toV (xe_blt call_len_seq cd_len rfl z_len bt_len (xva_cons (vV 0) xva_nil))))))))))
      (xss_one (xs_retv (pv 4)))))))
  exact h
abbrev s__law_counts : Stmt := top 29
theorem S__law_counts : FnScope ["some", "boxes", "counts", "start", "goal", "side", "k"] ["some", "boxes"] (defScope s__law_counts) := ⟨rfl, rfl, rfl, by decide +kernel, rfl, by decide +kernel, by decide +kernel⟩
def m__law_counts : List D → Option O := mCt m__law_numbers
theorem ok__law_counts {f__law_numbers : Addr} {d__law_numbers : FuncData} (F : Fun K "_law_counts" "_law_counts" s__law_counts f fd) (c__law_numbers : Cal P w K mg base 1 f__law_numbers d__law_numbers "_law_numbers" ["some", "start", "goal"] 3 m__law_numbers) : FnOk P w K mg base CX0 2 f fd ["some", "boxes"] (spD K 2 m__law_counts) := by
  refine F.ok S__law_counts (fun vs H Q E h => ?_) (fun cdv A outer s H vs Q E hr h => ?_)
  · obtain ⟨G, ds, r, _, h2, _, h4, _⟩ := h
    rw [← h4.len]; exact h2
  · exact ⟨tCt K (spD K 3 m__law_numbers) _, pss_cons (ps_setc (i := 2) rfl S__law_counts.nd rfl rfl (blk ["place"] [] [] rfl (by decide +kernel) (by decide +kernel) rfl trivial) (pi_list (pv 0)) (fun _ _ _ _ => ⟨pg_name (i := 0) (show ((["place"] : List Str) ++ ([] : List Str) : List Str).Nodup from by decide +kernel) rfl (Or.inl rfl), pts_nil, pe_lst (pa_cons pe_int (pa_cons pe_int pa_nil rfl) rfl)⟩)) (pss_cons (ps_for PassesOwn.never rfl (pi_list (pv 1)) (pg_tup rfl (pgs_cons (pg_name (i := 3) S__law_counts.nd rfl (by first | exact Or.inl rfl | exact Or.inr rfl) (by first | exact .inl rfl | exact .inr rfl)) (pgs_cons (pg_name (i := 4) S__law_counts.nd rfl (by first | exact Or.inl rfl | exact Or.inr rfl) (by first | exact .inl rfl | exact .inr rfl)) (pgs_cons (pg_name (i := 5) S__law_counts.nd rfl (by first | exact Or.inl rfl | exact Or.inr rfl) (by first | exact .inl rfl | exact .inr rfl)) pgs_nil)))) (pss_one (ps_if (pt_cmp (pc_eqI (pv 5) pe_int)) (pss_one (ps_for PassesOwn.never rfl (pi_list (pe_call c__law_numbers.1 (hr.mono (by decide)) rfl c__law_numbers.2.1 c__law_numbers.2.2.1 c__law_numbers.2.2.2 .nil pass0 (pa_cons (pv 0) (pa_cons (pv 3) (pa_cons (pv 4) pa_nil rfl) rfl) rfl))) (pg_name (i := 6) S__law_counts.nd rfl (by first | exact Or.inl rfl | exact Or.inr rfl) (by first | exact .inl rfl | exact .inr rfl)) (pss_one (ps_asg (pe_add (pe_ix ix_list (pe_ix ix_list (pv 2) (pv 6) (fun _ _ => rfl)) pe_int (fun _ _ => rfl)) pe_int) (pg_sub (pe_ix ix_list (pv 2) (pv 6) (fun _ _ => rfl)) pe_int set_list))))) (pss_one (ps_for PassesOwn.never rfl (pi_list (pe_call c__law_numbers.1 (hr.mono (by decide)) rfl c__law_numbers.2.1 c__law_numbers.2.2.1 c__law_numbers.2.2.2 .nil pass0 (pa_cons (pv 0) (pa_cons (pv 4) (pa_cons (pv 3) pa_nil rfl) rfl) rfl))) (pg_name (i := 6) S__law_counts.nd rfl (by first | exact Or.inl rfl | exact Or.inr rfl) (by first | exact .inl rfl | exact .inr rfl)) (pss_one (ps_asg (pe_add (pe_ix ix_list (pe_ix ix_list (pv 2) (pv 6) (fun _ _ => rfl)) pe_int (fun _ _ => rfl)) pe_int) (pg_sub (pe_ix ix_list (pv 2) (pv 6) (fun _ _ => rfl)) pe_int set_list)))))))) (pss_one (ps_ret (pv 2)))), ct_ok rfl h⟩
def E1__law_lacks : FD := (dOf (fOpE oAdd (vOf (fOpE oSub (vOf (fOpE oAdd (vOf (fVar 1)) (vOf (fBlt bInt (aCons (vOf (fOpE (oIn false) (vOf (fVar 0)) (vOf (fVar 3)))) aNil))))) (vOf (fOpE oIx (vOf (fOpE oIx (vOf (fVar 2)) (vOf (fVar 0)))) (fC (.int 0)))))) (vOf (fOpE oIx (vOf (fOpE oIx (vOf (fVar 2)) (vOf (fVar 0)))) (fC (.int 1))))))
def B__law_lacks : FS := (sSeq (sSet 5 (eOf (dOf (fCall m__law_counts (aCons (dOf (fVar 0)) (aCons (dOf (fVar 3)) aNil))))))
    (sSeq (sSet 6 (eOf (dOf (fCall m__law_numbers (aCons (dOf (fVar 0)) (aCons (dOf (fVar 1)) (aCons (dOf (fVar 2)) aNil)))))))
    (sRet (fComp 1 [4, 5, 6] (iRg1 (aCons (vOf (fBlt bLen (aCons (vOf (fVar 0)) aNil))) aNil)) (gN 0) tTrue E1__law_lacks))))
def m__law_lacks : List D → Option O := mir 7 B__law_lacks
abbrev s__law_lacks : Stmt := top 30
theorem S__law_lacks : FnScope ["some", "home", "last", "boxes", "c", "counts", "there"] ["some", "home", "last", "boxes", "c"] (defScope s__law_lacks) := ⟨rfl, rfl, rfl, by decide +kernel, rfl, by decide +kernel, by decide +kernel⟩
theorem ok__law_lacks {f__law_counts : Addr} {d__law_counts : FuncData} {f__law_numbers : Addr} {d__law_numbers : FuncData}
    (F : Fun K "_law_lacks" "_law_lacks" s__law_lacks f fd)
    (c__law_counts : Cal P w K mg base 2 f__law_counts d__law_counts "_law_counts" ["some", "boxes"] 2 m__law_counts)
    (c__law_numbers : Cal P w K mg base 1 f__law_numbers d__law_numbers "_law_numbers" ["some", "start", "goal"] 3 m__law_numbers)
    (z_len : mg "len" = none)
    (z_range : mg "range" = none)
    (z_int : mg "int" = none) :
    FnOk P w K mg base CX0 3 f fd ["some", "home", "last", "boxes", "c"] (spD K 5 m__law_lacks) := by
  have h := fnD (P := P) (w := w) (mg := mg) (base := base) (k := 2) (body := B__law_lacks) F S__law_lacks (fun cdv A outer s H E hr =>
      (xss_cons (xs_set (i := 5) S__law_lacks.nd rfl (Or.inr rfl) (XD.toE (XE.toD (xc c__law_counts hr (xa_cons (vD 0) (xa_cons (vD 3) xa_nil))))))
      (xss_cons (xs_set (i := 6) S__law_lacks.nd rfl (Or.inr rfl) (XD.toE (XE.toD (xc c__law_numbers hr (xa_cons (vD 0) (xa_cons (vD 1) (xa_cons (vD 2) xa_nil)))))))
      (xss_one (xs_ret (xe_comp rfl (blk ["k"] ["c", "counts", "there"] [4, 5, 6] rfl (by decide +kernel) (by decide +kernel) rfl ⟨⟨rfl, (by first | exact Or.inl rfl | exact Or.inr rfl), rfl⟩, ⟨⟨rfl, (by first | exact Or.inl rfl | exact Or.inr rfl), rfl⟩, ⟨⟨rfl, (by first | exact Or.inl rfl | exact Or.inr rfl), rfl⟩, trivial⟩⟩⟩) (xi_range1 rfl z_range (xva_cons (XE.toV (xe_blt call_len_seq cd_len rfl z_len bt_len (xva_cons (vV 0) xva_nil))) xva_nil)) (tame_n 0) (fun _ _ _ _ => ⟨(xg_name (i := 0) (show ((["k"] : List Str) ++ (["c", "counts", "there"] : List Str) : List Str).Nodup from by decide +kernel) rfl (Or.inl rfl)), xts_nil, (XE.toD (xe_add (XE.toV (xe_sub (XE.toV (xe_add (vV 1) (XE.toV (xe_ty call_int1 cd_int rfl z_int bt_int (xva_cons (XE.toV (xe_in (vV 0) (vV 3))) xva_nil))))) (XE.toV (xe_item (XE.toV (xe_item (vV 2) (vV 0))) (XD.toV xd_int))))) (XE.toV (xe_item (XE.toV (xe_item (vV 2) (vV 0))) (XD.toV xd_int)))))⟩)))))))
  exact h
def L1_law : FS := (sIf (tOrF (tNotF (tTru (vOf (fIsi .int (vOf (fVar 8)))))) (tTru (vOf (fIsi .bl (vOf (fVar 8)))))) (sRet (eOf (fC (.bl false)))) sNil)
def B_law : FS := (sSeq (sSet 1 (eOf (dOf (fCall m__law_size (aCons (dOf (fVar 0)) aNil)))))
    (sSeq (sSet 2 (eOf (dOf (fCall m__law_menu (aCons (dOf (fVar 0)) (aCons (dOf (fVar 1)) aNil))))))
    (sSeq (sSet 3 (eOf (dOf (fCall m__law_boxes (aCons (dOf (fVar 0)) (aCons (dOf (fVar 2)) aNil))))))
    (sSeq (sSet 4 (eOf (dOf (fCall m__law_cell (aCons (dOf (fVar 0)) (aCons (fC (.int 16)) aNil))))))
    (sSeq (sSet 5 (eOf (dOf (fOpE oSub (vOf (fOpE oMod (vOf (fOpE oDiv (vOf (fVar 4)) (fC (.int 2)))) (fC (.int 7)))) (fC (.int 3))))))
    (sSeq (sIf (tOf (fOpE (oEq false) (vOf (fOpE oMod (vOf (fVar 4)) (fC (.int 2)))) (fC (.int 1)))) (sSet 5 (eOf (dOf (fOpE oSub (vOf (fOpE oMod (vOf (fOpE oDiv (vOf (fVar 4)) (fC (.int 2)))) (vOf (fOpE oMul (fC (.int 2)) (vOf (fOpE oPow (fC (.int 10)) (fC (.int 20)))))))) (vOf (fOpE oPow (fC (.int 10)) (fC (.int 20)))))))) sNil)
    (sSeq (sSet 6 (eOf (dOf (fBlt bList (aCons (vOf (fVar 3)) aNil)))))
    (sSeq (sSet 7 (eOf (dOf (fCall m_ring_lacks (aCons (dOf (fVar 1)) (aCons (dOf (fOpE oIx (vOf (fVar 2)) (fC (.int 0)))) (aCons (dOf (fOpE oIx (vOf (fVar 2)) (fC (.int 1)))) (aCons (dOf (fVar 6)) (aCons (dOf (fVar 5)) aNil)))))))))
    (sSeq (sIf (tOrF (tOf (fOpE (oEq true) (vOf (fVar 6)) (vOf (fVar 3)))) (tNotF (tTru (vOf (fIsi .lst (vOf (fVar 7))))))) (sRet (eOf (fC (.bl false)))) sNil)
    (sSeq (sFor (iSeq (dOf (fVar 7))) (gN 8) L1_law)
    (sSeq (sSet 9 (eOf (dOf (fCall m__law_stops (aCons (dOf (fOpE oIx (vOf (fVar 2)) (fC (.int 0)))) (aCons (dOf (fOpE oIx (vOf (fVar 2)) (fC (.int 1)))) (aCons (dOf (fVar 3)) aNil)))))))
    (sRet (fOpE (oEq false) (vOf (fVar 7)) (vOf (fCall m__law_lacks (aCons (dOf (fVar 9)) (aCons (dOf (fOpE oIx (vOf (fVar 2)) (fC (.int 0)))) (aCons (dOf (fOpE oIx (vOf (fVar 2)) (fC (.int 1)))) (aCons (dOf (fVar 3)) (aCons (dOf (fVar 5)) aNil))))))))))))))))))))
def m_law : List D → Option O := mir 10 B_law
abbrev s_law : Stmt := top 31
theorem S_law : FnScope ["script", "size", "some", "boxes", "cell", "c", "handed", "found", "lack", "known"] ["script"] (defScope s_law) := ⟨rfl, rfl, rfl, by decide +kernel, rfl, by decide +kernel, by decide +kernel⟩
theorem ok_law {f__law_size : Addr} {d__law_size : FuncData} {f__law_menu : Addr} {d__law_menu : FuncData} {f__law_boxes : Addr} {d__law_boxes : FuncData} {f__law_cell : Addr} {d__law_cell : FuncData} {f_ring_lacks : Addr} {d_ring_lacks : FuncData} {f__law_stops : Addr} {d__law_stops : FuncData} {f__law_lacks : Addr} {d__law_lacks : FuncData}
    (F : Fun K "law" "law" s_law f fd)
    (c__law_size : Cal P w K mg base 2 f__law_size d__law_size "_law_size" ["script"] 1 m__law_size)
    (c__law_menu : Cal P w K mg base 2 f__law_menu d__law_menu "_law_menu" ["script", "size"] 2 m__law_menu)
    (c__law_boxes : Cal P w K mg base 2 f__law_boxes d__law_boxes "_law_boxes" ["script", "some"] 2 m__law_boxes)
    (c__law_cell : Cal P w K mg base 1 f__law_cell d__law_cell "_law_cell" ["script", "k"] 2 m__law_cell)
    (c_ring_lacks : Cal P w K mg base 7 f_ring_lacks d_ring_lacks "ring_lacks" ["size", "home", "last", "boxes", "c"] 5 m_ring_lacks)
    (c__law_stops : Cal P w K mg base 1 f__law_stops d__law_stops "_law_stops" ["home", "last", "boxes"] 3 m__law_stops)
    (c__law_lacks : Cal P w K mg base 3 f__law_lacks d__law_lacks "_law_lacks" ["some", "home", "last", "boxes", "c"] 5 m__law_lacks)
    (z_list : mg "list" = none)
    (z_isinstance : mg "isinstance" = none)
    (z_bool : mg "bool" = none)
    (z_int : mg "int" = none)
    (i_int : IsT K .int)
    (i_bool : IsT K .bl)
    (i_list : IsT K .lst) :
    FnOk P w K mg base CX0 8 f fd ["script"] (spD K 1 m_law) := by
  have h := fnD (P := P) (w := w) (mg := mg) (base := base) (k := 7) (body := B_law) F S_law (fun cdv A outer s H E hr =>
      (xss_cons (xs_set (i := 1) S_law.nd rfl (Or.inl rfl) (XD.toE (XE.toD (xc c__law_size hr (xa_cons (vD 0) xa_nil)))))
      (xss_cons (xs_set (i := 2) S_law.nd rfl (Or.inl rfl) (XD.toE (XE.toD (xc c__law_menu hr (xa_cons (vD 0) (xa_cons (vD 1) xa_nil))))))
      (xss_cons (xs_set (i := 3) S_law.nd rfl (Or.inl rfl) (XD.toE (XE.toD (xc c__law_boxes hr (xa_cons (vD 0) (xa_cons (vD 2) xa_nil))))))
      (xss_cons (xs_set (i := 4) S_law.nd rfl (Or.inl rfl) (XD.toE (XE.toD (xc c__law_cell hr (xa_cons (vD 0) (xa_cons xd_int xa_nil))))))
      (xss_cons (xs_set (i := 5) S_law.nd rfl (Or.inl rfl) (XD.toE (XE.toD (xe_sub (XE.toV (xe_mod (XE.toV (xe_fdiv (vV 4) (XD.toV xd_int))) (XD.toV xd_int))) (XD.toV xd_int)))))
      (xss_cons (xs_if (xt_eq hr.units (XE.toV (xe_mod (vV 4) (XD.toV xd_int))) (XD.toV xd_int)) (xss_one (xs_set (i := 5) S_law.nd rfl (Or.inl rfl) (XD.toE (XE.toD (xe_sub (XE.toV (xe_mod (XE.toV (xe_fdiv (vV 4) (XD.toV xd_int))) (XE.toV (xe_mul (XD.toV xd_int) (XE.toV (xe_pow (XD.toV xd_int) (XD.toV xd_int))))))) (XE.toV (xe_pow (XD.toV xd_int) (XD.toV xd_int)))))))) xss_nil)
      (xss_cons (xs_set (i := 6) S_law.nd rfl (Or.inl rfl) (XD.toE (XE.toD (xe_ty call_list_of cd_list rfl z_list bt_list (xva_cons (vV 3) xva_nil)))))
      (xss_cons (xs_set (i := 7) S_law.nd rfl (Or.inl rfl) (XD.toE (XE.toD (xc c_ring_lacks hr (xa_cons (vD 1) (xa_cons (XE.toD (xe_item (vV 2) (XD.toV xd_int))) (xa_cons (XE.toD (xe_item (vV 2) (XD.toV xd_int))) (xa_cons (vD 6) (xa_cons (vD 5) xa_nil)))))))))
      (xss_cons (xs_if (XW.toT (xw_or (xt_ne hr.units (vV 6) (vV 3)) (xw_or1 (xt_not (xt_val (XE.toV (xe_isi (vV 7) i_list rfl z_isinstance rfl z_list bt_list))))))) (xss_one (xs_ret (XD.toE xd_bl))) xss_nil)
      (xss_cons (xs_for PassesOwn.never rfl (xi_seq (vD 7)) (xg_name (i := 8) S_law.nd rfl (Or.inl rfl)) (xss_one (xs_if (XW.toT (xw_or (xt_not (xt_val (XE.toV (xe_isi (vV 8) i_int rfl z_isinstance rfl z_int bt_int)))) (xw_or1 (xt_val (XE.toV (xe_isi (vV 8) i_bool rfl z_isinstance rfl z_bool bt_bool)))))) (xss_one (xs_ret (XD.toE xd_bl))) xss_nil)))
      (xss_cons (xs_set (i := 9) S_law.nd rfl (Or.inl rfl) (XD.toE (XE.toD (xc c__law_stops hr (xa_cons (XE.toD (xe_item (vV 2) (XD.toV xd_int))) (xa_cons (XE.toD (xe_item (vV 2) (XD.toV xd_int))) (xa_cons (vD 3) xa_nil)))))))
      (xss_one (xs_ret (xe_eq hr.units (vV 7) (XE.toV (xc c__law_lacks hr (xa_cons (vD 9) (xa_cons (XE.toD (xe_item (vV 2) (XD.toV xd_int))) (xa_cons (XE.toD (xe_item (vV 2) (XD.toV xd_int))) (xa_cons (vD 3) (xa_cons (vD 5) xa_nil))))))))))))))))))))))
  exact h
end
local macro_rules | `(tactic| simp_arith [$xs,*]) => `(tactic| simp -implicitDefEqProofs only [e_sortk, e_idk', e_kys', e_wdrop, e_wd, e_wclr, e_wrev, e_wm, e_wzip, e_wz, e_wrem, e_wpop, e_wsort, e_wchk, e_wck, e_dnew, e_dnew1, e_dn1, e_dset, e_dget, e_dgr, e_dco, e_dcs, e_dhas, e_dht, e_dhn, e_dsort, e_dpop0, e_dsh, e_lset, e_aug, e_augi, e_irv, e_irl, e_max3, e_ien, e_enl, e_mir, e_om_rt, e_om_nx, e_seq, e_bs_nx, e_bs_rt, e_bs_bk, e_bs_ct, e_nil, e_brk, e_cnt, e_set, e_ss_sh, e_ss_fr, e_if, e_if_t, e_if_f, e_ret, e_rs_sh, e_rs_fr, e_retn, e_retv, e_rv_sh, e_rv_ow, e_app, e_as, e_ext, e_es_t, e_es_l, e_share, e_sh_ow, e_sh_sh, e_sh_no, e_for, e_fs, e_asg, e_ag, e_gn, e_gt, e_gc, e_g0, e_var, e_vr_sh, e_vr_ow, e_c, e_e, e_ed, e_d, e_dr_sh, e_dr_fr, e_v, e_vv_sh, e_vv_fr, e_vv_vw, e_op, e_o2, e_call, e_cl, e_or_sh, e_or_fr, e_ac, e_ca, e_an, e_lst, e_tup, e_mf, e_mt, e_blt, e_bl, e_slc, e_sl, e_po, e_pa, e_ap, e_ite, e_it_t, e_it_f, e_isi, e_isi_int, e_isi_bl, e_isi_non, e_isi_str, e_isi_lst, e_isi_tup, e_t, e_tr, e_tand, e_ta_t, e_ta_f, e_ta, e_ta2, e_tor, e_to_t, e_to_f, e_to, e_to2, e_tnot, e_tn, e_ttru, e_tt_bl, e_tt_int, e_tt_lst, e_tt_tup, e_tt_non, e_ttt, e_vand, e_va_t, e_va_f, e_va, e_va2, e_vor, e_vo_t, e_vo_f, e_vo, e_vo2, e_vnot, e_vn, e_iseq, e_is_l, e_is_t, e_rg1, e_rg2, e_comp, e_cp, e_neg, e_ng, e_len_l, e_len_t, e_len_s, e_list_l, e_list_t, e_tuple_l, e_tuple_t, e_ms, e_st_nx, e_st_ct, oEq_ii, oNe_ii, oEq_bb, oSub_ii, oLt_ii, oLe_ii, oGt_ii, oGe_ii, oAdd_ii, oIs_bb, oIsn_bb, oIs_n, oIsn_n, oIx_l, oIx_t, oIx_s, at0, at1, at2, oMod_ii, oDiv_ii, subT, entry, Option.bind_some, Option.map_some, List.length_cons, List.length_nil, List.length_map, List.map_cons, List.map_nil, List.cons_append, List.nil_append, List.replicate_succ, List.replicate_zero, List.set_cons_succ, List.set_cons_zero, List.getElem?_cons_succ, List.getElem?_cons_zero, Nat.reduceSub, Nat.reduceAdd, Nat.reduceLT, Int.reduceLT, Int.reduceLE, Int.reduceSub, Int.reduceAdd, Int.reduceMul, Int.reduceMod, Int.reduceDiv, Int.reduceNeg, Int.reducePow, Int.reduceBEq, Int.reduceToNat, ↓reduceIte, Bool.not_true, Bool.true_and, Bool.false_and, Bool.and_true, Bool.and_false, Bool.true_or, Bool.false_or, Bool.or_true, Bool.or_false, Bool.not_false, Nat.zero_add, beq_self_eq_true, Bool.false_eq_true, $xs,*])
def boxD (p : Int × Int) : D := .tup [.int p.1, .int p.2]
def wholeD : D → Bool
  | .int _ => true
  | _ => false
def nsD : D → Bool
  | .scr _ => false
  | .exc _ => false
  | .dic _ _ => false
  | _ => true
def noScr : D → Bool
  | .scr _ => false
  | .exc _ => false
  | .dic _ _ => false
  | .tup [a, b] => nsD a && nsD b
  | _ => true
def isBoxL : List D → Bool
  | [] => false
  | [_] => false
  | [a, b] => wholeD a && wholeD b
  | _ :: _ :: _ :: _ => false
def isBox : D → Bool
  | .tup ds => isBoxL ds
  | _ => false
theorem whole_at {d : D} (h : nsD d = true) : m_is_whole [d] = some (.sh (.bl (wholeD d))) := by
  cases d <;> first | rfl | cases h
theorem box_at {d : D} (h : noScr d = true) : m_is_box [d] = some (.sh (.bl (isBox d))) := by
  unfold m_is_box B_is_box
  match d, h with
  | .non, _ => rfl
  | .bl _, _ => rfl
  | .int _, _ => rfl
  | .str _, _ => rfl
  | .lst _, _ => rfl
  | .tup [], _ => rfl
  | .tup [_], _ => simp_arith [e_seq]; rfl
  | .tup [a, b], h =>
    have h' := Bool.and_eq_true_iff.mp (show (_ && _) = true from h)
    have ha := whole_at h'.1
    have hb := whole_at h'.2
    simp_arith [ha, hb]
    simp_arith [show (((0 + 1 + 1 : Nat) : Int) == 2) = true from rfl, ha, hb]
    cases a <;> cases b <;> rfl
  | .tup (a :: b :: c :: r), _ =>
    have hn : (((a :: b :: c :: r).length : Int) == 2) = false := by
      simp only [List.length_cons, beq_eq_false_iff_ne, ne_eq]; omega
    simp only [List.length_cons] at hn
    simp_arith [hn]
    rfl
theorem allB_map : ∀ (q : D → Bool) (ds : List D), allB (ds.map fun d => D.bl (q d)) = some (ds.all q)
  | _, [] => rfl
  | q, d :: ds => by
    show (allB (ds.map fun d => D.bl (q d))).map _ = _
    rw [allB_map q ds]; rfl
theorem errand_at {h l : D} {ds : List D} (hh : nsD h = true) (hl : nsD l = true) (hd : ∀ d ∈ ds, noScr d = true) (hlen : ds.length ≤ 1000000) :
    m_is_errand [h, l, .lst ds] = some (.sh (.bl (wholeD h && (wholeD l && ds.all isBox)))) := by
  unfold m_is_errand B_is_errand
  have e1 := whole_at hh
  have e2 := whole_at hl
  simp_arith [e1, e2, e_cp hlen]
  cases wholeD h <;> cases wholeD l <;> simp_arith [e2, e_cp hlen] <;> first | rfl | skip
  rw [compD_map (fun d => D.bl (isBox d))]
  · simp_arith [bAll, allB_map]
  · intro d hd'
    unfold E1_is_errand
    simp_arith [inW, box_at (hd d hd')]
def flat (bs : List (Int × Int)) : List Int := bs.flatMap fun p => [p.1, p.2]
def plc (h l : Int) (bs : List (Int × Int)) : List Int := h :: l :: flat bs
theorem flat_app (bs : List (Int × Int)) (p : Int × Int) : flat (bs ++ [p]) = flat bs ++ [p.1, p.2] := by simp [flat]
theorem flat_len (bs : List (Int × Int)) : (flat bs).length = 2 * bs.length := by
  induction bs with
  | nil => rfl
  | cons p r ih => simp [flat] at ih ⊢; omega
theorem plc_app (h l : Int) (bs : List (Int × Int)) (p : Int × Int) : plc h l (bs ++ [p]) = plc h l bs ++ [p.1, p.2] := by unfold plc; rw [flat_app]; rfl
theorem hints (x : Int) : nsD (.int x) = true := rfl
theorem box_isBox (p : Int × Int) : isBox (boxD p) = true := rfl
theorem boxes_all (bs : List (Int × Int)) : (bs.map boxD).all isBox = true := by
  rw [List.all_map]; exact List.all_eq_true.mpr fun p _ => box_isBox p
theorem errand_ok {h l : Int} {bs : List (Int × Int)} (hb : bs.length ≤ 1000) : m_is_errand [.int h, .int l, .lst (bs.map boxD)] = some (.sh (.bl true)) := by
  have := errand_at (h := .int h) (l := .int l) (ds := bs.map boxD) (hints h) (hints l) (fun d hd => by
    obtain ⟨p, _, rfl⟩ := List.mem_map.mp hd; rfl) (by rw [List.length_map]; omega)
  rw [boxes_all] at this
  exact this
theorem check_ok {h l : Int} {bs : List (Int × Int)} (hb : bs.length ≤ 1000) : m_check_errand [.int h, .int l, .lst (bs.map boxD)] = some (.sh .non) := by
  unfold m_check_errand B_check_errand
  simp_arith [errand_ok hb]
theorem stops_at {h l : Int} {bs : List (Int × Int)} (hb : bs.length ≤ 30) : m_stops [.int h, .int l, .lst (bs.map boxD)] = some (.fr ((sortU (plc h l bs)).map D.int)) := by
  unfold m_stops B_stops
  simp_arith [check_ok (show bs.length ≤ 1000 by omega)]
  obtain ⟨ω', e, x4, rfl⟩ := forD_map (g := gN 4) (b := L1_stops) boxD bs
    (fun pre ω => ∃ x4, ω = [some (.sh (.int h)), some (.sh (.int l)), some (.sh (.lst (bs.map boxD))), some (.ow ((plc h l pre).map D.int)), x4])
    (fun pre p post ω hd ⟨x4, hω⟩ => by
      subst hω
      refine ⟨_, rfl, ?_⟩
      unfold L1_stops
      have hl : (plc h l pre).length ≤ 1000 := by
        have := congrArg List.length hd
        rw [List.length_append, List.length_cons] at this
        show (flat pre).length + 1 + 1 ≤ 1000
        rw [flat_len]; omega
      have e1 := e_es_t (i := 3) (ω := [some (.sh (.int h)), some (.sh (.int l)), some (.sh (.lst (bs.map boxD))), some (.ow ((plc h l pre).map D.int)), some (.sh (boxD p))]) (ds := (plc h l pre).map D.int) (ds' := [.int p.1, .int p.2]) (by rw [List.length_map, List.length_cons, List.length_singleton]; omega)
      simp_arith [e_seq]
      show stepS (extS 3 _ (some (boxD p)) _) _
      rw [show boxD p = D.tup [.int p.1, .int p.2] from rfl] at e1 ⊢
      rw [e1, plc_app, List.map_append]
      exact ⟨_, rfl⟩)
    (ω := [some (.sh (.int h)), some (.sh (.int l)), some (.sh (.lst (bs.map boxD))), some (.ow [.int h, .int l]), none]) ⟨none, rfl⟩
  simp_arith [e]
  have hlen : (plc h l bs).length < 64 := by
    show (flat bs).length + 1 + 1 < 64
    rw [flat_len]; omega
  have : fSortSet (vOf (fVar 3)) [some (.sh (.int h)), some (.sh (.int l)), some (.sh (.lst (bs.map boxD))), some (.ow ((plc h l bs).map D.int)), x4] = some (.fr ((sortU (plc h l bs)).map D.int)) := by
    show oSortSet (.lst ((plc h l bs).map D.int)) = _
    show (intsOf ((plc h l bs).map D.int)).bind _ = _
    rw [intsOf_map]
    exact if_pos hlen
  simp_arith [this]
theorem zip_boxes : ∀ (xs ys : List Int), List.zipWith pairD (xs.map D.int) (ys.map D.int) = (xs.zip ys).map boxD
  | [], _ => rfl
  | _ :: _, [] => rfl
  | x :: xs, y :: ys => by
    show _ :: List.zipWith pairD (xs.map D.int) (ys.map D.int) = _ :: (xs.zip ys).map boxD
    rw [zip_boxes xs ys]; rfl
theorem cut_tail (ds : List D) : cutD ds (some 1) none = ds.drop 1 := by
  unfold cutD
  have e : HT.sIx ds.length 0 (some 1) = min 1 ds.length := HT.sIx_nat ds.length 0 1
  rw [e, HT.sIx_none]
  cases ds with
  | nil => rfl
  | cons d r =>
    have : min 1 (d :: r).length = 1 := by rw [List.length_cons]; omega
    rw [this]
    show List.take _ r = r
    rw [List.length_cons, Nat.add_sub_cancel, List.take_length]
structure Stp (P : List Int) : Prop where
  ne : P ≠ []
  rise : P.Pairwise (· < ·)
  len : P.length ≤ 1000
theorem stp (h l : Int) {bs : List (Int × Int)} (hb : bs.length ≤ 30) : Stp (sortU (plc h l bs)) := by
  refine ⟨fun e => ?_, rise_sortU, ?_⟩
  · have : h ∈ sortU (plc h l bs) := mem_sortU.mpr (by simp [plc])
    rw [e] at this; simp at this
  · have : (sortU (plc h l bs)).length ≤ (plc h l bs).length := sortU_len _
    have h2 : (plc h l bs).length = 2 * bs.length + 2 := by show (flat bs).length + 1 + 1 = _; rw [flat_len]
    omega
theorem Stp.lt {P : List Int} (S : Stp P) {i j : Nat} (hi : i < P.length) (hj : j < P.length) (h : i < j) : P[i] < P[j] := List.pairwise_iff_getElem.mp S.rise i j hi hj h
theorem Stp.le {P : List Int} (S : Stp P) {i j : Nat} (hi : i < P.length) (hj : j < P.length) (h : i ≤ j) : P[i] ≤ P[j] := by
  rcases Nat.lt_or_ge i j with z | z
  · exact Int.le_of_lt (S.lt hi hj z)
  · have : i = j := by omega
    subst this; exact Int.le_refl _
theorem Stp.pos {P : List Int} (S : Stp P) : 0 < P.length := List.length_pos_iff.mpr S.ne
theorem Stp.amid {P : List Int} (S : Stp P) {i : Nat} (h : i + 1 < P.length) {x : Int} (hx : x ∈ P) : x ≤ P[i] ∨ P[i + 1] ≤ x := by
  obtain ⟨j, hj, rfl⟩ := List.mem_iff_getElem.mp hx
  rcases Nat.lt_or_ge i j with z | z
  · right; exact S.le h hj z
  · left; exact S.le hj (by omega) z
theorem Stp.max {P : List Int} (S : Stp P) : maxL P = P[P.length - 1]'(by have := S.pos; omega) := by
  obtain ⟨m1, m2⟩ := maxL_ok S.ne
  apply Int.le_antisymm
  · obtain ⟨j, hj, e⟩ := List.mem_iff_getElem.mp m1
    rw [← e]; exact S.le hj _ (by omega)
  · exact m2 _ (List.getElem_mem _)
theorem Stp.min {P : List Int} (S : Stp P) : minL P = P[0]'S.pos := by
  obtain ⟨m1, m2⟩ := minL_ok S.ne
  apply Int.le_antisymm
  · exact m2 _ (List.getElem_mem _)
  · obtain ⟨j, hj, e⟩ := List.mem_iff_getElem.mp m1
    rw [← e]; exact S.le _ hj (by omega)
theorem compD_relA {α : Type} {g : FG} {c : FT} {f : FD} (P : WSt → Prop) (q : α → Bool) (B F : α → D) : ∀ (xs : List α) {ω : WSt}, P ω →
    (∀ x ∈ xs, ∀ ω, P ω → ∃ w, g (B x) ω = some w ∧ P w ∧ c w = some (q x) ∧ (q x = true → f w = some (F x))) → compD g c f (xs.map B) ω = some ((xs.filter q).map F)
  | [], _, _, _ => rfl
  | x :: xs, ω, h, t => by
    obtain ⟨w, h1, h2, h3, h4⟩ := t x List.mem_cons_self ω h
    have ih := compD_relA P q B F xs h2 (fun e he => t e (List.mem_cons_of_mem _ he))
    rw [List.map_cons, compD, h1, Option.bind_some, h3, Option.bind_some]
    cases hq : q x with
    | true => rw [if_pos rfl, h4 hq, Option.bind_some, ih, List.filter_cons_of_pos hq]; rfl
    | false => rw [if_neg (by decide), ih, List.filter_cons_of_neg (by rw [hq]; decide)]
theorem compD_filA {α : Type} {i : Nat} {c : FT} {f : FD} (q : α → Bool) (B F : α → D) (xs : List α) {ω : WSt} (h : ∀ x ∈ xs, c (ω.set i (some (.sh (B x)))) = some (q x) ∧ (q x = true → f (ω.set i (some (.sh (B x)))) = some (F x))) : compD (gN i) c f (xs.map B) ω = some ((xs.filter q).map F) :=
  compD_relA (g := gN i) (c := c) (f := f) (fun w => ∀ x, w.set i x = ω.set i x) q B F xs (ω := ω) (fun x => rfl) fun d hd w hw =>
    ⟨w.set i (some (.sh (B d))), rfl, fun x => by rw [List.set_set, hw], by rw [hw]; exact (h d hd).1, fun z => by rw [hw]; exact (h d hd).2 z⟩
theorem compD_mapA {α : Type} {i : Nat} {f : FD} (B F : α → D) (xs : List α) {ω : WSt} (h : ∀ x ∈ xs, f (ω.set i (some (.sh (B x)))) = some (F x)) : compD (gN i) tTrue f (xs.map B) ω = some (xs.map F) := by
  have := compD_filA (c := tTrue) (i := i) (f := f) (fun _ => true) B F xs (ω := ω) fun x hx => ⟨rfl, fun _ => h x hx⟩
  rw [this, List.filter_eq_self.mpr (fun _ _ => rfl)]
theorem lcell_at {ns : List Int} {k : Int} (h : 0 ≤ k) : m__law_cell [.scr ns, .int k] = some (.sh (.int (ns.getD k.toNat 0))) := by
  unfold m__law_cell B__law_cell
  by_cases hk : k < ns.length
  · simp_arith [hk, decide_true, atI_nn h hk]
    simp [List.getD_eq_getElem?_getD, List.getElem?_eq_getElem (show k.toNat < ns.length by omega)]
  · simp_arith [hk, decide_false]
    simp [List.getD_eq_getElem?_getD, List.getElem?_eq_none (show ns.length ≤ k.toNat by omega)]
theorem at_all {ds : List D} {i : Int} (P : D → Prop) (h0 : 0 ≤ i) (h1 : i < ds.length) (h : ∀ d ∈ ds, P d) : ∃ d, atI ds i = some d ∧ P d :=
  ⟨_, atI_nn h0 h1, h _ (List.getElem_mem _)⟩
def tri (x : Int × Int × Int) : D := .tup [.int x.1, .int x.2.1, .int x.2.2]
theorem size_at {ns : List Int} : ∃ n : Int, m__law_size [.scr ns] = some (.sh (.int n)) ∧ 1 ≤ n ∧ n ≤ 10 ^ 39 := by
  unfold m__law_size B__law_size
  have hc := lcell_at (ns := ns) (k := 0) (by decide)
  generalize ns.getD (Int.toNat 0) 0 = c at hc
  have p39 : oPow (.int 10) (.int 39) = some (.sh (.int (10 ^ 39))) := rfl
  have md : ∀ x, oMod (.int x) (.int (10 ^ 39)) = some (.sh (.int (x % 10 ^ 39))) := fun x => oMod_ii (by decide)
  simp only [Int.reducePow] at p39 md ⊢
  obtain ⟨d, hd, n, rfl, hn⟩ := at_all (ds := [.int (1 + c / 4 % 12), .int (1 + c / 4 % 100), .int (1 + c / 4 % 1000000000000000000000000000000000000000), .int 24]) (i := c % 4) (fun d => ∃ n : Int, d = D.int n ∧ 1 ≤ n ∧ n ≤ 1000000000000000000000000000000000000000) (by omega) (show c % 4 < 4 by omega) (by
    intro d hd
    simp only [List.mem_cons, List.not_mem_nil, or_false] at hd
    rcases hd with rfl | rfl | rfl | rfl
    · exact ⟨_, rfl, by omega, by omega⟩
    · exact ⟨_, rfl, by omega, by omega⟩
    · exact ⟨_, rfl, by omega, by omega⟩
    · exact ⟨_, rfl, by decide, by decide⟩)
  simp_arith [hc, p39, md, hd]
  exact ⟨n, rfl, hn⟩
theorem rmenu_at {ns : List Int} {n : Int} (hn : 1 ≤ n) : ∃ ps : List Int, m__law_menu [.scr ns, .int n] = some (.fr (ps.map D.int)) ∧ ps.length = 7 ∧ ∀ p ∈ ps, 0 ≤ p ∧ p < n := by
  unfold m__law_menu B__law_menu
  have rg : rg1I (some [.int 7]) = some (upTo 0 7) := rfl
  obtain ⟨ω', e, ps, y3, y4, rfl, i1, i2⟩ := forD_upTo (g := gN 3) (b := L1__law_menu) 0 7
    (fun i ω => ∃ (ps : List Int) (y3 y4 : Option W), ω = [some (.sh (.scr ns)), some (.sh (.int n)), some (.ow (ps.map D.int)), y3, y4] ∧ ps.length = i ∧ ∀ p ∈ ps, 0 ≤ p ∧ p < n)
    (fun i ω hi ⟨ps, y3, y4, hω, i1, i2⟩ => by
      subst hω
      refine ⟨_, rfl, ?_⟩
      have hc := lcell_at (ns := ns) (k := 2 + (0 + (i : Int))) (by omega)
      generalize ns.getD (2 + (0 + (i : Int))).toNat 0 = c at hc
      obtain ⟨d, hd, q, rfl⟩ := at_all (ds := [.int (0 + (i : Int) + c / 3), .int (c / 3), .int (-1 - c / 3)]) (i := c % 3) (fun d => ∃ q : Int, d = D.int q) (by omega) (show c % 3 < 3 by omega) (by
        intro d hd
        simp only [List.mem_cons, List.not_mem_nil, or_false] at hd
        rcases hd with rfl | rfl | rfl <;> exact ⟨_, rfl⟩)
      have md : oMod (.int q) (.int n) = some (.sh (.int (q % n))) := oMod_ii (by omega)
      have hll : (ps.map D.int).length < 1000000 := by rw [List.length_map]; omega
      unfold L1__law_menu
      simp_arith [hc, hd, md]
      rw [e_as hll, e_st_nx]
      refine ⟨ps ++ [q % n], _, _, by rw [List.map_append]; rfl, by rw [List.length_append, i1]; rfl, fun p hp => ?_⟩
      rcases List.mem_append.mp hp with y | y
      · exact i2 p y
      · cases List.mem_singleton.mp y
        exact ⟨Int.emod_nonneg _ (by omega), Int.emod_lt_of_pos _ (by omega)⟩)
    (ω := [some (.sh (.scr ns)), some (.sh (.int n)), some (.ow []), none, none]) ⟨[], none, none, rfl, rfl, by simp⟩
  have hc := lcell_at (ns := ns) (k := 1) (by decide)
  generalize ns.getD (Int.toNat 1) 0 = c at hc
  match ps, i1, i2, e with
  | p0 :: p1 :: r, i1, i2, e =>
    by_cases z : c / 28 % 3 = 1
    · simp_arith [rg, e, hc, z]
      refine ⟨p0 :: p0 :: r, ?_, i1, fun p hp => ?_⟩
      · rw [lset_ok (by decide) (by simp; omega)]
        rfl
      · rcases List.mem_cons.mp hp with rfl | hp
        · exact i2 _ List.mem_cons_self
        · rcases List.mem_cons.mp hp with rfl | hp
          · exact i2 _ List.mem_cons_self
          · exact i2 p (by simp [hp])
    · have z' : (c / 28 % 3 == 1) = false := by simpa using z
      simp_arith [rg, e, hc, z']
      exact ⟨p0 :: p1 :: r, rfl, i1, i2⟩
theorem pick7 {xs : List Int} (h7 : xs.length = 7) (x : Int) : ∃ y, y ∈ xs ∧ atI (xs.map D.int) (x % 7) = some (.int y) := by
  refine ⟨xs[(x % 7).toNat]'(by omega), List.getElem_mem _, ?_⟩
  rw [atI_nn (by omega) (by rw [List.length_map]; omega), List.getElem_map]
theorem rboxes_at {ns ps : List Int} (h7 : ps.length = 7) (hl : ns.length ≤ 63) : ∃ bs : List (Int × Int × Int), m__law_boxes [.scr ns, .lst (ps.map D.int)] = some (.fr (bs.map tri)) ∧ (∀ b ∈ bs, b.1 ∈ ps ∧ b.2.1 ∈ ps ∧ (b.2.2 = 1 ∨ b.2.2 = -1)) ∧ bs.length ≤ 5 := by
  unfold m__law_boxes B__law_boxes
  have hc := lcell_at (ns := ns) (k := 1) (by decide)
  generalize ns.getD (Int.toNat 1) 0 = c at hc
  obtain ⟨d, hd, k, rfl, hk⟩ := at_all (ds := [.int 5, .int 5, .int (c / 4 % 6), .int (c / 4 % 3)]) (i := c % 4) (fun d => ∃ k : Nat, d = D.int (k : Int) ∧ k ≤ 5) (by omega) (show c % 4 < 4 by omega) (by
    intro d hd
    simp only [List.mem_cons, List.not_mem_nil, or_false] at hd
    rcases hd with rfl | rfl | rfl | rfl
    · exact ⟨5, rfl, by decide⟩
    · exact ⟨5, rfl, by decide⟩
    · exact ⟨(c / 4 % 6).toNat, by rw [Int.toNat_of_nonneg (by omega)], by omega⟩
    · exact ⟨(c / 4 % 3).toNat, by rw [Int.toNat_of_nonneg (by omega)], by omega⟩)
  simp_arith [hc, hd, oSl_s]
  have hcl : (cutD ns (some 9) (some (9 + (k : Int)))).length ≤ 5 := by
    have e1 : HT.sIx ns.length 0 (some 9) = min 9 ns.length := HT.sIx_nat ns.length 0 9
    have e2 : HT.sIx ns.length ns.length (some (9 + (k : Int))) = min (9 + k) ns.length := by
      have := HT.sIx_nat ns.length ns.length (9 + k)
      rw [show ((9 + k : Nat) : Int) = 9 + (k : Int) by omega] at this
      exact this
    unfold cutD
    rw [e1, e2, List.length_take]
    omega
  generalize cutD ns (some 9) (some (9 + (k : Int))) = cells at hcl
  obtain ⟨ω', e, bs, x5, rfl, i1, i2⟩ := forD_map (g := gN 5) (b := L1__law_boxes) D.int cells
    (fun pre ω => ∃ (bs : List (Int × Int × Int)) (x5 : Option W), ω = [some (.sh (.scr ns)), some (.sh (.lst (ps.map D.int))), some (.sh (.int c)), some (.sh (.int (k : Int))), some (.ow (bs.map tri)), x5] ∧ (∀ b ∈ bs, b.1 ∈ ps ∧ b.2.1 ∈ ps ∧ (b.2.2 = 1 ∨ b.2.2 = -1)) ∧ bs.length = pre.length)
    (fun pre x post ω hd' ⟨bs, x5, hω, i1, i2⟩ => by
      subst hω
      refine ⟨_, rfl, ?_⟩
      have hp : pre.length < cells.length := by rw [hd', List.length_append, List.length_cons]; omega
      obtain ⟨y1, m1, a1⟩ := pick7 h7 (x / 2)
      obtain ⟨y2, m2, a2⟩ := pick7 h7 (x / 14)
      obtain ⟨d, hd, q, rfl, hq⟩ := at_all (ds := [.int 1, .int (-1)]) (i := x % 2) (fun d => ∃ q : Int, d = D.int q ∧ (q = 1 ∨ q = -1)) (by omega) (show x % 2 < 2 by omega) (by
        intro d hd
        simp only [List.mem_cons, List.not_mem_nil, or_false] at hd
        rcases hd with rfl | rfl
        · exact ⟨_, rfl, .inl rfl⟩
        · exact ⟨_, rfl, .inr rfl⟩)
      have hll : (bs.map tri).length < 1000000 := by rw [List.length_map]; omega
      unfold L1__law_boxes
      simp_arith [a1, a2, hd, e_as hll]
      refine ⟨bs ++ [(y1, y2, q)], _, by rw [List.map_append]; rfl, fun b hb => ?_, by rw [List.length_append, List.length_append, i2]; rfl⟩
      rcases List.mem_append.mp hb with y | y
      · exact i1 b y
      · cases List.mem_singleton.mp y; exact ⟨m1, m2, hq⟩)
    (ω := [some (.sh (.scr ns)), some (.sh (.lst (ps.map D.int))), some (.sh (.int c)), some (.sh (.int (k : Int))), some (.ow []), none]) ⟨[], none, rfl, by simp, rfl⟩
  simp_arith [e]
  exact ⟨bs, rfl, i1, by omega⟩
def wD : D → Bool
  | .int _ => true
  | _ => false
def plD : D → Bool
  | .scr _ => false
  | .exc _ => false
  | .dic _ _ => false
  | _ => true
def smD : D → Bool
  | .int w => decide (w.natAbs < 2 ^ 200)
  | d => plD d
def plB : D → Bool
  | .tup ds => ds.all smD
  | d => plD d
def plL : D → Bool
  | .lst ds => ds.all plB && decide (ds.length ≤ 20)
  | d => plD d
def inD (n : Int) : D → Bool
  | .int x => decide (0 ≤ x) && decide (x < n)
  | _ => false
def wayD : D → Bool
  | .int w => w == 1 || w == -1
  | _ => false
def isRB (n : Int) : D → Bool
  | .tup [x, y, w] => inD n x && (inD n y && wayD w)
  | _ => false
def isRd : D → D → D → D → Bool
  | .int n, h, l, .lst ds => inD n h && (inD n l && ds.all (isRB n))
  | _, _, _, _ => false
theorem sm_pl {d : D} (h : smD d = true) : plD d = true := by cases d <;> first | rfl | cases h
theorem rwhole_at {d : D} (h : plD d = true) : m_is_whole [d] = some (.sh (.bl (wD d))) := by
  cases d <;> first | rfl | cases h
theorem rway_in (w : Int) : oIn false (.int w) (.tup [.int 1, .int (-1)]) = some (.sh (.bl (w == 1 || w == -1))) := by
  have e := inV_ints w [1, -1]
  have h : (flatD (.int w) && ([1, -1].map D.int).all flatD) = true := rfl
  show (if (flatD (.int w) && ([1, -1].map D.int).all flatD) = true then some (R.sh (D.bl (Hk.inD (.int w) ([1, -1].map D.int)))) else none) = _
  rw [if_pos h, e]
  congr 3
  by_cases a : w = 1 <;> by_cases b : w = -1 <;> simp [a, b]
theorem rway_at {d : D} (h : plD d = true) : m_is_way [d] = some (.sh (.bl (wayD d))) := by
  unfold m_is_way B_is_way
  have e := rwhole_at h
  cases d with
  | int w => simp_arith [e, wD, rway_in, wayD]
  | _ => first | (simp_arith [e, wD, wayD]; done) | cases h
theorem rplace_at {n : Int} {d : D} (h : plD d = true) : m_has_place [.int n, d] = some (.sh (.bl (inD n d))) := by
  unfold m_has_place B_has_place
  have e := rwhole_at h
  cases d with
  | int x =>
    simp_arith [e, wD, inD, ge_iff_le]
  | _ => first | (simp_arith [e, wD, inD]; done) | cases h
theorem rbx_at {n : Int} {d : D} (h : plB d = true) : m_is_ring_box [.int n, d] = some (.sh (.bl (isRB n d))) := by
  unfold m_is_ring_box B_is_ring_box
  match d, h with
  | .non, _ => rfl
  | .bl _, _ => rfl
  | .int _, _ => rfl
  | .str _, _ => rfl
  | .lst _, _ => rfl
  | .tup [], _ => rfl
  | .tup [_], _ => rfl
  | .tup [_, _], _ => rfl
  | .tup (a :: b :: c :: e :: r), _ =>
    have hn : (((a :: b :: c :: e :: r).length : Int) == 3) = false := by
      simp only [List.length_cons, beq_eq_false_iff_ne, ne_eq]; omega
    simp only [List.length_cons] at hn
    simp_arith [hn]
    rfl
  | .tup [a, b, c], h =>
    have h' : smD a = true ∧ smD b = true ∧ smD c = true := by simpa [plB] using h
    have e1 := rplace_at (n := n) (sm_pl h'.1)
    have e2 := rplace_at (n := n) (sm_pl h'.2.1)
    have e3 := rway_at (sm_pl h'.2.2)
    have e4 : (((0 + 1 + 1 + 1 : Nat) : Int) == 3) = true := rfl
    simp_arith [e1, e2, e3]
    simp_arith [e4, e1, e2, e3]
    show _ = some (O.sh (D.bl (inD n a && (inD n b && wayD c))))
    cases inD n a <;> cases inD n b <;> simp_arith [e_seq]
theorem isring_at (n h l b : D) (hn : plD n = true) (hh : plD h = true) (hl : plD l = true) (hb : plL b = true) : m_is_ring [n, h, l, b] = some (.sh (.bl (isRd n h l b))) := by
  unfold m_is_ring B_is_ring
  have e1 := rwhole_at hn
  cases n with
  | int n =>
    have e2 := rplace_at (n := n) hh
    have e3 := rplace_at (n := n) hl
    have no : ∀ {b : D}, (inD n h = false ∨ inD n l = false) → isRd (.int n) h l b = false := by
      intro b z
      cases b with
      | lst ds =>
        show (inD n h && (inD n l && ds.all (isRB n))) = false
        rcases z with z | z <;> rw [z]
        · rfl
        · cases inD n h <;> rfl
      | _ => rfl
    cases z1 : inD n h with
    | false => simp_arith [e1, wD, e2, z1, no (.inl z1)]
    | true =>
      cases z2 : inD n l with
      | false => simp_arith [e1, wD, e2, e3, z1, z2, no (.inr z2)]
      | true =>
        cases b with
        | lst ds =>
          have hb' : ds.all plB = true ∧ ds.length ≤ 20 := by simpa [plL] using hb
          have hll : ds.length ≤ 1000000 := by omega
          have cm : compD (gN 0) tTrue E1_is_ring ds [none, some (.sh (.int n))] = some (ds.map fun d => D.bl (isRB n d)) := by
            refine compD_map (fun d => D.bl (isRB n d)) ds fun d hd => ?_
            have := rbx_at (n := n) (List.all_eq_true.mp hb'.1 d hd)
            unfold E1_is_ring
            simp_arith [this]
          simp_arith [e1, wD, e2, e3, z1, z2, e_cp hll, inW, shOf, cm, bAll, allB_map]
          show _ = some (O.sh (D.bl (inD n h && (inD n l && ds.all (isRB n)))))
          rw [z1, z2]; rfl
        | _ => first | (simp_arith [e1, wD, e2, e3, z1, z2, isRd]; done) | cases hb
  | _ => first | (simp_arith [e1, wD, isRd]; done) | cases hn
theorem tris_shp (bs : List (Int × Int × Int)) : shp (.lst (bs.map tri)) = true := shp_lst 2 (by decide) fun d hd => by
  obtain ⟨p, _, rfl⟩ := List.mem_map.mp hd; exact ⟨rfl, by show 1 ≤ 2; decide⟩
theorem rcheck_at {n h l : Int} {bs : List (Int × Int × Int)} (hn : n ≤ 10 ^ 39) (hh : 0 ≤ h ∧ h < n) (hl : 0 ≤ l ∧ l < n) (hb : bs.length ≤ 20) (hbs : ∀ b ∈ bs, (0 ≤ b.1 ∧ b.1 < n) ∧ (0 ≤ b.2.1 ∧ b.2.1 < n) ∧ (b.2.2 = 1 ∨ b.2.2 = -1)) :
    m_check_ring [.int n, .int h, .int l, .lst (bs.map tri)] = some (.sh .non) := by
  have smD' : ∀ {x : Int}, x.natAbs ≤ 10 ^ 39 → smD (.int x) = true := fun {x} hx => by
    show decide (x.natAbs < 2 ^ 200) = true
    exact decide_eq_true (Nat.lt_of_le_of_lt hx (by decide))
  have pb : (bs.map tri).all plB = true := by
    rw [List.all_map]
    refine List.all_eq_true.mpr fun b hb => ?_
    obtain ⟨a1, a2, a3⟩ := hbs b hb
    show (smD (.int b.1) && (smD (.int b.2.1) && (smD (.int b.2.2) && true))) = true
    rw [smD' (by omega), smD' (by omega), smD' (by omega)]; rfl
  have pL : plL (.lst (bs.map tri)) = true := by
    show ((bs.map tri).all plB && decide ((bs.map tri).length ≤ 20)) = true
    rw [pb, List.length_map]; simp; omega
  have e := isring_at (.int n) (.int h) (.int l) (.lst (bs.map tri)) rfl rfl rfl pL
  have ok : isRd (.int n) (.int h) (.int l) (.lst (bs.map tri)) = true := by
    show (inD n (.int h) && (inD n (.int l) && (bs.map tri).all (isRB n))) = true
    have i1 : ∀ {x : Int}, 0 ≤ x ∧ x < n → inD n (.int x) = true := fun {x} hx => by
      show (decide (0 ≤ x) && decide (x < n)) = true
      simp; exact hx
    rw [i1 hh, i1 hl, List.all_map]
    show bs.all _ = true
    refine List.all_eq_true.mpr fun b hb => ?_
    obtain ⟨a1, a2, a3⟩ := hbs b hb
    show (inD n (.int b.1) && (inD n (.int b.2.1) && wayD (.int b.2.2))) = true
    rw [i1 a1, i1 a2]
    show (b.2.2 == 1 || b.2.2 == -1) = true
    rcases a3 with z | z <;> rw [z] <;> rfl
  rw [ok] at e
  unfold m_check_ring B_check_ring
  simp_arith [e]
def two (b : Int × Int × Int) : Int × Int := (b.1, b.2.1)
theorem ways_off {bs : List (Int × Int × Int)} (hb : bs.length ≤ 20) : m_without_ways [.lst (bs.map tri)] = some (.fr ((bs.map two).map boxD)) := by
  unfold m_without_ways B_without_ways
  have hl : (bs.map tri).length ≤ 1000000 := by rw [List.length_map]; omega
  have cm := compD_mapA (i := 0) (f := E1_without_ways) tri (fun b => boxD (two b)) bs (ω := [none]) (fun b _ => rfl)
  simp_arith [e_cp hl, inW, shOf, cm]
  rw [List.map_map]; rfl
def rnd (P : List Int) : List (Int × Int) := P.zip (P.drop 1 ++ P.take 1)
theorem cut_one (ds : List D) : cutD ds none (some 1) = ds.take 1 := by
  unfold cutD
  have e : HT.sIx ds.length ds.length (some 1) = min 1 ds.length := HT.sIx_nat ds.length ds.length 1
  rw [e, HT.sIx_none, Nat.sub_zero, List.drop_zero, List.take_eq_take_iff]
  omega
theorem rgaps_at {n h l : Int} {bs : List (Int × Int × Int)} (hn : n ≤ 10 ^ 39) (hh : 0 ≤ h ∧ h < n) (hl : 0 ≤ l ∧ l < n) (hb : bs.length ≤ 20) (hbs : ∀ b ∈ bs, (0 ≤ b.1 ∧ b.1 < n) ∧ (0 ≤ b.2.1 ∧ b.2.1 < n) ∧ (b.2.2 = 1 ∨ b.2.2 = -1)) :
    m_ring_gaps [.int n, .int h, .int l, .lst (bs.map tri)] = some (.fr ((rnd (sortU (plc h l (bs.map two)))).map boxD)) := by
  unfold m_ring_gaps B_ring_gaps
  have c := rcheck_at hn hh hl hb hbs
  have w := ways_off hb
  have s := stops_at (h := h) (l := l) (bs := bs.map two) (by rw [List.length_map]; omega)
  have sl : (sortU (plc h l (bs.map two))).length ≤ 1000 := (stp h l (bs := bs.map two) (by rw [List.length_map]; omega)).len
  generalize sortU (plc h l (bs.map two)) = P at s sl
  have ad : oAdd (.lst (cutD (P.map D.int) (some 1) none)) (.lst (cutD (P.map D.int) none (some 1))) = some (.fr ((P.drop 1 ++ P.take 1).map D.int)) := by
    rw [cut_tail, cut_one, ← List.map_drop, ← List.map_take, List.map_append]
    exact if_pos (by rw [List.length_map, List.length_map, List.length_drop, List.length_take]; omega)
  have hz : bListZip [.lst (P.map D.int), .lst ((P.drop 1 ++ P.take 1).map D.int)] = some (.fr ((rnd P).map boxD)) := by
    show some (R.fr (List.zipWith pairD _ _)) = _
    rw [zip_boxes]; rfl
  simp_arith [c, w, s, oSl_l, ad, hz]
theorem posN_mem {s : Int} : ∀ {P : List Int}, s ∈ P → ∃ i, posN s P = some i ∧ P[i]? = some s
  | a :: r, h => by
    unfold posN
    by_cases z : a = s
    · exact ⟨0, if_pos z, by rw [z]; rfl⟩
    · obtain ⟨i, h1, h2⟩ := posN_mem ((List.mem_cons.mp h).resolve_left fun e => z e.symm)
      exact ⟨i + 1, by rw [if_neg z, h1]; rfl, h2⟩
def posW (N i t : Nat) : Nat := if i + t < N then i + t else i + t - N
def dstW (N i k : Nat) : Nat := if i ≤ k then k - i else k + N - i
def goN (n s g x : Int) : Bool := decide ((x - s) % n < (g - s) % n)
theorem emod_sub {n x s : Int} (hx : 0 ≤ x ∧ x < n) (hs : 0 ≤ s ∧ s < n) : (x - s) % n = if s ≤ x then x - s else x - s + n := by
  by_cases z : s ≤ x
  · rw [if_pos z]; exact Int.emod_eq_of_lt (by omega) (by omega)
  · have e : (x - s + n) % n = (x - s) % n := by simp
    rw [if_neg z, ← e]
    exact Int.emod_eq_of_lt (by omega) (by omega)
theorem goN_dst {P : List Int} (hP : P.Pairwise (· < ·)) {n : Int} (hn : ∀ p ∈ P, 0 ≤ p ∧ p < n) {i j k : Nat} (hi : i < P.length) (hj : j < P.length) (hk : k < P.length) : goN n P[i] P[j] P[k] = decide (dstW P.length i k < dstW P.length i j) := by
  have get : ∀ {a b : Nat} (ha : a < P.length) (hb : b < P.length), a < b → P[a] < P[b] := fun ha hb h => List.pairwise_iff_getElem.mp hP _ _ ha hb h
  have cmp : ∀ {a b : Nat} (ha : a < P.length) (hb : b < P.length), (a ≤ b → P[a] ≤ P[b]) ∧ (P[a] ≤ P[b] → a ≤ b) := fun {a b} ha hb => by
    rcases Nat.lt_trichotomy a b with z | z | z
    · exact ⟨fun _ => Int.le_of_lt (get ha hb z), fun _ => Nat.le_of_lt z⟩
    · subst z; exact ⟨fun _ => Int.le_refl _, fun _ => Nat.le_refl _⟩
    · have := get hb ha z
      exact ⟨fun _ => by omega, fun _ => by omega⟩
  have mi := hn _ (List.getElem_mem hi)
  have mj := hn _ (List.getElem_mem hj)
  have mk := hn _ (List.getElem_mem hk)
  have c1 := cmp hi hk
  have c2 := cmp hi hj
  have c3 := cmp hj hk
  unfold goN dstW
  rw [emod_sub mk mi, emod_sub mj mi]
  refine decide_eq_decide.mpr ?_
  by_cases z1 : i ≤ k
  · rw [if_pos z1, if_pos (c1.1 z1)]
    by_cases z2 : i ≤ j
    · rw [if_pos z2, if_pos (c2.1 z2)]
      constructor
      · intro h
        have : ¬ j ≤ k := fun y => by have := c3.1 y; omega
        omega
      · intro h
        have : ¬ P[j] ≤ P[k] := fun y => by have := c3.2 y; omega
        omega
    · rw [if_neg z2, if_neg fun y => z2 (c2.2 y)]
      exact ⟨fun _ => by omega, fun _ => by omega⟩
  · rw [if_neg z1, if_neg fun y => z1 (c1.2 y)]
    by_cases z2 : i ≤ j
    · rw [if_pos z2, if_pos (c2.1 z2)]
      exact ⟨fun h => by omega, fun h => by omega⟩
    · rw [if_neg z2, if_neg fun y => z2 (c2.2 y)]
      constructor
      · intro h
        have : ¬ j ≤ k := fun y => by have := c3.1 y; omega
        omega
      · intro h
        have : ¬ P[j] ≤ P[k] := fun y => by have := c3.2 y; omega
        omega
def wlk (N i d : Nat) : List Int := (List.range d).map fun t => ((posW N i t : Nat) : Int)
theorem wlk_more (N i d : Nat) : wlk N i (d + 1) = wlk N i d ++ [((posW N i d : Nat) : Int)] := by
  unfold wlk; rw [List.range_succ, List.map_append]; rfl
theorem e_fidx {f g : FD} {ω : WSt} : fIdx f g ω = (f ω).bind fun d => (g ω).bind fun c => idxD d c := rfl
theorem numbers_at {P : List Int} (hP : P.Pairwise (· < ·)) (hl : P.length ≤ 1000) {s g : Int} (hs : s ∈ P) (hg : g ∈ P) : ∃ (i j : Nat), P[i]? = some s ∧ P[j]? = some g ∧
    m__law_numbers [.lst (P.map D.int), .int s, .int g] = some (.fr ((wlk P.length i (dstW P.length i j)).map D.int)) := by
  obtain ⟨i, i1, i2⟩ := posN_mem hs
  obtain ⟨j, j1, j2⟩ := posN_mem hg
  obtain ⟨hi, ei⟩ := List.getElem?_eq_some_iff.mp i2
  obtain ⟨hj, ej⟩ := List.getElem?_eq_some_iff.mp j2
  refine ⟨i, j, i2, j2, ?_⟩
  have get : ∀ {a b : Nat} (ha : a < P.length) (hb : b < P.length), P[a] = P[b] ↔ a = b := fun {a b} ha hb => by
    constructor
    · intro e
      rcases Nat.lt_trichotomy a b with z | z | z
      · have := List.pairwise_iff_getElem.mp hP _ _ ha hb z; omega
      · exact z
      · have := List.pairwise_iff_getElem.mp hP _ _ hb ha z; omega
    · intro e; subst e; rfl
  have ix : idxD (.lst (P.map D.int)) (.int s) = some (.sh (.int (i : Int))) := by
    show (intsOf (P.map D.int)).bind _ = _
    rw [intsOf_map, Option.bind_some, i1]; rfl
  have pos : 0 < (P.length : Int) := by omega
  have hm : ∀ x : Int, oMod (.int x) (.int (P.length : Int)) = some (.sh (.int (x % (P.length : Int)))) := fun x => oMod_ii pos
  have dl : dstW P.length i j < P.length := by unfold dstW; split <;> omega
  have at_ : ∀ t, t ≤ dstW P.length i j → atI (P.map D.int) ((posW P.length i t : Nat) : Int) = some (.int (P.getD (posW P.length i t) 0)) ∧ (P.getD (posW P.length i t) 0 = g ↔ t = dstW P.length i j) := fun t ht => by
    have hp : posW P.length i t < P.length := by unfold posW; split <;> omega
    have gd : P.getD (posW P.length i t) 0 = P[posW P.length i t] := by rw [List.getD_eq_getElem?_getD, List.getElem?_eq_getElem hp]; rfl
    refine ⟨?_, ?_⟩
    · rw [atI_nn (by omega) (by rw [List.length_map]; omega), gd]
      simp
    · rw [gd, ← ej, get hp hj]
      unfold posW dstW at *
      split <;> split at ht <;> split <;> omega
  obtain ⟨ω', e, hω⟩ := sWh_by (fc := T1__law_numbers) (fb := L1__law_numbers) (n := 1000000)
    (fun ω => ∃ t : Nat, t ≤ dstW P.length i j ∧ ω = [some (.sh (.lst (P.map D.int))), some (.sh (.int s)), some (.sh (.int g)), some (.sh (.int ((posW P.length i t : Nat) : Int))), some (.ow ((wlk P.length i t).map D.int))])
    (fun ω => match ω with
      | [_, _, _, _, some (.ow ds)] => P.length - ds.length
      | _ => 0)
    (fun ω => ω = [some (.sh (.lst (P.map D.int))), some (.sh (.int s)), some (.sh (.int g)), some (.sh (.int ((posW P.length i (dstW P.length i j) : Nat) : Int))), some (.ow ((wlk P.length i (dstW P.length i j)).map D.int))])
    (fun ω ⟨t, ht, hω⟩ hf => by
      subst hω
      obtain ⟨a1, a2⟩ := at_ t ht
      unfold T1__law_numbers at hf
      simp -implicitDefEqProofs only [e_sortk, e_idk', e_kys', e_wdrop, e_wd, e_wclr, e_wrev, e_wm, e_wzip, e_wz, e_wrem, e_wpop, e_wsort, e_wchk, e_wck, e_dnew, e_dnew1, e_dn1, e_dset, e_dget, e_dgr, e_dco, e_dcs, e_dhas, e_dht, e_dhn, e_dsort, e_dpop0, e_dsh, e_lset, e_aug, e_augi, e_irv, e_irl, e_max3, e_ien, e_enl, e_mir, e_om_rt, e_om_nx, e_seq, e_bs_nx, e_bs_rt, e_bs_bk, e_bs_ct, e_nil, e_brk, e_cnt, e_set, e_ss_sh, e_ss_fr, e_if, e_if_t, e_if_f, e_ret, e_rs_sh, e_rs_fr, e_retn, e_retv, e_rv_sh, e_rv_ow, e_app, e_as, e_ext, e_es_t, e_es_l, e_share, e_sh_ow, e_sh_sh, e_sh_no, e_for, e_fs, e_asg, e_ag, e_gn, e_gt, e_gc, e_g0, e_var, e_vr_sh, e_vr_ow, e_c, e_e, e_ed, e_d, e_dr_sh, e_dr_fr, e_v, e_vv_sh, e_vv_fr, e_vv_vw, e_op, e_o2, e_call, e_cl, e_or_sh, e_or_fr, e_ac, e_ca, e_an, e_lst, e_tup, e_mf, e_mt, e_blt, e_bl, e_slc, e_sl, e_po, e_pa, e_ap, e_ite, e_it_t, e_it_f, e_isi, e_isi_int, e_isi_bl, e_isi_non, e_isi_str, e_isi_lst, e_isi_tup, e_t, e_tr, e_tand, e_ta_t, e_ta_f, e_ta, e_ta2, e_tor, e_to_t, e_to_f, e_to, e_to2, e_tnot, e_tn, e_ttru, e_tt_bl, e_tt_int, e_tt_lst, e_tt_tup, e_tt_non, e_ttt, e_vand, e_va_t, e_va_f, e_va, e_va2, e_vor, e_vo_t, e_vo_f, e_vo, e_vo2, e_vnot, e_vn, e_iseq, e_is_l, e_is_t, e_rg1, e_rg2, e_comp, e_cp, e_neg, e_ng, e_len_l, e_len_t, e_len_s, e_list_l, e_list_t, e_tuple_l, e_tuple_t, e_ms, e_st_nx, e_st_ct, oEq_ii, oNe_ii, oEq_bb, oSub_ii, oLt_ii, oLe_ii, oGt_ii, oGe_ii, oAdd_ii, oIs_bb, oIsn_bb, oIs_n, oIsn_n, oIx_l, oIx_t, oIx_s, at0, at1, at2, oMod_ii, oDiv_ii, subT, entry, Option.bind_some, Option.map_some, List.length_cons, List.length_nil, List.length_map, List.map_cons, List.map_nil, List.cons_append, List.nil_append, List.replicate_succ, List.replicate_zero, List.set_cons_succ, List.set_cons_zero, List.getElem?_cons_succ, List.getElem?_cons_zero, Nat.reduceSub, Nat.reduceAdd, Nat.reduceLT, Int.reduceLT, Int.reduceLE, Int.reduceSub, Int.reduceAdd, Int.reduceMul, Int.reduceMod, Int.reduceDiv, Int.reduceNeg, Int.reducePow, Int.reduceBEq, Int.reduceToNat, ↓reduceIte, Bool.not_true, Bool.true_and, Bool.false_and, Bool.and_true, Bool.and_false, Bool.true_or, Bool.false_or, Bool.or_true, Bool.or_false, Bool.not_false, Nat.zero_add, beq_self_eq_true, Bool.false_eq_true, a1] at hf
      have : P.getD (posW P.length i t) 0 = g := by
        have hf := Option.some.inj hf
        simpa using hf
      rw [a2.mp this])
    (fun ω ⟨t, ht, hω⟩ => by
      subst hω
      obtain ⟨a1, a2⟩ := at_ t ht
      refine ⟨!(P.getD (posW P.length i t) 0 == g), ?_, fun hk => ?_⟩
      · unfold T1__law_numbers
        simp_arith [a1]
      · have hne : t ≠ dstW P.length i j := fun z => by
          have := a2.mpr z
          rw [this] at hk
          simp at hk
        have hp : posW P.length i t < P.length := by unfold posW; split <;> omega
        have nx : (((posW P.length i t : Nat) : Int) + 1) % (P.length : Int) = ((posW P.length i (t + 1) : Nat) : Int) := by
          have : posW P.length i (t + 1) = if posW P.length i t + 1 = P.length then 0 else posW P.length i t + 1 := by
            unfold posW at *
            split <;> split <;> split <;> omega
          rw [this]
          by_cases z : posW P.length i t + 1 = P.length
          · rw [if_pos z, show ((posW P.length i t : Nat) : Int) + 1 = (P.length : Int) by omega, Int.emod_self]; rfl
          · rw [if_neg z]
            exact Int.emod_eq_of_lt (by omega) (by omega)
        have wl : (wlk P.length i t).length = t := by unfold wlk; rw [List.length_map, List.length_range]
        have lw : ((wlk P.length i t).map D.int).length < 1000000 := by rw [List.length_map, wl]; omega
        unfold L1__law_numbers
        simp_arith [e_as lw, hm, nx]
        show _ ∧ _
        refine ⟨⟨t + 1, by omega, by rw [wlk_more, List.map_append]; rfl⟩, ?_⟩
        have ml : ((wlk P.length i t).map D.int ++ [D.int ((posW P.length i t : Nat) : Int)]).length = t + 1 := by rw [List.length_append, List.length_map, wl]; rfl
        have mr : ((wlk P.length i t).map D.int).length = t := by rw [List.length_map, wl]
        show P.length - ((wlk P.length i t).map D.int ++ [D.int ((posW P.length i t : Nat) : Int)]).length < _
        rw [ml]
        show P.length - (t + 1) < P.length - (wlk P.length i t).length
        rw [wl]
        omega)
    (ω := [some (.sh (.lst (P.map D.int))), some (.sh (.int s)), some (.sh (.int g)), some (.sh (.int (i : Int))), some (.ow [])]) ⟨0, Nat.zero_le _, by
      have : posW P.length i 0 = i := by unfold posW; rw [Nat.add_zero, if_pos hi]
      rw [this]; rfl⟩
    (by show P.length - 0 < 1000000; omega)
  subst hω
  unfold m__law_numbers B__law_numbers
  simp_arith [e_fidx, ix, e]
theorem wlk_mem {N i j k : Nat} (hi : i < N) (hj : j < N) (hk : k < N) : (k : Int) ∈ wlk N i (dstW N i j) ↔ dstW N i k < dstW N i j := by
  unfold wlk
  rw [List.mem_map]
  constructor
  · rintro ⟨t, ht, e⟩
    have ht := List.mem_range.mp ht
    have e : posW N i t = k := by omega
    have : dstW N i k = t := by
      have hd : dstW N i j < N := by unfold dstW; split <;> omega
      unfold posW at e
      unfold dstW
      split at e <;> split <;> omega
    omega
  · intro h
    refine ⟨dstW N i k, List.mem_range.mpr h, ?_⟩
    have : posW N i (dstW N i k) = k := by
      unfold posW dstW
      split <;> split <;> omega
    rw [this]
theorem wlk_nd {N i d : Nat} (hi : i < N) (hd : d < N) : (wlk N i d).Nodup := by
  unfold wlk
  rw [List.nodup_iff_pairwise_ne, List.pairwise_map]
  refine List.Pairwise.imp_of_mem (R := fun a b => a < b) (fun {a b} ha hb h e => ?_) List.pairwise_lt_range
  have ha := List.mem_range.mp ha
  have hb := List.mem_range.mp hb
  have e : posW N i a = posW N i b := by omega
  unfold posW at e
  split at e <;> split at e <;> omega
theorem wlk_rng {N i d : Nat} (hi : i < N) (hd : d < N) : ∀ k ∈ wlk N i d, 0 ≤ k ∧ k < (N : Int) := fun k hk => by
  obtain ⟨t, ht, rfl⟩ := List.mem_map.mp hk
  have ht := List.mem_range.mp ht
  have : posW N i t < N := by unfold posW; split <;> omega
  omega
theorem nums_at {P : List Int} (hP : P.Pairwise (· < ·)) (hl : P.length ≤ 1000) {n : Int} (hn : ∀ p ∈ P, 0 ≤ p ∧ p < n) {s g : Int} (hs : s ∈ P) (hg : g ∈ P) : ∃ ks : List Int, m__law_numbers [.lst (P.map D.int), .int s, .int g] = some (.fr (ks.map D.int)) ∧ Hk.numsOf m__law_numbers P s g = some ks ∧ ks.Nodup ∧
    (∀ k ∈ ks, 0 ≤ k) ∧ ∀ (k : Nat), k < P.length → ((k : Int) ∈ ks ↔ goN n s g (P.getD k 0) = true) := by
  obtain ⟨i, j, i2, j2, e⟩ := numbers_at hP hl hs hg
  obtain ⟨hi, ei⟩ := List.getElem?_eq_some_iff.mp i2
  obtain ⟨hj, ej⟩ := List.getElem?_eq_some_iff.mp j2
  have dl : dstW P.length i j < P.length := by unfold dstW; split <;> omega
  have rg := wlk_rng hi dl
  refine ⟨_, e, ?_, wlk_nd hi dl, fun k hk => (rg k hk).1, fun k hk => ?_⟩
  · unfold Hk.numsOf
    rw [e]
    show (intsOf ((wlk P.length i (dstW P.length i j)).map D.int)).bind _ = _
    rw [intsOf_map, Option.bind_some]
    exact if_pos ⟨rg, by unfold wlk; rw [List.length_map, List.length_range]; omega⟩
  · rw [wlk_mem hi hj hk]
    have gd : P.getD k 0 = P[k] := by rw [List.getD_eq_getElem?_getD, List.getElem?_eq_getElem hk]; rfl
    rw [gd, ← ei, ← ej, goN_dst hP hn hi hj hk, decide_eq_true_iff]
theorem bmp_get {b : Bool} {cs : List (Int × Int)} {a : Int} {k : Nat} {c : Int × Int} (ha : 0 ≤ a) (h : cs[k]? = some c) : (bmp b cs a)[k]? = some (if (k : Int) = a then addC b c else c) := by
  unfold bmp
  by_cases z : (k : Int) = a
  · have e : a.toNat = k := by omega
    rw [e, h, if_pos z]
    show (cs.set k (addC b c))[k]? = _
    exact List.getElem?_set_self (List.getElem?_eq_some_iff.mp h).1
  · rw [if_neg z]
    cases q : cs[a.toNat]? with
    | none => exact h
    | some d =>
      show (cs.set a.toNat (addC b d))[k]? = _
      rw [List.getElem?_set_ne (by omega)]; exact h
theorem bmps_get {b : Bool} : ∀ {ks : List Int} {cs : List (Int × Int)} {k : Nat} {c : Int × Int}, ks.Nodup → (∀ a ∈ ks, 0 ≤ a) → cs[k]? = some c → (ks.foldl (bmp b) cs)[k]? = some (if (k : Int) ∈ ks then addC b c else c)
  | [], cs, k, c, _, _, h => by rw [if_neg (by simp)]; exact h
  | a :: ks, cs, k, c, nd, h0, h => by
    obtain ⟨n1, n2⟩ := List.nodup_cons.mp nd
    have g := bmp_get (b := b) (h0 a List.mem_cons_self) h
    have ih := bmps_get (b := b) n2 (fun x hx => h0 x (List.mem_cons_of_mem _ hx)) g
    rw [List.foldl_cons, ih]
    by_cases z : (k : Int) = a
    · rw [if_pos z, if_neg (by rw [z]; exact n1), if_pos (by rw [z]; exact List.mem_cons_self)]
    · rw [if_neg z]
      by_cases y : (k : Int) ∈ ks
      · rw [if_pos y, if_pos (List.mem_cons_of_mem _ y)]
      · rw [if_neg y, if_neg fun w => (List.mem_cons.mp w).elim z y]
def rts (n : Int) (bs : List (Int × Int × Int)) (x : Int) : List (Int × Int × Int) := bs.filter fun b => b.2.2 == 1 && goN n b.1 b.2.1 x
def lfs (n : Int) (bs : List (Int × Int × Int)) (x : Int) : List (Int × Int × Int) := bs.filter fun b => b.2.2 == -1 && goN n b.2.1 b.1 x
theorem ctRun_at {P : List Int} (hP : P.Pairwise (· < ·)) (hl : P.length ≤ 1000) {n : Int} (hn : ∀ p ∈ P, 0 ≤ p ∧ p < n) : ∀ (es pre : List (Int × Int × Int)) (cs : List (Int × Int)), (∀ e ∈ es, e.1 ∈ P ∧ e.2.1 ∈ P ∧ (e.2.2 = 1 ∨ e.2.2 = -1)) → cs.length = P.length →
    (∀ k : Nat, k < P.length → cs[k]? = some (((rts n pre (P.getD k 0)).length : Int), ((lfs n pre (P.getD k 0)).length : Int))) →
    ∃ cs', ctRun m__law_numbers P es cs = some cs' ∧ cs'.length = P.length ∧ ∀ k : Nat, k < P.length → cs'[k]? = some (((rts n (pre ++ es) (P.getD k 0)).length : Int), ((lfs n (pre ++ es) (P.getD k 0)).length : Int))
  | [], pre, cs, _, hc, h => ⟨cs, rfl, hc, by rw [List.append_nil]; exact h⟩
  | e :: es, pre, cs, he, hc, h => by
    obtain ⟨m1, m2, m3⟩ := he e List.mem_cons_self
    have app : ∀ x, rts n (pre ++ [e]) x = rts n pre x ++ (if (e.2.2 == 1 && goN n e.1 e.2.1 x) = true then [e] else []) ∧ lfs n (pre ++ [e]) x = lfs n pre x ++ (if (e.2.2 == -1 && goN n e.2.1 e.1 x) = true then [e] else []) := fun x => by
      unfold rts lfs
      rw [List.filter_append, List.filter_append, List.filter_cons, List.filter_cons, List.filter_nil, List.filter_nil]
      exact ⟨rfl, rfl⟩
    have step : ∃ cs1, ctStep m__law_numbers P cs e = some cs1 ∧ cs1.length = P.length ∧ ∀ k : Nat, k < P.length → cs1[k]? = some (((rts n (pre ++ [e]) (P.getD k 0)).length : Int), ((lfs n (pre ++ [e]) (P.getD k 0)).length : Int)) := by
      unfold ctStep
      rcases m3 with z | z
      · obtain ⟨ks, _, k2, k3, k4, k5⟩ := nums_at hP hl hn m1 m2
        refine ⟨ks.foldl (bmp true) cs, by rw [if_pos z, k2]; rfl, by rw [bmps_len]; exact hc, fun k hk => ?_⟩
        rw [bmps_get k3 k4 (h k hk), (app _).1, (app _).2, z]
        by_cases y : (k : Int) ∈ ks
        · rw [if_pos y, (k5 k hk).mp y, if_pos (by decide), if_neg (by simp), List.append_nil, List.length_append]
          rfl
        · have y' : goN n e.1 e.2.1 (P.getD k 0) = false := by
            cases q : goN n e.1 e.2.1 (P.getD k 0) with
            | true => exact absurd ((k5 k hk).mpr q) y
            | false => rfl
          rw [if_neg y, y', if_neg (by decide), if_neg (by simp), List.append_nil, List.append_nil]
      · obtain ⟨ks, _, k2, k3, k4, k5⟩ := nums_at hP hl hn m2 m1
        refine ⟨ks.foldl (bmp false) cs, by rw [if_neg (by rw [z]; decide), k2]; rfl, by rw [bmps_len]; exact hc, fun k hk => ?_⟩
        rw [bmps_get k3 k4 (h k hk), (app _).1, (app _).2, z]
        by_cases y : (k : Int) ∈ ks
        · rw [if_pos y, (k5 k hk).mp y, if_neg (by simp), if_pos (by decide), List.append_nil, List.length_append]
          rfl
        · have y' : goN n e.2.1 e.1 (P.getD k 0) = false := by
            cases q : goN n e.2.1 e.1 (P.getD k 0) with
            | true => exact absurd ((k5 k hk).mpr q) y
            | false => rfl
          rw [if_neg y, y', if_neg (by simp), if_neg (by decide), List.append_nil, List.append_nil]
    obtain ⟨cs1, c1, c2, c3⟩ := step
    obtain ⟨cs', d1, d2, d3⟩ := ctRun_at hP hl hn es (pre ++ [e]) cs1 (fun x hx => he x (List.mem_cons_of_mem _ hx)) c2 c3
    refine ⟨cs', ?_, d2, ?_⟩
    · show (ctStep m__law_numbers P cs e).bind _ = _
      rw [c1]; exact d1
    · rw [List.append_assoc] at d3; exact d3
theorem tri_tri3 : tri = tri3 := rfl
theorem counts_at {P : List Int} (hP : P.Pairwise (· < ·)) (hl : P.length ≤ 1000) {n : Int} (hn : ∀ p ∈ P, 0 ≤ p ∧ p < n) {bs : List (Int × Int × Int)} (hb : bs.length ≤ 20) (he : ∀ e ∈ bs, e.1 ∈ P ∧ e.2.1 ∈ P ∧ (e.2.2 = 1 ∨ e.2.2 = -1)) :
    ∃ cs : List (Int × Int), m__law_counts [.lst (P.map D.int), .lst (bs.map tri)] = some (.fr (cs.map rowD)) ∧ cs.length = P.length ∧ ∀ k : Nat, k < P.length → cs[k]? = some (((rts n bs (P.getD k 0)).length : Int), ((lfs n bs (P.getD k 0)).length : Int)) := by
  obtain ⟨cs, c1, c2, c3⟩ := ctRun_at hP hl hn bs [] (P.map fun _ => (0, 0)) he (by rw [List.length_map]) fun k hk => by
    rw [List.getElem?_map, List.getElem?_eq_getElem hk]; rfl
  refine ⟨cs, ?_, c2, c3⟩
  show (intsOf (P.map D.int)).bind _ = _
  rw [intsOf_map, Option.bind_some, tri_tri3, tripsOf_map, Option.bind_some, if_pos ⟨hl, by omega⟩, c1]; rfl
theorem steps_at {n a b : Int} (hn : 0 < n) : m_steps [.int n, .int a, .int b, .int 1] = some (.sh (.int ((b - a) % n))) := by
  unfold m_steps B_steps
  have mu : oMul (.int (b - a)) (.int 1) = some (.sh (.int (b - a))) := by rw [oMulR_ii (by decide) (by decide), Int.mul_one]
  have mo : oMod (.int (b - a)) (.int n) = some (.sh (.int ((b - a) % n))) := oMod_ii hn
  simp_arith [mu, mo]
theorem over_at {n s g : Int} (hn : 0 < n) (p : Int × Int) : m_goes_over [.int n, .int s, .int g, boxD p] = some (.sh (.bl (goN n s g p.1))) := by
  unfold m_goes_over B_goes_over
  have s1 := steps_at (a := s) (b := p.1) hn
  have s2 := steps_at (a := s) (b := g) hn
  have pd : boxD p = .tup [.int p.1, .int p.2] := rfl
  simp_arith [pd, s1, s2]
  rfl
def lackF (n h l : Int) (bs : List (Int × Int × Int)) (x : Int) : Int := (if goN n h l x = true then 1 else 0) - ((rts n bs x).length : Int) + ((lfs n bs x).length : Int)
theorem bare_at {n h l : Int} {bs : List (Int × Int × Int)} (hn : 0 < n) (hb : bs.length ≤ 20) (p : Int × Int) : m_bare_lack [.int n, .int h, .int l, .lst (bs.map tri), boxD p] = some (.sh (.int (lackF n h l bs p.1))) := by
  unfold m_bare_lack B_bare_lack
  have o := over_at (s := h) (g := l) hn p
  have kl : (bs.map tri).length ≤ 1000000 := by rw [List.length_map]; omega
  have td : ∀ b : Int × Int × Int, tri b = .tup [.int b.1, .int b.2.1, .int b.2.2] := fun _ => rfl
  have cm1 := compD_filA (i := 0) (c := T1_bare_lack) (f := E1_bare_lack) (fun b => b.2.2 == 1 && goN n b.1 b.2.1 p.1) tri tri bs (ω := [none, some (.sh (.int n)), some (.sh (boxD p))]) (fun b _ => ⟨by
    have o1 := over_at (s := b.1) (g := b.2.1) hn p
    unfold T1_bare_lack
    cases q : (b.2.2 == 1) with
    | true => simp_arith [td, q, o1]
    | false => simp_arith [td, q], fun _ => rfl⟩)
  have cm2 := compD_filA (i := 0) (c := T2_bare_lack) (f := E2_bare_lack) (fun b => b.2.2 == -1 && goN n b.2.1 b.1 p.1) tri tri bs (ω := [none, some (.sh (.int n)), some (.sh (boxD p))]) (fun b _ => ⟨by
    have o1 := over_at (s := b.2.1) (g := b.1) hn p
    unfold T2_bare_lack
    cases q : (b.2.2 == -1) with
    | true => simp_arith [td, q, o1]
    | false => simp_arith [td, q], fun _ => rfl⟩)
  unfold lackF rts lfs
  generalize goN n h l p.1 = go at o ⊢
  cases go with
  | true => simp_arith [o, e_cp kl, inW, shOf, cm1, cm2, List.length_map]
  | false => simp_arith [o, e_cp kl, inW, shOf, cm1, cm2, List.length_map]
theorem rlacks_at {n h l c : Int} {bs : List (Int × Int × Int)} (hn0 : 1 ≤ n) (hn : n ≤ 10 ^ 39) (hh : 0 ≤ h ∧ h < n) (hl : 0 ≤ l ∧ l < n) (hb : bs.length ≤ 20) (hbs : ∀ b ∈ bs, (0 ≤ b.1 ∧ b.1 < n) ∧ (0 ≤ b.2.1 ∧ b.2.1 < n) ∧ (b.2.2 = 1 ∨ b.2.2 = -1)) :
    m_ring_lacks [.int n, .int h, .int l, .lst (bs.map tri), .int c] = some (.fr ((sortU (plc h l (bs.map two))).map fun x => D.int (c + lackF n h l bs x))) := by
  unfold m_ring_lacks B_ring_lacks
  have g := rgaps_at hn hh hl hb hbs
  have sl : (sortU (plc h l (bs.map two))).length ≤ 1000 := (stp h l (bs := bs.map two) (by rw [List.length_map]; omega)).len
  generalize sortU (plc h l (bs.map two)) = P at g sl
  have kl : ((rnd P).map boxD).length ≤ 1000000 := by
    rw [List.length_map]
    unfold rnd
    rw [List.length_zip]; omega
  have cm := compD_mapA (i := 0) (f := E1_ring_lacks) boxD (fun p => D.int (c + lackF n h l bs p.1)) (rnd P) (ω := [none, some (.sh (.int c)), some (.sh (.int n)), some (.sh (.int h)), some (.sh (.int l)), some (.sh (.lst (bs.map tri)))]) (fun p _ => by
    have b := bare_at (h := h) (l := l) (show 0 < n by omega) hb p
    unfold E1_ring_lacks
    simp_arith [b])
  have zf : (rnd P).map (fun p => D.int (c + lackF n h l bs p.1)) = P.map fun x => D.int (c + lackF n h l bs x) := by
    have : (rnd P).map Prod.fst = P := by
      unfold rnd
      rw [List.map_fst_zip]
      rw [List.length_append, List.length_drop, List.length_take]; omega
    conv => rhs; rw [← this]
    rw [List.map_map]; rfl
  simp_arith [g, e_cp kl, inW, shOf, cm, zf]
theorem llacks_at {P : List Int} (hP : P.Pairwise (· < ·)) (hl : P.length ≤ 1000) {n h l c : Int} (hn : ∀ p ∈ P, 0 ≤ p ∧ p < n) {bs : List (Int × Int × Int)} (hb : bs.length ≤ 20) (he : ∀ e ∈ bs, e.1 ∈ P ∧ e.2.1 ∈ P ∧ (e.2.2 = 1 ∨ e.2.2 = -1)) (hh : h ∈ P) (hl' : l ∈ P) :
    m__law_lacks [.lst (P.map D.int), .int h, .int l, .lst (bs.map tri), .int c] = some (.fr (P.map fun x => D.int (c + lackF n h l bs x))) := by
  unfold m__law_lacks B__law_lacks
  obtain ⟨cs, c1, c2, c3⟩ := counts_at hP hl hn hb he
  obtain ⟨ks, k1, _, _, _, k5⟩ := nums_at hP hl hn hh hl'
  have cm := compD_mapA (i := 0) (f := E1__law_lacks) (fun k : Nat => D.int (0 + (k : Int))) (fun k => D.int (c + lackF n h l bs (P.getD k 0))) (List.range P.length) (ω := [none, some (.sh (.int c)), some (.sh (.lst (cs.map rowD))), some (.sh (.lst (ks.map D.int)))]) (fun k hk => by
    have hk := List.mem_range.mp hk
    have z : (0 + (k : Int)) = (k : Int) := by omega
    have gk := c3 k hk
    have at_ : atI (cs.map rowD) (k : Int) = some (rowD (((rts n bs (P.getD k 0)).length : Int), ((lfs n bs (P.getD k 0)).length : Int))) := by
      rw [atI_nn (by omega) (by rw [List.length_map]; omega), List.getElem_map]
      have := (List.getElem?_eq_some_iff.mp gk).2
      simp only [Int.toNat_natCast]
      rw [this]
    have rd : ∀ a b : Int, rowD (a, b) = .lst [.int a, .int b] := fun _ _ => rfl
    have bi : ∀ b : Bool, bInt [.bl b] = some (.sh (.int (if b then 1 else 0))) := fun _ => rfl
    have dk : decide ((k : Int) ∈ ks) = goN n h l (P.getD k 0) := by
      cases q : goN n h l (P.getD k 0) with
      | true => exact decide_eq_true ((k5 k hk).mpr q)
      | false => exact decide_eq_false fun y => by have := (k5 k hk).mp y; rw [q] at this; cases this
    unfold E1__law_lacks lackF
    simp_arith [z, oIn_il, dk, bi, at_, rd]
    refine congrArg (fun x => some (D.int x)) ?_
    omega)
  have up : upTo 0 P.length = (List.range P.length).map fun k : Nat => D.int (0 + (k : Int)) := rfl
  have ul : ((List.range P.length).map fun k : Nat => D.int (0 + (k : Int))).length ≤ 1000000 := by rw [List.length_map, List.length_range]; omega
  have fin : (List.range P.length).map (fun k => D.int (c + lackF n h l bs (P.getD k 0))) = P.map fun x => D.int (c + lackF n h l bs x) := by
    apply List.ext_getElem
    · rw [List.length_map, List.length_map, List.length_range]
    · intro i h1 h2
      rw [List.length_map] at h2
      rw [List.getElem_map, List.getElem_map, List.getElem_range, List.getD_eq_getElem?_getD, List.getElem?_eq_getElem h2]; rfl
  simp_arith [c1, k1, List.length_map]
  rw [r1_ok (a := (P.length : Int)) ⟨by omega, by omega⟩]
  simp_arith [Int.toNat_natCast, up, e_cp ul, inW, shOf, cm, fin]
theorem lstops_at {h l : Int} {bs : List (Int × Int × Int)} (hb : bs.length ≤ 20) : m__law_stops [.int h, .int l, .lst (bs.map tri)] = some (.fr ((sortU (plc h l (bs.map two))).map D.int)) := by
  unfold m__law_stops B__law_stops
  obtain ⟨ω2, e2, y4, y5, y6, rfl⟩ := forD_map (g := gT 3 (gsCons (gN 4) (gsCons (gN 5) (gsCons (gN 6) gsNil)))) (b := L1__law_stops) tri bs
    (fun pre ω => ∃ y4 y5 y6 : Option W, ω = [some (.sh (.int h)), some (.sh (.int l)), some (.sh (.lst (bs.map tri))), some (.sh (.lst ((plc h l (pre.map two)).map D.int))), y4, y5, y6])
    (fun pre b post ω hd ⟨y4, y5, y6, hω⟩ => by
      subst hω
      refine ⟨_, rfl, ?_⟩
      have hp : pre.length < bs.length := by rw [hd, List.length_append, List.length_cons]; omega
      have ad : oAdd (.lst ((plc h l (pre.map two)).map D.int)) (.lst [.int b.1, .int b.2.1]) = some (.fr ((plc h l ((pre ++ [b]).map two)).map D.int)) := by
        rw [List.map_append, List.map_singleton, plc_app, List.map_append]
        refine if_pos ?_
        rw [List.length_map]
        show (flat (pre.map two)).length + 1 + 1 + 2 ≤ 1000000
        rw [flat_len, List.length_map]; omega
      show stepS (L1__law_stops [some (.sh (.int h)), some (.sh (.int l)), some (.sh (.lst (bs.map tri))), some (.sh (.lst ((plc h l (pre.map two)).map D.int))), some (.sh (.int b.1)), some (.sh (.int b.2.1)), some (.sh (.int b.2.2))]) _
      unfold L1__law_stops
      simp_arith [ad]
      exact ⟨_, _, _, rfl⟩)
    (ω := [some (.sh (.int h)), some (.sh (.int l)), some (.sh (.lst (bs.map tri))), some (.sh (.lst [.int h, .int l])), none, none, none]) ⟨none, none, none, rfl⟩
  have lk : (plc h l (bs.map two)).length < 64 := by
    show (flat (bs.map two)).length + 1 + 1 < 64
    rw [flat_len, List.length_map]; omega
  have ss : ∀ ω : WSt, ω[3]? = some (some (.sh (.lst ((plc h l (bs.map two)).map D.int)))) → fSortSet (vOf (fVar 3)) ω = some (.fr ((sortU (plc h l (bs.map two))).map D.int)) := fun ω hw => by
    have e : vOf (fVar 3) ω = some (.lst ((plc h l (bs.map two)).map D.int)) := by simp_arith [hw]
    unfold fSortSet
    rw [e]
    show (intsOf ((plc h l (bs.map two)).map D.int)).bind _ = _
    rw [intsOf_map]
    exact if_pos lk
  have s3 := ss [some (.sh (.int h)), some (.sh (.int l)), some (.sh (.lst (bs.map tri))), some (.sh (.lst ((plc h l (bs.map two)).map D.int))), y4, y5, y6] rfl
  simp_arith [e2, s3]
theorem in_flat {b : Int × Int × Int} {bs : List (Int × Int × Int)} (h : b ∈ bs) : b.1 ∈ flat (bs.map two) ∧ b.2.1 ∈ flat (bs.map two) := by
  unfold flat
  refine ⟨List.mem_flatMap.mpr ⟨two b, List.mem_map_of_mem h, ?_⟩, List.mem_flatMap.mpr ⟨two b, List.mem_map_of_mem h, ?_⟩⟩
  · exact List.mem_cons_self
  · exact List.mem_cons_of_mem _ List.mem_cons_self
theorem of_flat {x : Int} {bs : List (Int × Int × Int)} (h : x ∈ flat (bs.map two)) : ∃ b ∈ bs, x = b.1 ∨ x = b.2.1 := by
  unfold flat at h
  obtain ⟨p, hp, hx⟩ := List.mem_flatMap.mp h
  obtain ⟨b, hb, rfl⟩ := List.mem_map.mp hp
  rcases List.mem_cons.mp hx with z | z
  · exact ⟨b, hb, .inl z⟩
  · exact ⟨b, hb, .inr (List.mem_singleton.mp z)⟩
theorem ints_shp {α : Type} (f : α → Int) (xs : List α) : shp (.lst (xs.map fun x => D.int (f x))) = true := shp_lst 1 (by decide) fun d hd => by
  obtain ⟨x, _, rfl⟩ := List.mem_map.mp hd; exact ⟨rfl, Nat.zero_le _⟩
theorem law_true (ns : List Int) (hl : ns.length ≤ 63) : m_law [.scr ns] = some (.sh (.bl true)) := by
  obtain ⟨n, s1, s2, s3⟩ := size_at (ns := ns)
  obtain ⟨ps, p1, p2, p3⟩ := rmenu_at (ns := ns) s2
  obtain ⟨bs, b1, b2, b3⟩ := rboxes_at (ns := ns) p2 hl
  have hbs : ∀ b ∈ bs, (0 ≤ b.1 ∧ b.1 < n) ∧ (0 ≤ b.2.1 ∧ b.2.1 < n) ∧ (b.2.2 = 1 ∨ b.2.2 = -1) := fun b hb => ⟨p3 _ (b2 b hb).1, p3 _ (b2 b hb).2.1, (b2 b hb).2.2⟩
  have cl := lcell_at (ns := ns) (k := 16) (by decide)
  match ps, p2 with
  | h :: l :: r, p2 =>
    have i0 : atI ((h :: l :: r).map D.int) 0 = some (.int h) := by
      rw [atI_nn (by decide) (by rw [List.length_map, List.length_cons]; omega)]; rfl
    have i1 : atI ((h :: l :: r).map D.int) 1 = some (.int l) := by
      rw [atI_nn (by decide) (by rw [List.length_map, List.length_cons, List.length_cons]; omega)]; rfl
    have hh := p3 h (by simp)
    have hl2 := p3 l (by simp)
    have hb20 : bs.length ≤ 20 := by omega
    have S := stp h l (bs := bs.map two) (by rw [List.length_map]; omega)
    have G := fun c => rlacks_at (c := c) s2 s3 hh hl2 hb20 hbs
    have st := lstops_at (h := h) (l := l) hb20
    have inP : ∀ x, x ∈ sortU (plc h l (bs.map two)) ↔ (x = h ∨ x = l ∨ x ∈ flat (bs.map two)) := fun x => by
      rw [mem_sortU]
      unfold plc
      rw [List.mem_cons, List.mem_cons]
    have hnP : ∀ p ∈ sortU (plc h l (bs.map two)), 0 ≤ p ∧ p < n := fun p hp => by
      rcases (inP p).mp hp with z | z | z
      · rw [z]; exact hh
      · rw [z]; exact hl2
      · obtain ⟨b, hb, y | y⟩ := of_flat z
        · rw [y]; exact (hbs b hb).1
        · rw [y]; exact (hbs b hb).2.1
    have heP : ∀ e ∈ bs, e.1 ∈ sortU (plc h l (bs.map two)) ∧ e.2.1 ∈ sortU (plc h l (bs.map two)) ∧ (e.2.2 = 1 ∨ e.2.2 = -1) := fun e he => ⟨(inP _).mpr (.inr (.inr (in_flat he).1)), (inP _).mpr (.inr (.inr (in_flat he).2)), (hbs e he).2.2⟩
    have LL := fun c => llacks_at (c := c) S.rise S.len hnP hb20 heP ((inP h).mpr (.inl rfl)) ((inP l).mpr (.inr (.inl rfl)))
    have ne := oNe_self (tris_shp bs)
    have bl : ∀ ds : List D, bList [.lst ds] = some (.fr ds) := fun _ => rfl
    generalize hr : (h :: l :: r).map D.int = R at p1 i0 i1 b1
    generalize sortU (plc h l (bs.map two)) = P at G st LL
    have loop : ∀ (c : Int) (x4 : Option W), ∃ x8 : Option W, forD (gN 8) L1_law (P.map fun x => D.int (c + lackF n h l bs x)) [some (.sh (.scr ns)), some (.sh (.int n)), some (.sh (.lst R)), some (.sh (.lst (bs.map tri))), x4, some (.sh (.int c)), some (.sh (.lst (bs.map tri))), some (.sh (.lst (P.map fun x => D.int (c + lackF n h l bs x)))), none, none] =
        some (.nx, [some (.sh (.scr ns)), some (.sh (.int n)), some (.sh (.lst R)), some (.sh (.lst (bs.map tri))), x4, some (.sh (.int c)), some (.sh (.lst (bs.map tri))), some (.sh (.lst (P.map fun x => D.int (c + lackF n h l bs x)))), x8, none]) := fun c x4 => by
      obtain ⟨ω', e, x8, rfl⟩ := forD_map (g := gN 8) (b := L1_law) (fun x => D.int (c + lackF n h l bs x)) P
        (fun pre ω => ∃ x8 : Option W, ω = [some (.sh (.scr ns)), some (.sh (.int n)), some (.sh (.lst R)), some (.sh (.lst (bs.map tri))), x4, some (.sh (.int c)), some (.sh (.lst (bs.map tri))), some (.sh (.lst (P.map fun x => D.int (c + lackF n h l bs x)))), x8, none])
        (fun pre x post ω hd ⟨x8, hω⟩ => by
          subst hω
          refine ⟨_, rfl, ?_⟩
          unfold L1_law
          simp_arith [e_seq]
          exact ⟨_, rfl⟩)
        (ω := [some (.sh (.scr ns)), some (.sh (.int n)), some (.sh (.lst R)), some (.sh (.lst (bs.map tri))), x4, some (.sh (.int c)), some (.sh (.lst (bs.map tri))), some (.sh (.lst (P.map fun x => D.int (c + lackF n h l bs x)))), none, none]) ⟨none, rfl⟩
      exact ⟨x8, e⟩
    have pw : oPow (.int 10) (.int 20) = some (.sh (.int 100000000000000000000)) := rfl
    have mu : oMul (.int 2) (.int 100000000000000000000) = some (.sh (.int 200000000000000000000)) := oMulL_ii (by decide) (by decide)
    have mo : ∀ x : Int, oMod (.int x) (.int 200000000000000000000) = some (.sh (.int (x % 200000000000000000000))) := fun x => oMod_ii (by decide)
    have cl' : m__law_cell [.scr ns, .int 16] = some (.sh (.int (ns.getD 16 0))) := cl
    generalize ns.getD 16 0 = cell at cl'
    unfold m_law B_law
    by_cases od : cell % 2 = 1
    · have od' : (cell % 2 == 1) = true := by simpa using od
      obtain ⟨x8, e1⟩ := loop (cell / 2 % 200000000000000000000 - 100000000000000000000) (some (.sh (.int cell)))
      have G1 := G (cell / 2 % 200000000000000000000 - 100000000000000000000)
      have L1 := LL (cell / 2 % 200000000000000000000 - 100000000000000000000)
      have eq := oEq_self (ints_shp (fun x => cell / 2 % 200000000000000000000 - 100000000000000000000 + lackF n h l bs x) P)
      generalize hX : P.map (fun x => D.int (cell / 2 % 200000000000000000000 - 100000000000000000000 + lackF n h l bs x)) = X at G1 L1 e1 eq
      simp_arith [s1, p1, b1, cl', od', pw, mu, mo, i0, i1, bl, G1, ne, e1, st, L1, eq]
    · have od' : (cell % 2 == 1) = false := by simpa using od
      obtain ⟨x8, e1⟩ := loop (cell / 2 % 7 - 3) (some (.sh (.int cell)))
      have G1 := G (cell / 2 % 7 - 3)
      have L1 := LL (cell / 2 % 7 - 3)
      have eq := oEq_self (ints_shp (fun x => cell / 2 % 7 - 3 + lackF n h l bs x) P)
      generalize hX : P.map (fun x => D.int (cell / 2 % 7 - 3 + lackF n h l bs x)) = X at G1 L1 e1 eq
      simp_arith [s1, p1, b1, cl', od', i0, i1, bl, G1, ne, e1, st, L1, eq]
theorem all_mk {l : PySem.W.OpenLaw} {w : World} {K : PySem.W.Frag} {h : Heap} {mg : Str → Option Value} {fa : Addr} (X : K.In h) (G : h.Ns mainGlobals mg) (hfa : mg "law" = some (.ref fa))
    {od0 an0 : Option Addr} {sl0 : Array (Option Value)} {oc0 kV0 dc0 pm0 cd0 ct0 : Value} {f0 : Addr}
    {od1 an1 : Option Addr} {sl1 : Array (Option Value)} {oc1 kV1 dc1 pm1 cd1 ct1 : Value} {f1 : Addr}
    {od2 an2 : Option Addr} {sl2 : Array (Option Value)} {oc2 kV2 dc2 pm2 cd2 ct2 : Value} {f2 : Addr}
    {od3 an3 : Option Addr} {sl3 : Array (Option Value)} {oc3 kV3 dc3 pm3 cd3 ct3 : Value} {f3 : Addr}
    {od4 an4 : Option Addr} {sl4 : Array (Option Value)} {oc4 kV4 dc4 pm4 cd4 ct4 : Value} {f4 : Addr}
    {od5 an5 : Option Addr} {sl5 : Array (Option Value)} {oc5 kV5 dc5 pm5 cd5 ct5 : Value} {f5 : Addr}
    {od6 an6 : Option Addr} {sl6 : Array (Option Value)} {oc6 kV6 dc6 pm6 cd6 ct6 : Value} {f6 : Addr}
    {od7 an7 : Option Addr} {sl7 : Array (Option Value)} {oc7 kV7 dc7 pm7 cd7 ct7 : Value} {f7 : Addr}
    {od8 an8 : Option Addr} {sl8 : Array (Option Value)} {oc8 kV8 dc8 pm8 cd8 ct8 : Value} {f8 : Addr}
    {od9 an9 : Option Addr} {sl9 : Array (Option Value)} {oc9 kV9 dc9 pm9 cd9 ct9 : Value} {f9 : Addr}
    {od10 an10 : Option Addr} {sl10 : Array (Option Value)} {oc10 kV10 dc10 pm10 cd10 ct10 : Value} {f10 : Addr}
    {od11 an11 : Option Addr} {sl11 : Array (Option Value)} {oc11 kV11 dc11 pm11 cd11 ct11 : Value} {f11 : Addr}
    {od12 an12 : Option Addr} {sl12 : Array (Option Value)} {oc12 kV12 dc12 pm12 cd12 ct12 : Value} {f12 : Addr}
    {od13 an13 : Option Addr} {sl13 : Array (Option Value)} {oc13 kV13 dc13 pm13 cd13 ct13 : Value} {f13 : Addr}
    {od14 an14 : Option Addr} {sl14 : Array (Option Value)} {oc14 kV14 dc14 pm14 cd14 ct14 : Value} {f14 : Addr}
    {od15 an15 : Option Addr} {sl15 : Array (Option Value)} {oc15 kV15 dc15 pm15 cd15 ct15 : Value} {f15 : Addr}
    {od16 an16 : Option Addr} {sl16 : Array (Option Value)} {oc16 kV16 dc16 pm16 cd16 ct16 : Value} {f16 : Addr}
    {od17 an17 : Option Addr} {sl17 : Array (Option Value)} {oc17 kV17 dc17 pm17 cd17 ct17 : Value} {f17 : Addr}
    {od18 an18 : Option Addr} {sl18 : Array (Option Value)} {oc18 kV18 dc18 pm18 cd18 ct18 : Value} {f18 : Addr}
    {od19 an19 : Option Addr} {sl19 : Array (Option Value)} {oc19 kV19 dc19 pm19 cd19 ct19 : Value} {f19 : Addr}
    {od20 an20 : Option Addr} {sl20 : Array (Option Value)} {oc20 kV20 dc20 pm20 cd20 ct20 : Value} {f20 : Addr}
    {od21 an21 : Option Addr} {sl21 : Array (Option Value)} {oc21 kV21 dc21 pm21 cd21 ct21 : Value} {f21 : Addr}
    {od22 an22 : Option Addr} {sl22 : Array (Option Value)} {oc22 kV22 dc22 pm22 cd22 ct22 : Value} {f22 : Addr}
    {od23 an23 : Option Addr} {sl23 : Array (Option Value)} {oc23 kV23 dc23 pm23 cd23 ct23 : Value} {f23 : Addr}
    {od24 an24 : Option Addr} {sl24 : Array (Option Value)} {oc24 kV24 dc24 pm24 cd24 ct24 : Value} {f24 : Addr}
    (a0 : PySem.W.nsIn K mainGlobals "is_whole" = some (some (.ref f0))) (l0 : K.lookup f0 = some ⟨oc0, od0, .func (PySem.W.fnOf "is_whole" "is_whole" (defArgs s_is_whole) (defBody s_is_whole) (defScope s_is_whole) .none kV0 dc0 pm0 an0 cd0 ct0), sl0⟩) (c0 : PySem.W.codeIn K cd0 "is_whole" = true) (k0 : PySem.W.keepIn K (.ref f0) = true)
    (a1 : PySem.W.nsIn K mainGlobals "is_box" = some (some (.ref f1))) (l1 : K.lookup f1 = some ⟨oc1, od1, .func (PySem.W.fnOf "is_box" "is_box" (defArgs s_is_box) (defBody s_is_box) (defScope s_is_box) .none kV1 dc1 pm1 an1 cd1 ct1), sl1⟩) (c1 : PySem.W.codeIn K cd1 "is_box" = true) (k1 : PySem.W.keepIn K (.ref f1) = true)
    (a2 : PySem.W.nsIn K mainGlobals "is_errand" = some (some (.ref f2))) (l2 : K.lookup f2 = some ⟨oc2, od2, .func (PySem.W.fnOf "is_errand" "is_errand" (defArgs s_is_errand) (defBody s_is_errand) (defScope s_is_errand) .none kV2 dc2 pm2 an2 cd2 ct2), sl2⟩) (c2 : PySem.W.codeIn K cd2 "is_errand" = true) (k2 : PySem.W.keepIn K (.ref f2) = true)
    (a3 : PySem.W.nsIn K mainGlobals "check_errand" = some (some (.ref f3))) (l3 : K.lookup f3 = some ⟨oc3, od3, .func (PySem.W.fnOf "check_errand" "check_errand" (defArgs s_check_errand) (defBody s_check_errand) (defScope s_check_errand) .none kV3 dc3 pm3 an3 cd3 ct3), sl3⟩) (c3 : PySem.W.codeIn K cd3 "check_errand" = true) (k3 : PySem.W.keepIn K (.ref f3) = true)
    (a4 : PySem.W.nsIn K mainGlobals "stops" = some (some (.ref f4))) (l4 : K.lookup f4 = some ⟨oc4, od4, .func (PySem.W.fnOf "stops" "stops" (defArgs s_stops) (defBody s_stops) (defScope s_stops) .none kV4 dc4 pm4 an4 cd4 ct4), sl4⟩) (c4 : PySem.W.codeIn K cd4 "stops" = true) (k4 : PySem.W.keepIn K (.ref f4) = true)
    (a5 : PySem.W.nsIn K mainGlobals "is_way" = some (some (.ref f5))) (l5 : K.lookup f5 = some ⟨oc5, od5, .func (PySem.W.fnOf "is_way" "is_way" (defArgs s_is_way) (defBody s_is_way) (defScope s_is_way) .none kV5 dc5 pm5 an5 cd5 ct5), sl5⟩) (c5 : PySem.W.codeIn K cd5 "is_way" = true) (k5 : PySem.W.keepIn K (.ref f5) = true)
    (a6 : PySem.W.nsIn K mainGlobals "has_place" = some (some (.ref f6))) (l6 : K.lookup f6 = some ⟨oc6, od6, .func (PySem.W.fnOf "has_place" "has_place" (defArgs s_has_place) (defBody s_has_place) (defScope s_has_place) .none kV6 dc6 pm6 an6 cd6 ct6), sl6⟩) (c6 : PySem.W.codeIn K cd6 "has_place" = true) (k6 : PySem.W.keepIn K (.ref f6) = true)
    (a7 : PySem.W.nsIn K mainGlobals "is_ring_box" = some (some (.ref f7))) (l7 : K.lookup f7 = some ⟨oc7, od7, .func (PySem.W.fnOf "is_ring_box" "is_ring_box" (defArgs s_is_ring_box) (defBody s_is_ring_box) (defScope s_is_ring_box) .none kV7 dc7 pm7 an7 cd7 ct7), sl7⟩) (c7 : PySem.W.codeIn K cd7 "is_ring_box" = true) (k7 : PySem.W.keepIn K (.ref f7) = true)
    (a8 : PySem.W.nsIn K mainGlobals "is_ring" = some (some (.ref f8))) (l8 : K.lookup f8 = some ⟨oc8, od8, .func (PySem.W.fnOf "is_ring" "is_ring" (defArgs s_is_ring) (defBody s_is_ring) (defScope s_is_ring) .none kV8 dc8 pm8 an8 cd8 ct8), sl8⟩) (c8 : PySem.W.codeIn K cd8 "is_ring" = true) (k8 : PySem.W.keepIn K (.ref f8) = true)
    (a9 : PySem.W.nsIn K mainGlobals "check_ring" = some (some (.ref f9))) (l9 : K.lookup f9 = some ⟨oc9, od9, .func (PySem.W.fnOf "check_ring" "check_ring" (defArgs s_check_ring) (defBody s_check_ring) (defScope s_check_ring) .none kV9 dc9 pm9 an9 cd9 ct9), sl9⟩) (c9 : PySem.W.codeIn K cd9 "check_ring" = true) (k9 : PySem.W.keepIn K (.ref f9) = true)
    (a10 : PySem.W.nsIn K mainGlobals "without_ways" = some (some (.ref f10))) (l10 : K.lookup f10 = some ⟨oc10, od10, .func (PySem.W.fnOf "without_ways" "without_ways" (defArgs s_without_ways) (defBody s_without_ways) (defScope s_without_ways) .none kV10 dc10 pm10 an10 cd10 ct10), sl10⟩) (c10 : PySem.W.codeIn K cd10 "without_ways" = true) (k10 : PySem.W.keepIn K (.ref f10) = true)
    (a11 : PySem.W.nsIn K mainGlobals "steps" = some (some (.ref f11))) (l11 : K.lookup f11 = some ⟨oc11, od11, .func (PySem.W.fnOf "steps" "steps" (defArgs s_steps) (defBody s_steps) (defScope s_steps) .none kV11 dc11 pm11 an11 cd11 ct11), sl11⟩) (c11 : PySem.W.codeIn K cd11 "steps" = true) (k11 : PySem.W.keepIn K (.ref f11) = true)
    (a12 : PySem.W.nsIn K mainGlobals "ring_gaps" = some (some (.ref f12))) (l12 : K.lookup f12 = some ⟨oc12, od12, .func (PySem.W.fnOf "ring_gaps" "ring_gaps" (defArgs s_ring_gaps) (defBody s_ring_gaps) (defScope s_ring_gaps) .none kV12 dc12 pm12 an12 cd12 ct12), sl12⟩) (c12 : PySem.W.codeIn K cd12 "ring_gaps" = true) (k12 : PySem.W.keepIn K (.ref f12) = true)
    (a13 : PySem.W.nsIn K mainGlobals "goes_over" = some (some (.ref f13))) (l13 : K.lookup f13 = some ⟨oc13, od13, .func (PySem.W.fnOf "goes_over" "goes_over" (defArgs s_goes_over) (defBody s_goes_over) (defScope s_goes_over) .none kV13 dc13 pm13 an13 cd13 ct13), sl13⟩) (c13 : PySem.W.codeIn K cd13 "goes_over" = true) (k13 : PySem.W.keepIn K (.ref f13) = true)
    (a14 : PySem.W.nsIn K mainGlobals "bare_lack" = some (some (.ref f14))) (l14 : K.lookup f14 = some ⟨oc14, od14, .func (PySem.W.fnOf "bare_lack" "bare_lack" (defArgs s_bare_lack) (defBody s_bare_lack) (defScope s_bare_lack) .none kV14 dc14 pm14 an14 cd14 ct14), sl14⟩) (c14 : PySem.W.codeIn K cd14 "bare_lack" = true) (k14 : PySem.W.keepIn K (.ref f14) = true)
    (a15 : PySem.W.nsIn K mainGlobals "ring_lacks" = some (some (.ref f15))) (l15 : K.lookup f15 = some ⟨oc15, od15, .func (PySem.W.fnOf "ring_lacks" "ring_lacks" (defArgs s_ring_lacks) (defBody s_ring_lacks) (defScope s_ring_lacks) .none kV15 dc15 pm15 an15 cd15 ct15), sl15⟩) (c15 : PySem.W.codeIn K cd15 "ring_lacks" = true) (k15 : PySem.W.keepIn K (.ref f15) = true)
    (a16 : PySem.W.nsIn K mainGlobals "_law_cell" = some (some (.ref f16))) (l16 : K.lookup f16 = some ⟨oc16, od16, .func (PySem.W.fnOf "_law_cell" "_law_cell" (defArgs s__law_cell) (defBody s__law_cell) (defScope s__law_cell) .none kV16 dc16 pm16 an16 cd16 ct16), sl16⟩) (c16 : PySem.W.codeIn K cd16 "_law_cell" = true) (k16 : PySem.W.keepIn K (.ref f16) = true)
    (a17 : PySem.W.nsIn K mainGlobals "_law_size" = some (some (.ref f17))) (l17 : K.lookup f17 = some ⟨oc17, od17, .func (PySem.W.fnOf "_law_size" "_law_size" (defArgs s__law_size) (defBody s__law_size) (defScope s__law_size) .none kV17 dc17 pm17 an17 cd17 ct17), sl17⟩) (c17 : PySem.W.codeIn K cd17 "_law_size" = true) (k17 : PySem.W.keepIn K (.ref f17) = true)
    (a18 : PySem.W.nsIn K mainGlobals "_law_menu" = some (some (.ref f18))) (l18 : K.lookup f18 = some ⟨oc18, od18, .func (PySem.W.fnOf "_law_menu" "_law_menu" (defArgs s__law_menu) (defBody s__law_menu) (defScope s__law_menu) .none kV18 dc18 pm18 an18 cd18 ct18), sl18⟩) (c18 : PySem.W.codeIn K cd18 "_law_menu" = true) (k18 : PySem.W.keepIn K (.ref f18) = true)
    (a19 : PySem.W.nsIn K mainGlobals "_law_boxes" = some (some (.ref f19))) (l19 : K.lookup f19 = some ⟨oc19, od19, .func (PySem.W.fnOf "_law_boxes" "_law_boxes" (defArgs s__law_boxes) (defBody s__law_boxes) (defScope s__law_boxes) .none kV19 dc19 pm19 an19 cd19 ct19), sl19⟩) (c19 : PySem.W.codeIn K cd19 "_law_boxes" = true) (k19 : PySem.W.keepIn K (.ref f19) = true)
    (a20 : PySem.W.nsIn K mainGlobals "_law_stops" = some (some (.ref f20))) (l20 : K.lookup f20 = some ⟨oc20, od20, .func (PySem.W.fnOf "_law_stops" "_law_stops" (defArgs s__law_stops) (defBody s__law_stops) (defScope s__law_stops) .none kV20 dc20 pm20 an20 cd20 ct20), sl20⟩) (c20 : PySem.W.codeIn K cd20 "_law_stops" = true) (k20 : PySem.W.keepIn K (.ref f20) = true)
    (a21 : PySem.W.nsIn K mainGlobals "_law_numbers" = some (some (.ref f21))) (l21 : K.lookup f21 = some ⟨oc21, od21, .func (PySem.W.fnOf "_law_numbers" "_law_numbers" (defArgs s__law_numbers) (defBody s__law_numbers) (defScope s__law_numbers) .none kV21 dc21 pm21 an21 cd21 ct21), sl21⟩) (c21 : PySem.W.codeIn K cd21 "_law_numbers" = true) (k21 : PySem.W.keepIn K (.ref f21) = true)
    (a22 : PySem.W.nsIn K mainGlobals "_law_counts" = some (some (.ref f22))) (l22 : K.lookup f22 = some ⟨oc22, od22, .func (PySem.W.fnOf "_law_counts" "_law_counts" (defArgs s__law_counts) (defBody s__law_counts) (defScope s__law_counts) .none kV22 dc22 pm22 an22 cd22 ct22), sl22⟩) (c22 : PySem.W.codeIn K cd22 "_law_counts" = true) (k22 : PySem.W.keepIn K (.ref f22) = true)
    (a23 : PySem.W.nsIn K mainGlobals "_law_lacks" = some (some (.ref f23))) (l23 : K.lookup f23 = some ⟨oc23, od23, .func (PySem.W.fnOf "_law_lacks" "_law_lacks" (defArgs s__law_lacks) (defBody s__law_lacks) (defScope s__law_lacks) .none kV23 dc23 pm23 an23 cd23 ct23), sl23⟩) (c23 : PySem.W.codeIn K cd23 "_law_lacks" = true) (k23 : PySem.W.keepIn K (.ref f23) = true)
    (a24 : PySem.W.nsIn K mainGlobals "law" = some (some (.ref f24))) (l24 : K.lookup f24 = some ⟨oc24, od24, .func (PySem.W.fnOf "law" "law" (defArgs s_law) (defBody s_law) (defScope s_law) .none kV24 dc24 pm24 an24 cd24 ct24), sl24⟩) (c24 : PySem.W.codeIn K cd24 "law" = true) (k24 : PySem.W.keepIn K (.ref f24) = true)
    (z_isinstance : PySem.W.nsIn K mainGlobals "isinstance" = some none)
    (z_bool : PySem.W.nsIn K mainGlobals "bool" = some none)
    (z_int : PySem.W.nsIn K mainGlobals "int" = some none)
    (z_len : PySem.W.nsIn K mainGlobals "len" = some none)
    (z_tuple : PySem.W.nsIn K mainGlobals "tuple" = some none)
    (z_list : PySem.W.nsIn K mainGlobals "list" = some none)
    (z_all : PySem.W.nsIn K mainGlobals "all" = some none)
    (z_sorted : PySem.W.nsIn K mainGlobals "sorted" = some none)
    (z_set : PySem.W.nsIn K mainGlobals "set" = some none)
    (z_zip : PySem.W.nsIn K mainGlobals "zip" = some none)
    (z_range : PySem.W.nsIn K mainGlobals "range" = some none)
    (i_int : IsT K .int)
    (i_bool : IsT K .bl)
    (i_tuple : IsT K .tup)
    (i_list : IsT K .lst)
    : ∃ fd : FuncData, (∀ (s : Shared) (v : Value), BindsTo s fd ⟨[v], []⟩ [("script", v)]) ∧ ∀ base : Heap, K.In base → base.Ns mainGlobals mg → FnOk l.prog w K mg base CX0 8 fa fd ["script"] (spD K 1 m_law) := by
  have e := hfa.symm.trans (PySem.W.mg_of X G a24)
  cases e
  have F0 := fun_mk (st := s_is_whole) l0 c0 k0
  have b0 := F0.binds (ps := ["thing"]) fun _ _ _ _ _ _ us hl => match us, hl with | [_], _ => rfl
  have F1 := fun_mk (st := s_is_box) l1 c1 k1
  have b1 := F1.binds (ps := ["thing"]) fun _ _ _ _ _ _ us hl => match us, hl with | [_], _ => rfl
  have F2 := fun_mk (st := s_is_errand) l2 c2 k2
  have b2 := F2.binds (ps := ["home", "last", "boxes"]) fun _ _ _ _ _ _ us hl => match us, hl with | [_, _, _], _ => rfl
  have F3 := fun_mk (st := s_check_errand) l3 c3 k3
  have b3 := F3.binds (ps := ["home", "last", "boxes"]) fun _ _ _ _ _ _ us hl => match us, hl with | [_, _, _], _ => rfl
  have F4 := fun_mk (st := s_stops) l4 c4 k4
  have b4 := F4.binds (ps := ["home", "last", "boxes"]) fun _ _ _ _ _ _ us hl => match us, hl with | [_, _, _], _ => rfl
  have F5 := fun_mk (st := s_is_way) l5 c5 k5
  have b5 := F5.binds (ps := ["thing"]) fun _ _ _ _ _ _ us hl => match us, hl with | [_], _ => rfl
  have F6 := fun_mk (st := s_has_place) l6 c6 k6
  have b6 := F6.binds (ps := ["size", "thing"]) fun _ _ _ _ _ _ us hl => match us, hl with | [_, _], _ => rfl
  have F7 := fun_mk (st := s_is_ring_box) l7 c7 k7
  have b7 := F7.binds (ps := ["size", "thing"]) fun _ _ _ _ _ _ us hl => match us, hl with | [_, _], _ => rfl
  have F8 := fun_mk (st := s_is_ring) l8 c8 k8
  have b8 := F8.binds (ps := ["size", "home", "last", "boxes"]) fun _ _ _ _ _ _ us hl => match us, hl with | [_, _, _, _], _ => rfl
  have F9 := fun_mk (st := s_check_ring) l9 c9 k9
  have b9 := F9.binds (ps := ["size", "home", "last", "boxes"]) fun _ _ _ _ _ _ us hl => match us, hl with | [_, _, _, _], _ => rfl
  have F10 := fun_mk (st := s_without_ways) l10 c10 k10
  have b10 := F10.binds (ps := ["boxes"]) fun _ _ _ _ _ _ us hl => match us, hl with | [_], _ => rfl
  have F11 := fun_mk (st := s_steps) l11 c11 k11
  have b11 := F11.binds (ps := ["size", "start", "goal", "way"]) fun _ _ _ _ _ _ us hl => match us, hl with | [_, _, _, _], _ => rfl
  have F12 := fun_mk (st := s_ring_gaps) l12 c12 k12
  have b12 := F12.binds (ps := ["size", "home", "last", "boxes"]) fun _ _ _ _ _ _ us hl => match us, hl with | [_, _, _, _], _ => rfl
  have F13 := fun_mk (st := s_goes_over) l13 c13 k13
  have b13 := F13.binds (ps := ["size", "start", "goal", "gap"]) fun _ _ _ _ _ _ us hl => match us, hl with | [_, _, _, _], _ => rfl
  have F14 := fun_mk (st := s_bare_lack) l14 c14 k14
  have b14 := F14.binds (ps := ["size", "home", "last", "boxes", "gap"]) fun _ _ _ _ _ _ us hl => match us, hl with | [_, _, _, _, _], _ => rfl
  have F15 := fun_mk (st := s_ring_lacks) l15 c15 k15
  have b15 := F15.binds (ps := ["size", "home", "last", "boxes", "c"]) fun _ _ _ _ _ _ us hl => match us, hl with | [_, _, _, _, _], _ => rfl
  have F16 := fun_mk (st := s__law_cell) l16 c16 k16
  have b16 := F16.binds (ps := ["script", "k"]) fun _ _ _ _ _ _ us hl => match us, hl with | [_, _], _ => rfl
  have F17 := fun_mk (st := s__law_size) l17 c17 k17
  have b17 := F17.binds (ps := ["script"]) fun _ _ _ _ _ _ us hl => match us, hl with | [_], _ => rfl
  have F18 := fun_mk (st := s__law_menu) l18 c18 k18
  have b18 := F18.binds (ps := ["script", "size"]) fun _ _ _ _ _ _ us hl => match us, hl with | [_, _], _ => rfl
  have F19 := fun_mk (st := s__law_boxes) l19 c19 k19
  have b19 := F19.binds (ps := ["script", "some"]) fun _ _ _ _ _ _ us hl => match us, hl with | [_, _], _ => rfl
  have F20 := fun_mk (st := s__law_stops) l20 c20 k20
  have b20 := F20.binds (ps := ["home", "last", "boxes"]) fun _ _ _ _ _ _ us hl => match us, hl with | [_, _, _], _ => rfl
  have F21 := fun_mk (st := s__law_numbers) l21 c21 k21
  have b21 := F21.binds (ps := ["some", "start", "goal"]) fun _ _ _ _ _ _ us hl => match us, hl with | [_, _, _], _ => rfl
  have F22 := fun_mk (st := s__law_counts) l22 c22 k22
  have b22 := F22.binds (ps := ["some", "boxes"]) fun _ _ _ _ _ _ us hl => match us, hl with | [_, _], _ => rfl
  have F23 := fun_mk (st := s__law_lacks) l23 c23 k23
  have b23 := F23.binds (ps := ["some", "home", "last", "boxes", "c"]) fun _ _ _ _ _ _ us hl => match us, hl with | [_, _, _, _, _], _ => rfl
  have F24 := fun_mk (st := s_law) l24 c24 k24
  have y_isinstance := PySem.W.mg_none_of X G z_isinstance
  have y_bool := PySem.W.mg_none_of X G z_bool
  have y_int := PySem.W.mg_none_of X G z_int
  have y_len := PySem.W.mg_none_of X G z_len
  have y_tuple := PySem.W.mg_none_of X G z_tuple
  have y_list := PySem.W.mg_none_of X G z_list
  have y_all := PySem.W.mg_none_of X G z_all
  have y_sorted := PySem.W.mg_none_of X G z_sorted
  have y_set := PySem.W.mg_none_of X G z_set
  have y_zip := PySem.W.mg_none_of X G z_zip
  have y_range := PySem.W.mg_none_of X G z_range
  refine ⟨PySem.W.fnOf "law" "law" (defArgs s_law) (defBody s_law) (defScope s_law) .none kV24 dc24 pm24 an24 cd24 ct24, fun s v => .of_eq rfl, fun base _ _ => ?_⟩
  have C0 : Cal _ _ _ _ _ _ _ _ _ _ _ _ := ⟨ok_is_whole (P := l.prog) (w := w) (mg := mg) (base := base) F0 y_isinstance y_bool y_int i_int i_bool, PySem.W.mg_of X G a0, k0, b0⟩
  have C1 : Cal _ _ _ _ _ _ _ _ _ _ _ _ := ⟨ok_is_box (P := l.prog) (w := w) (mg := mg) (base := base) F1 C0 y_len y_isinstance y_tuple i_tuple, PySem.W.mg_of X G a1, k1, b1⟩
  have C2 : Cal _ _ _ _ _ _ _ _ _ _ _ _ := ⟨ok_is_errand (P := l.prog) (w := w) (mg := mg) (base := base) F2 C0 C1 y_isinstance y_list y_all i_list, PySem.W.mg_of X G a2, k2, b2⟩
  have C3 : Cal _ _ _ _ _ _ _ _ _ _ _ _ := ⟨ok_check_errand (P := l.prog) (w := w) (mg := mg) (base := base) F3 C2, PySem.W.mg_of X G a3, k3, b3⟩
  have C4 : Cal _ _ _ _ _ _ _ _ _ _ _ _ := ⟨ok_stops (P := l.prog) (w := w) (mg := mg) (base := base) F4 C3 y_sorted y_set, PySem.W.mg_of X G a4, k4, b4⟩
  have C5 : Cal _ _ _ _ _ _ _ _ _ _ _ _ := ⟨ok_is_way (P := l.prog) (w := w) (mg := mg) (base := base) F5 C0, PySem.W.mg_of X G a5, k5, b5⟩
  have C6 : Cal _ _ _ _ _ _ _ _ _ _ _ _ := ⟨ok_has_place (P := l.prog) (w := w) (mg := mg) (base := base) F6 C0, PySem.W.mg_of X G a6, k6, b6⟩
  have C7 : Cal _ _ _ _ _ _ _ _ _ _ _ _ := ⟨ok_is_ring_box (P := l.prog) (w := w) (mg := mg) (base := base) F7 C5 C6 y_len y_isinstance y_tuple i_tuple, PySem.W.mg_of X G a7, k7, b7⟩
  have C8 : Cal _ _ _ _ _ _ _ _ _ _ _ _ := ⟨ok_is_ring (P := l.prog) (w := w) (mg := mg) (base := base) F8 C6 C0 C7 y_all y_isinstance y_list i_list, PySem.W.mg_of X G a8, k8, b8⟩
  have C9 : Cal _ _ _ _ _ _ _ _ _ _ _ _ := ⟨ok_check_ring (P := l.prog) (w := w) (mg := mg) (base := base) F9 C8, PySem.W.mg_of X G a9, k9, b9⟩
  have C10 : Cal _ _ _ _ _ _ _ _ _ _ _ _ := ⟨ok_without_ways (P := l.prog) (w := w) (mg := mg) (base := base) F10, PySem.W.mg_of X G a10, k10, b10⟩
  have C11 : Cal _ _ _ _ _ _ _ _ _ _ _ _ := ⟨ok_steps (P := l.prog) (w := w) (mg := mg) (base := base) F11, PySem.W.mg_of X G a11, k11, b11⟩
  have C12 : Cal _ _ _ _ _ _ _ _ _ _ _ _ := ⟨ok_ring_gaps (P := l.prog) (w := w) (mg := mg) (base := base) F12 C9 C4 C10 y_list y_zip, PySem.W.mg_of X G a12, k12, b12⟩
  have C13 : Cal _ _ _ _ _ _ _ _ _ _ _ _ := ⟨ok_goes_over (P := l.prog) (w := w) (mg := mg) (base := base) F13 C11, PySem.W.mg_of X G a13, k13, b13⟩
  have C14 : Cal _ _ _ _ _ _ _ _ _ _ _ _ := ⟨ok_bare_lack (P := l.prog) (w := w) (mg := mg) (base := base) F14 C13 y_len, PySem.W.mg_of X G a14, k14, b14⟩
  have C15 : Cal _ _ _ _ _ _ _ _ _ _ _ _ := ⟨ok_ring_lacks (P := l.prog) (w := w) (mg := mg) (base := base) F15 C12 C14, PySem.W.mg_of X G a15, k15, b15⟩
  have C16 : Cal _ _ _ _ _ _ _ _ _ _ _ _ := ⟨ok__law_cell (P := l.prog) (w := w) (mg := mg) (base := base) F16 y_len, PySem.W.mg_of X G a16, k16, b16⟩
  have C17 : Cal _ _ _ _ _ _ _ _ _ _ _ _ := ⟨ok__law_size (P := l.prog) (w := w) (mg := mg) (base := base) F17 C16, PySem.W.mg_of X G a17, k17, b17⟩
  have C18 : Cal _ _ _ _ _ _ _ _ _ _ _ _ := ⟨ok__law_menu (P := l.prog) (w := w) (mg := mg) (base := base) F18 C16 y_range, PySem.W.mg_of X G a18, k18, b18⟩
  have C19 : Cal _ _ _ _ _ _ _ _ _ _ _ _ := ⟨ok__law_boxes (P := l.prog) (w := w) (mg := mg) (base := base) F19 C16, PySem.W.mg_of X G a19, k19, b19⟩
  have C20 : Cal _ _ _ _ _ _ _ _ _ _ _ _ := ⟨ok__law_stops (P := l.prog) (w := w) (mg := mg) (base := base) F20 y_sorted y_set, PySem.W.mg_of X G a20, k20, b20⟩
  have C21 : Cal _ _ _ _ _ _ _ _ _ _ _ _ := ⟨ok__law_numbers (P := l.prog) (w := w) (mg := mg) (base := base) F21 y_len, PySem.W.mg_of X G a21, k21, b21⟩
  have C22 : Cal _ _ _ _ _ _ _ _ _ _ _ _ := ⟨ok__law_counts (P := l.prog) (w := w) (mg := mg) (base := base) F22 C21, PySem.W.mg_of X G a22, k22, b22⟩
  have C23 : Cal _ _ _ _ _ _ _ _ _ _ _ _ := ⟨ok__law_lacks (P := l.prog) (w := w) (mg := mg) (base := base) F23 C22 C21 y_len y_range y_int, PySem.W.mg_of X G a23, k23, b23⟩
  exact ok_law F24 C17 C18 C19 C16 C15 C20 C23 y_list y_isinstance y_bool y_int i_int i_bool i_list
theorem walk {l : PySem.W.OpenLaw} {q : Program} {loose : List Str} {XP : (Str → Option Value) → Heap → Prop} {YP : World → Heap → Prop} {d : DefRec} {K : Params → PySem.W.Frag} (hn : l.most = some 63) (hdf : d.params.defaults = [])
    (hY : ∀ (w : World) (h : Heap), YP w h → (K w.params).In h)
    (F : ∀ (w : World) (mg : Str → Option Value) (fa : Addr) (h : Heap), (K w.params).In h → h.Ns mainGlobals mg → mg d.name = some (.ref fa) →
      ∃ fd : FuncData, (∀ (s : Shared) (u : Value), BindsTo s fd ⟨[u], []⟩ [("script", u)]) ∧ ∀ base : Heap, (K w.params).In base → base.Ns mainGlobals mg → FnOk l.prog w (K w.params) mg base CX0 8 fa fd ["script"] (spD (K w.params) 1 m_law)) :
    PySem.W.WalkO q loose XP YP l.row.toRowW d [] (fun f vs => PySem.call f vs) :=
  L2.walk_of (n := 63) (k := 8) (x := "script") (CX := fun _ => CX0) (sp := fun w => spD (K w.params) 1 m_law) hn (by decide) hdf ⟨rfl, by decide, by decide⟩ hY F
    (fun _ H a ns hl _ hS => ⟨H, [.scr ns], .sh (.bl true), law_true ns hl, rfl, Same.refl _, ⟨.ref a, [], rfl, ⟨a, rfl, hS⟩, rfl⟩, fun _ _ _ _ y => y⟩) fun _ _ _ _ _ z => z
end Kx
open PySem PySem.W PyProof.Rows
set_option maxRecDepth 100000 in
set_option maxHeartbeats 0 in
theorem PySem.Challenge.cw_hookrail_k62_ring_lacks_holds : PySem.Challenge.rw_hookrail_k62_ring_lacks.Holds := by
  w_on; o_law; k_head; (case hw => w_witness2)
  k_fill
  refine Kx.walk (l := PySem.Challenge.rw_hookrail_k62_ring_lacks) rfl rfl (fun w h Y => PySem.W.kIn_of Y) ?F
  case F =>
    intro w mg fa h KX G hmg
    refine' Kx.all_mk KX G hmg ?a0 ?l0 ?c0 ?k0 ?a1 ?l1 ?c1 ?k1 ?a2 ?l2 ?c2 ?k2 ?a3 ?l3 ?c3 ?k3 ?a4 ?l4 ?c4 ?k4 ?a5 ?l5 ?c5 ?k5 ?a6 ?l6 ?c6 ?k6 ?a7 ?l7 ?c7 ?k7 ?a8 ?l8 ?c8 ?k8 ?a9 ?l9 ?c9 ?k9 ?a10 ?l10 ?c10 ?k10 ?a11 ?l11 ?c11 ?k11 ?a12 ?l12 ?c12 ?k12 ?a13 ?l13 ?c13 ?k13 ?a14 ?l14 ?c14 ?k14 ?a15 ?l15 ?c15 ?k15 ?a16 ?l16 ?c16 ?k16 ?a17 ?l17 ?c17 ?k17 ?a18 ?l18 ?c18 ?k18 ?a19 ?l19 ?c19 ?k19 ?a20 ?l20 ?c20 ?k20 ?a21 ?l21 ?c21 ?k21 ?a22 ?l22 ?c22 ?k22 ?a23 ?l23 ?c23 ?k23 ?a24 ?l24 ?c24 ?k24 ?z_isinstance ?z_bool ?z_int ?z_len ?z_tuple ?z_list ?z_all ?z_sorted ?z_set ?z_zip ?z_range ?i_int ?i_bool ?i_tuple ?i_list
    (case a0 => k_is); (case l0 => k_is); (case c0 => k_is); (case k0 => k_is)
    (case a1 => k_is); (case l1 => k_is); (case c1 => k_is); (case k1 => k_is)
    (case a2 => k_is); (case l2 => k_is); (case c2 => k_is); (case k2 => k_is)
    (case a3 => k_is); (case l3 => k_is); (case c3 => k_is); (case k3 => k_is)
    (case a4 => k_is); (case l4 => k_is); (case c4 => k_is); (case k4 => k_is)
    (case a5 => k_is); (case l5 => k_is); (case c5 => k_is); (case k5 => k_is)
    (case a6 => k_is); (case l6 => k_is); (case c6 => k_is); (case k6 => k_is)
    (case a7 => k_is); (case l7 => k_is); (case c7 => k_is); (case k7 => k_is)
    (case a8 => k_is); (case l8 => k_is); (case c8 => k_is); (case k8 => k_is)
    (case a9 => k_is); (case l9 => k_is); (case c9 => k_is); (case k9 => k_is)
    (case a10 => k_is); (case l10 => k_is); (case c10 => k_is); (case k10 => k_is)
    (case a11 => k_is); (case l11 => k_is); (case c11 => k_is); (case k11 => k_is)
    (case a12 => k_is); (case l12 => k_is); (case c12 => k_is); (case k12 => k_is)
    (case a13 => k_is); (case l13 => k_is); (case c13 => k_is); (case k13 => k_is)
    (case a14 => k_is); (case l14 => k_is); (case c14 => k_is); (case k14 => k_is)
    (case a15 => k_is); (case l15 => k_is); (case c15 => k_is); (case k15 => k_is)
    (case a16 => k_is); (case l16 => k_is); (case c16 => k_is); (case k16 => k_is)
    (case a17 => k_is); (case l17 => k_is); (case c17 => k_is); (case k17 => k_is)
    (case a18 => k_is); (case l18 => k_is); (case c18 => k_is); (case k18 => k_is)
    (case a19 => k_is); (case l19 => k_is); (case c19 => k_is); (case k19 => k_is)
    (case a20 => k_is); (case l20 => k_is); (case c20 => k_is); (case k20 => k_is)
    (case a21 => k_is); (case l21 => k_is); (case c21 => k_is); (case k21 => k_is)
    (case a22 => k_is); (case l22 => k_is); (case c22 => k_is); (case k22 => k_is)
    (case a23 => k_is); (case l23 => k_is); (case c23 => k_is); (case k23 => k_is)
    (case a24 => k_is); (case l24 => k_is); (case c24 => k_is); (case k24 => k_is)
    (case z_isinstance => k_is)
    (case z_bool => k_is)
    (case z_int => k_is)
    (case z_len => k_is)
    (case z_tuple => k_is)
    (case z_list => k_is)
    (case z_all => k_is)
    (case z_sorted => k_is)
    (case z_set => k_is)
    (case z_zip => k_is)
    (case z_range => k_is)
    (case i_int => intro t ht; cases t <;> first | (exact absurd rfl ht) | rfl | k_is)
    (case i_bool => intro t ht; cases t <;> first | (exact absurd rfl ht) | rfl | k_is)
    (case i_tuple => intro t ht; cases t <;> first | (exact absurd rfl ht) | rfl | k_is)
    (case i_list => intro t ht; cases t <;> first | (exact absurd rfl ht) | rfl | k_is)
#print axioms PySem.Challenge.cw_hookrail_k62_ring_lacks_holds
