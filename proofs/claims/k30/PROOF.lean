import PyProof.Rows.All
import Wide.All
import OpenK.AllK
import Wide.FinOn
import Lean
import PyProof.EqAt
import PyProof.EqKinds
import PyProof.TupleCall
import PySem.SetOps
import KE.KDictSum
import KE.KDictList
import PyProof.ZipIter
import KE.KFind
import PyProof.MaxThree
import PyProof.Rows.IntMath
import PyProof.EnumMake
import PyProof.Rows.EnumRows
import KE.KDictLaws
import PyProof.Rows.SortRuns
import PyProof.Rows.SortShell
import PySem.Challenge.RW_hookrail_k30_any_walk_is_a_row
set_option Elab.async false
set_option linter.all false
set_option maxRecDepth 100000
namespace L2
open PySem PySem.Spec PyProof.Rows
abbrev Key := Sum Int Str
def keyIs : Key → Value → Bool
  | .inl k, v => Value.isInt k v
  | .inr x, v => Value.isStrOf x v
def keyH (w : World) : Key → Int
  | .inl k => hashInt k
  | .inr x => hashStr w x
theorem keyIs_shape : ∀ {k : Key} {v : Value}, keyIs k v = true → (∃ i t, k = Sum.inl i ∧ v = Value.int i t) ∨ (∃ x t, k = Sum.inr x ∧ v = Value.str x t)
  | .inl i, v, h => by
    obtain ⟨t, e⟩ := Value.isInt_shape (k := i) (v := v) h
    exact .inl ⟨i, t, rfl, e⟩
  | .inr x, v, h => by
    obtain ⟨t, e⟩ := Value.isStrOf_shape (x := x) (v := v) h
    exact .inr ⟨x, t, rfl, e⟩
theorem keyIs_int (i : Int) (t : Tok) : keyIs (.inl i) (.int i t) = true := by simp [keyIs, Value.isInt]
theorem keyIs_str (x : Str) (t : Tok) : keyIs (.inr x) (.str x t) = true := by simp [keyIs, Value.isStrOf]
theorem key_ll (a b : Int) : decide ((Sum.inl a : Key) = Sum.inl b) = (a == b) := by
  by_cases e : a = b
  · subst e; simp
  · have h : ¬ (Sum.inl a : Key) = Sum.inl b := fun q => e (Sum.inl.inj q)
    rw [decide_eq_false h]
    exact (beq_eq_false_iff_ne.mpr e).symm
theorem key_rr (a b : Str) : decide ((Sum.inr a : Key) = Sum.inr b) = decide (a = b) := by
  by_cases e : a = b
  · subst e; simp
  · have h : ¬ (Sum.inr a : Key) = Sum.inr b := fun q => e (Sum.inr.inj q)
    rw [decide_eq_false h, decide_eq_false e]
theorem key_lr (a : Int) (b : Str) : decide ((Sum.inl a : Key) = Sum.inr b) = false := decide_eq_false (fun q => nomatch q)
theorem key_rl (a : Str) (b : Int) : decide ((Sum.inr a : Key) = Sum.inl b) = false := decide_eq_false (fun q => nomatch q)
def mixKind (prog : Program) (w : World) : PySem.KeyKind prog w Key where
  is := keyIs
  hash := keyH w
  inj := fun v a b ha hb => by
    rcases keyIs_shape ha with ⟨i, t, rfl, rfl⟩ | ⟨x, t, rfl, rfl⟩
    · rcases keyIs_shape hb with ⟨j, u, rfl, e⟩ | ⟨y, u, rfl, e⟩
      · injection e with e1 _; rw [e1]
      · exact nomatch e
    · rcases keyIs_shape hb with ⟨j, u, rfl, e⟩ | ⟨y, u, rfl, e⟩
      · exact nomatch e
      · injection e with e1 _; rw [e1]
  byValue := fun k v h => by
    rcases keyIs_shape h with ⟨i, t, rfl, rfl⟩ | ⟨x, t, rfl, rfl⟩ <;> rfl
  pyHash := fun hv h => by
    rcases keyIs_shape hv with ⟨i, t, rfl, rfl⟩ | ⟨x, t, rfl, rfl⟩
    · exact wpAny_pyHash_int h
    · exact wpAny_pyHash_str h
  eqBool := fun hu hv h => by
    rcases keyIs_shape hu with ⟨i, t, rfl, rfl⟩ | ⟨x, t, rfl, rfl⟩
    · rcases keyIs_shape hv with ⟨j, u, rfl, rfl⟩ | ⟨y, u, rfl, rfl⟩
      · rw [key_ll] at h; exact wpAny_eqBool_int h
      · rw [key_lr] at h; exact SeqAt.EqAt.int_str i t y u _ _ _ _ h
    · rcases keyIs_shape hv with ⟨j, u, rfl, rfl⟩ | ⟨y, u, rfl, rfl⟩
      · rw [key_rl] at h; exact SeqAt.EqAt.str_int x t j u _ _ _ _ h
      · rw [key_rr] at h; exact wpAny_eqBool_str h
  «strs» := fun k x t v h => by
    rcases keyIs_shape h with ⟨i, u, rfl, e⟩ | ⟨y, u, rfl, e⟩
    · exact nomatch e
    · injection e with e1 _
      subst e1
      cases v <;> rfl
theorem mixKind_int (prog : Program) (w : World) (i : Int) (t : Tok) : (mixKind prog w).is (.inl i) (.int i t) = true := keyIs_int i t
theorem mixKind_str (prog : Program) (w : World) (x : Str) (t : Tok) : (mixKind prog w).is (.inr x) (.str x t) = true := keyIs_str x t
end L2
namespace L2
open PySem PySem.Spec PyProof.Rows
inductive V where
  | non | bl (b : Bool) | int (i : Int) | str (x : Str) | byt (b : Array UInt8) | flt (b : UInt64) | ref (a : Addr) | ty (n : String)
  deriving DecidableEq
def RelV : V → Value → Prop
  | .non, u => u = Value.none
  | .bl b, u => u = Value.bool b
  | .int i, u => ∃ t, u = Value.int i t
  | .str x, u => ∃ t, u = Value.str x t
  | .byt b, u => ∃ t, u = Value.bytes b t
  | .flt b, u => ∃ t, u = Value.float b t
  | .ref a, u => u = Value.ref a
  | .ty n, u => u = Value.type n
abbrev Vals : List V → List Value → Prop := Paired RelV
theorem Vals.length {xs : List V} {us : List Value} (r : Vals xs us) : xs.length = us.length := Paired.length r
theorem Vals.get : ∀ {xs : List V} {us : List Value} {i : Nat} {x : V}, Vals xs us → xs[i]? = some x → ∃ u, us[i]? = some u ∧ RelV x u
  | _, _, _, _, .nil, e => by simp at e
  | _, _, 0, _, .cons r _, e => by simp at e; subst e; exact ⟨_, rfl, r⟩
  | _, _, i + 1, x, .cons _ t, e => by
    obtain ⟨u, h1, h2⟩ := Vals.get (i := i) (x := x) t (by simpa using e)
    exact ⟨u, by simpa using h1, h2⟩
theorem Vals.set {x : V} {u : Value} (r : RelV x u) : ∀ {xs : List V} {us : List Value} (i : Nat), Vals xs us → Vals (xs.set i x) (us.set i u)
  | _, _, _, .nil => .nil
  | _, _, 0, .cons _ t => .cons r t
  | _, _, i + 1, .cons q t => .cons q (Vals.set r i t)
theorem Vals.append : ∀ {xs ys : List V} {us ws : List Value}, Vals xs us → Vals ys ws → Vals (xs ++ ys) (us ++ ws)
  | _, _, _, _, .nil, s => s
  | _, _, _, _, .cons r t, s => .cons r (Vals.append t s)
theorem Vals.take : ∀ {xs : List V} {us : List Value} (n : Nat), Vals xs us → Vals (xs.take n) (us.take n)
  | _, _, 0, _ => .nil
  | _, _, _ + 1, .nil => .nil
  | _, _, n + 1, .cons r t => .cons r (Vals.take n t)
theorem Vals.drop : ∀ {xs : List V} {us : List Value} (n : Nat), Vals xs us → Vals (xs.drop n) (us.drop n)
  | _, _, 0, r => r
  | _, _, _ + 1, .nil => .nil
  | _, _, n + 1, .cons _ t => Vals.drop n t
def RelO : Option V → Option Value → Prop
  | some v, some u => RelV v u
  | none, none => True
  | _, _ => False
def KV {κ : Type} : List (κ × V) → List (κ × Value) → Prop := Paired fun (p : κ × V) (q : κ × Value) => p.1 = q.1 ∧ RelV p.2 q.2
def kV : Key → V
  | .inl i => .int i
  | .inr x => .str x
inductive HO where
  /-- a list -/
  | lst (xs : List V)
  /-- a tuple (never changes) -/
  | tup (xs : List V)
  /-- a dict whose keys are ints and texts; one whose keys are tuples of ints and texts (the empty one is both) -/
  | dK (kvs : List (Key × V)) | dT (kvs : List (List Key × V))
  /-- a set of ints: its members, its size -/
  | set (S : Int → Bool) (n : Nat)
  /-- an instance of the class at C, its dict at dx, its attributes -/
  | ins (C dx : Addr) (fs : List (Str × V))
  /-- the dict of the instance at x -/
  | own (x : Addr)
  /-- the dict of an exception -/
  | xd (fs : List (Str × V))
  /-- a bound method, f of x -/
  | met (f x : Addr)
  /-- a range object lo, lo + 1, .. below hi -/
  | rng (lo hi : Int)
  /-- a thing that is known to the object (the script; a dict while a loop walks it): read, never written while it is so -/
  | frz (o : Obj) (u : HO)
  /-- a code object's table -/
  | tbl (ps : Array Value)
  /-- any other thing, by what is true of its one object (a def of one's own: SetO a S n := HO.ext fun h => ..) -/
  | ext (φ : Heap → Prop)
abbrev Hp := Addr → Option HO
def upd (H : Hp) (a : Addr) (o : HO) : Hp := fun b => if b = a then some o else H b
theorem upd_same {H : Hp} {a : Addr} {o : HO} : upd H a o a = some o := by unfold upd; rw [if_pos rfl]
theorem upd_ne {H : Hp} {a b : Addr} {o : HO} (h : b ≠ a) : upd H a o b = H b := by unfold upd; rw [if_neg h]
theorem ne_of_none {H : Hp} {a b : Addr} {o : HO} (h : H a = some o) (h' : H b = none) : a ≠ b := by
  intro e; subst e; rw [h] at h'; cases h'
section
variable (P : Program) (w : World)
def ObjOk (H : Hp) (h : Heap) (a : Addr) : HO → Prop
  | .lst xs => xs.length ≤ sizeLine ∧ ∃ (its : List Value) (n : Nat), Vals xs its ∧ h.get? a = some { cls := .type "list", data := .seq its.toArray n }
  | .tup xs => xs.length ≤ sizeLine ∧ ∃ its : List Value, Vals xs its ∧ IsTup h a its.toArray
  | .dK kvs => kvs.length ≤ sizeLine ∧ (a == sysModules) = false ∧ ∃ vs, KV kvs vs ∧ h.DictOf (mixKind P w) a vs
  | .dT kvs => kvs.length ≤ sizeLine ∧ (a == sysModules) = false ∧ ∃ xs : List (List Key × Addr × Value),
      Paired (fun (p : List Key × V) (q : List Key × Addr × Value) => p.1 = q.1 ∧ H q.2.1 = some (.tup (p.1.map kV)) ∧ RelV p.2 q.2.2) kvs xs ∧
      ∃ o es ep, h.get? a = some o ∧ o.ExactDict ∧ o.data = .dict es ep ∧ es.toList = xs.map (entryOfKey (tupleKind (mixKind P w))) ∧ (xs.map (·.1)).Nodup
  | .set S n => h.SetOf (intKind P w) a S n
  | .ins C dx fs => H dx = some (.own a) ∧ fs.length ≤ 1000 ∧ dx ≠ a ∧ h.get? a = some (PySem.W.instObj C dx) ∧
      ∃ mA, h.Ns1 dx mA ∧ (∀ f, RelO (fs.lookup f) (mA f)) ∧ PySem.Within mA (fs.map (·.1))
  | .own _ => ∃ o, h.get? a = some o
  | .xd fs => ∃ mA, h.Ns1 a mA ∧ ∀ f, RelO (fs.lookup f) (mA f)
  | .rng lo hi => ∃ t u v, h.get? a = some { cls := .type "range", data := .fields #[.int lo t, .int hi u, .int 1 v] }
  | .frz o u => h.get? a = some o ∧ ObjOk H h a u
  | .tbl ps => h.get? a = some { cls := .none, data := .fields ps }
  | .met f x => h.get? a = some (PySem.W.methodObj (.ref f) (.ref x))
  | .ext φ => φ h ∧ (∃ o, h.get? a = some o) ∧ ∀ h1 h2 : Heap, φ h1 → (∀ o, h1.get? a = some o → h2.get? a = some o) → φ h2
def HOk (H : Hp) (h : Heap) : Prop := ∀ a o, H a = some o → ObjOk P w H h a o
end
section
variable {P : Program} {w : World} {H H' : Hp} {h h' : Heap} {a : Addr} {o : HO}
theorem ObjOk.lt (x : ObjOk P w H h a o) : a < h.objs.size := by
  cases o with
  | lst xs => obtain ⟨_, _, _, _, e⟩ := x; exact Heap.lt_size e
  | tup xs => obtain ⟨_, _, _, p⟩ := x; exact p.lt
  | dK kvs => obtain ⟨_, _, _, _, o, _, _, e, _⟩ := x; exact Heap.lt_size e
  | dT kvs => obtain ⟨_, _, _, _, o, _, _, e, _⟩ := x; exact Heap.lt_size e
  | set S n => obtain ⟨o, _, _, _, e, _⟩ := x; exact Heap.lt_size e
  | ins C dx fs => obtain ⟨_, _, _, e, _⟩ := x; exact Heap.lt_size e
  | own y => obtain ⟨_, e⟩ := x; exact Heap.lt_size e
  | xd fs => obtain ⟨_, ⟨_, _, _, e, _⟩, _⟩ := x; exact Heap.lt_size e
  | rng lo hi => obtain ⟨_, _, _, e⟩ := x; exact Heap.lt_size e
  | frz ob u => obtain ⟨e, _⟩ := x; exact Heap.lt_size e
  | tbl ps => exact Heap.lt_size (show h.get? a = some _ from x)
  | met f y => exact Heap.lt_size (show h.get? a = some _ from x)
  | ext φ => obtain ⟨_, ⟨_, e⟩, _⟩ := x; exact Heap.lt_size e
theorem Paired.mapP {α β : Type} {F G : α → β → Prop} : ∀ {l₁ : List α} {l₂ : List β}, Paired F l₁ l₂ → (∀ a b, F a b → G a b) → Paired G l₁ l₂
  | _, _, .nil, _ => .nil
  | _, _, .cons r t, f => .cons (f _ _ r) (Paired.mapP t f)
theorem ObjOk.stay (x : ObjOk P w H h a o) (k : ∀ b u, (b = a ∨ H b = some (.own a)) → h.get? b = some u → h'.get? b = some u)
    (ho : ∀ b, H b = some (.own a) → H' b = some (.own a)) (ht : ∀ b xs, H b = some (.tup xs) → H' b = some (.tup xs)) : ObjOk P w H' h' a o := by
  induction o with
  | lst xs => obtain ⟨z, its, n, r, e⟩ := x; exact ⟨z, its, n, r, k _ _ (.inl rfl) e⟩
  | tup xs => obtain ⟨z, its, r, ob, e, c⟩ := x; exact ⟨z, its, r, ob, k _ _ (.inl rfl) e, c⟩
  | dK kvs => obtain ⟨z, y, vs, r, ob, es, ep, e, c⟩ := x; exact ⟨z, y, vs, r, ob, es, ep, k _ _ (.inl rfl) e, c⟩
  | dT kvs =>
    obtain ⟨z, y, xs, r, ob, es, ep, e, c⟩ := x
    exact ⟨z, y, xs, Paired.mapP r fun p q z => ⟨z.1, ht _ _ z.2.1, z.2.2⟩, ob, es, ep, k _ _ (.inl rfl) e, c⟩
  | set S n => obtain ⟨ob, es, ep, t, e, c⟩ := x; exact ⟨ob, es, ep, t, k _ _ (.inl rfl) e, c⟩
  | ins C dx fs =>
    obtain ⟨d, z, ne, e, mA, ⟨od, es, ep, e2, c⟩, r⟩ := x
    exact ⟨ho _ d, z, ne, k _ _ (.inl rfl) e, mA, ⟨od, es, ep, k _ _ (.inr d) e2, c⟩, r⟩
  | own y => obtain ⟨ob, e⟩ := x; exact ⟨ob, k _ _ (.inl rfl) e⟩
  | xd fs => obtain ⟨mA, ⟨od, es, ep, e, c⟩, r⟩ := x; exact ⟨mA, ⟨od, es, ep, k _ _ (.inl rfl) e, c⟩, r⟩
  | rng lo hi => obtain ⟨t, u, v, e⟩ := x; exact ⟨t, u, v, k _ _ (.inl rfl) e⟩
  | frz ob u ih => obtain ⟨e, q⟩ := x; exact ⟨k _ _ (.inl rfl) e, ih q⟩
  | tbl ps =>
    have e : h.get? a = some { cls := .none, data := .fields ps } := x
    show h'.get? a = some { cls := .none, data := .fields ps }
    exact k a _ (.inl rfl) e
  | met f y =>
    have e : h.get? a = some (PySem.W.methodObj (.ref f) (.ref y)) := x
    show h'.get? a = some (PySem.W.methodObj (.ref f) (.ref y))
    exact k a _ (.inl rfl) e
  | ext φ => obtain ⟨p, ⟨o, e⟩, st⟩ := x; exact ⟨st _ _ p fun o q => k _ _ (.inl rfl) q, ⟨o, k _ _ (.inl rfl) e⟩, st⟩
theorem HOk.lt (x : HOk P w H h) (e : H a = some o) : a < h.objs.size := (x a o e).lt
theorem HOk.fresh (x : HOk P w H h) (e : h.objs.size ≤ a) : H a = none := by
  cases q : H a with
  | none => rfl
  | some u => exact absurd (Nat.lt_of_lt_of_le (x.lt q) e) (Nat.lt_irrefl _)
theorem HOk.kept (x : HOk P w H h) (k : ∀ b u, h.get? b = some u → h'.get? b = some u) : HOk P w H h' := fun a o e =>
  (x a o e).stay (fun b u _ q => k b u q) (fun _ q => q) fun _ _ q => q
theorem HOk.laid (x : HOk P w H h) (k : ∀ b u, h.get? b = some u → h'.get? b = some u) (hp : h.objs.size ≤ a) (new : ObjOk P w (upd H a o) h' a o) : HOk P w (upd H a o) h' := fun b u e => by
  have hn := x.fresh hp
  by_cases hb : b = a
  · subst hb; rw [upd_same] at e; cases e; exact new
  · rw [upd_ne hb] at e
    exact (x b u e).stay (fun c v _ q => k c v q) (fun c q => by rw [upd_ne (ne_of_none q hn)]; exact q) fun c xs q => by rw [upd_ne (ne_of_none q hn)]; exact q
end
def Rd (H : Hp) (a : Addr) (u : HO) : Prop := H a = some u ∨ ∃ o, H a = some (.frz o u)
theorem Rd.of {H : Hp} {a : Addr} {u : HO} (h : H a = some u) : Rd H a u := .inl h
theorem Rd.ok {P : Program} {w : World} {H : Hp} {h : Heap} {a : Addr} {u : HO} (r : Rd H a u) (x : HOk P w H h) : ObjOk P w H h a u := by
  rcases r with r | ⟨o, r⟩
  · exact x a u r
  · obtain ⟨_, q⟩ := x a _ r
    exact q
def Mut : Option HO → Prop
  | some (.lst _) => True
  | some (.dK _) => True
  | some (.dT _) => True
  | some (.set _ _) => True
  | some (.ins _ _ _) => True
  | some (.ext _) => True
  | _ => False
section
variable {P : Program} {w : World} {H : Hp} {h h' : Heap} {x e : Addr} {o' : HO}
theorem HOk.write (ok : HOk P w H h) (mu : Mut (H x)) (he : e = x ∨ H e = some (.own x)) (k : ∀ b u, b ≠ e → h.get? b = some u → h'.get? b = some u) (heo : ∃ u, h'.get? e = some u)
    (new : ObjOk P w (upd H x o') h' x o') : HOk P w (upd H x o') h' := fun b u q => by
  have nown : ∀ c y, H c = some (.own y) → c ≠ x := fun c y r z => by subst z; rw [r] at mu; exact mu
  have ntup : ∀ c xs, H c = some (.tup xs) → c ≠ x := fun c xs r z => by subst z; rw [r] at mu; exact mu
  by_cases hb : b = x
  · subst hb; rw [upd_same] at q; cases q; exact new
  · rw [upd_ne hb] at q
    by_cases hbe : b = e
    · have q' : H b = some (.own x) := by
        rcases he with z | z
        · exact absurd (hbe.trans z) hb
        · rw [hbe]; exact z
      rw [q] at q'; cases q'
      obtain ⟨v, hv⟩ := heo
      exact ⟨v, by rw [hbe]; exact hv⟩
    · refine (ok b u q).stay (fun c v hc r => k c v ?_ r) (fun c r => by rw [upd_ne (nown c b r)]; exact r) fun c xs r => by rw [upd_ne (ntup c xs r)]; exact r
      rcases hc with rfl | hc
      · exact hbe
      · rintro rfl
        rcases he with z | z
        · exact nown c b hc z
        · rw [hc] at z; cases z; exact hb rfl
end
structure Un (fs ex : List Addr) (H H' : Hp) (h h' : Heap) : Prop where
  keep : ∀ b o, h.get? b = some o → H b = none → b ∉ fs → b ∉ ex → h'.get? b = some o
  slot : ∀ b o, h.get? b = some o → H b = none → b ∈ fs → b ∉ ex → ∃ sl, h'.get? b = some { o with slots := sl }
  free : ∀ b o, h.get? b = some o → H b = none → b ∉ ex → H' b = none
  there : ∀ b o, h.get? b = some o → b ∉ ex → ∃ o', h'.get? b = some o'
  tups : ∀ b xs, H b = some (.tup xs) → H' b = some (.tup xs)
  frzs : ∀ b o u, H b = some (.frz o u) → H' b = some (.frz o u)
  tbls : ∀ b ps, H b = some (.tbl ps) → ∃ more, H' b = some (.tbl (ps ++ more))
section
variable {fs fs' ex ex' : List Addr} {H H1 H2 : Hp} {h h1 h2 h' : Heap} {a x e : Addr} {o : HO}
theorem Un.any (u : Un fs ex H H1 h h1) {b : Addr} {ob : Obj} (q : h.get? b = some ob) (n : H b = none) (hx : b ∉ ex) : ∃ sl, h1.get? b = some { ob with slots := sl } := by
  by_cases hb : b ∈ fs
  · exact u.slot b ob q n hb hx
  · exact ⟨ob.slots, u.keep b ob q n hb hx⟩
theorem Un.trans (a : Un fs ex H H1 h h1) (b : Un fs ex H1 H2 h1 h2) : Un fs ex H H2 h h2 where
  keep := fun c ob q n hc hx => b.keep c ob (a.keep c ob q n hc hx) (a.free c ob q n hx) hc hx
  slot := fun c ob q n hc hx => by
    obtain ⟨sl, e1⟩ := a.slot c ob q n hc hx
    obtain ⟨sl', e2⟩ := b.slot c _ e1 (a.free c ob q n hx) hc hx
    exact ⟨sl', e2⟩
  free := fun c ob q n hx => by
    obtain ⟨o', e1⟩ := a.there c ob q hx
    exact b.free c o' e1 (a.free c ob q n hx) hx
  there := fun c ob q hx => by
    obtain ⟨o', e1⟩ := a.there c ob q hx
    exact b.there c o' e1 hx
  tups := fun c xs q => b.tups c xs (a.tups c xs q)
  frzs := fun c ob xs q => b.frzs c ob xs (a.frzs c ob xs q)
  tbls := fun c ps q => by
    obtain ⟨m1, e1⟩ := a.tbls c ps q
    obtain ⟨m2, e2⟩ := b.tbls c _ e1
    exact ⟨m1 ++ m2, by rw [e2, Array.append_assoc]⟩
theorem Un.kept (k : ∀ b u, h.get? b = some u → h'.get? b = some u) : Un fs ex H H h h' :=
  ⟨fun b ob q _ _ _ => k b ob q, fun b ob q _ _ _ => ⟨ob.slots, k b ob q⟩, fun _ _ _ n _ => n, fun b ob q _ => ⟨ob, k b ob q⟩, fun _ _ q => q, fun _ _ _ q => q, fun _ ps q => ⟨#[], by rw [q]; simp⟩⟩
theorem Un.refl : Un fs ex H H h h := Un.kept fun _ _ q => q
theorem Un.laid (k : ∀ b u, h.get? b = some u → h'.get? b = some u) (hp : h.objs.size ≤ a) (hn : H a = none) : Un fs ex H (upd H a o) h h' where
  keep := fun b u q _ _ _ => k b u q
  slot := fun b u q _ _ _ => ⟨u.slots, k b u q⟩
  free := fun b u q n _ => by rw [upd_ne (Nat.ne_of_lt (Nat.lt_of_lt_of_le (Heap.lt_size q) hp))]; exact n
  there := fun b u q _ => ⟨u, k b u q⟩
  tups := fun b xs q => by rw [upd_ne (ne_of_none q hn)]; exact q
  frzs := fun b u xs q => by rw [upd_ne (ne_of_none q hn)]; exact q
  tbls := fun b ps q => ⟨#[], by rw [upd_ne (ne_of_none q hn), q]; simp⟩
theorem Un.write (mu : Mut (H x)) (he : e = x ∨ H e = some (.own x)) (k : ∀ b u, b ≠ e → h.get? b = some u → h'.get? b = some u) (heo : ∃ u, h'.get? e = some u) : Un fs ex H (upd H x o) h h' := by
  have hx : ∀ b, H b = none → b ≠ x := fun b n z => by subst z; rw [n] at mu; exact mu
  have hb : ∀ b, H b = none → b ≠ e := fun b n z => by
    subst z
    rcases he with r | r
    · exact hx b n r
    · rw [n] at r; cases r
  have hm : ∀ b u, H b = some u → ¬ Mut (some u) → b ≠ x := fun b u q nm z => by subst z; rw [q] at mu; exact nm mu
  refine ⟨fun b u q n _ _ => k b u (hb b n) q, fun b u q n _ _ => ⟨u.slots, k b u (hb b n) q⟩, fun b u q n _ => by rw [upd_ne (hx b n)]; exact n, fun b u q _ => ?_,
    fun b xs q => by rw [upd_ne (hm b _ q fun z => z)]; exact q, fun b u xs q => by rw [upd_ne (hm b _ q fun z => z)]; exact q, fun b ps q => ⟨#[], by rw [upd_ne (hm b _ q fun z => z), q]; simp⟩⟩
  by_cases hbe : b = e
  · subst hbe; exact heo
  · exact ⟨u, k b u hbe q⟩
theorem Un.mono (u : Un fs ex H H1 h h1) (hs : ∀ b ∈ fs, b ∈ fs') (hx : ∀ b ∈ ex, b ∈ ex') : Un fs' ex' H H1 h h1 :=
  ⟨fun b ob q n hb he => u.keep b ob q n (fun z => hb (hs b z)) fun z => he (hx b z), fun _ _ q n _ he => u.any q n fun z => he (hx _ z), fun b ob q n he => u.free b ob q n fun z => he (hx b z), fun b ob q he => u.there b ob q fun z => he (hx b z), u.tups, u.frzs, u.tbls⟩
end
def trk (h : Heap) (H : Hp) : List Addr := (List.range h.objs.size).filter fun a => (H a).isSome
def hidT (h : Heap) (H : Hp) : Heap := PySem.W.hideAll h (trk h H)
theorem hidT_size (h : Heap) (H : Hp) : (hidT h H).objs.size = h.objs.size := PySem.W.hideAll_size _ _
theorem hidT_get {h : Heap} {H : Hp} {b : Addr} {o : Obj} (e : h.get? b = some o) (n : H b = none) : (hidT h H).get? b = some o :=
  PySem.W.hideAll_get _ e fun hm => by
    have q : (H b).isSome = true := (List.mem_filter.mp hm).2
    rw [n] at q; simp at q
theorem of_hidT {h : Heap} {H : Hp} {b : Addr} {o : Obj} (e : (hidT h H).get? b = some o) : h.get? b = some o ∧ H b = none := by
  have e' : h.get? b = some o := PySem.W.of_hideAll (trk h H) e
  refine ⟨e', ?_⟩
  cases q : H b with
  | none => rfl
  | some x =>
    have hm : b ∈ trk h H := List.mem_filter.mpr ⟨List.mem_range.mpr (Heap.lt_size e'), by simp [q]⟩
    have z : (hidT h H).get? b = none := PySem.W.hideAll_none (trk h H) hm
    rw [z] at e; cases e
def allNews (g h : Heap) (L : Addr) : List (Addr × Obj) := (List.range h.objs.size).filterMap fun a => if a = L ∨ (g.get? a).isSome = true then none else (h.get? a).map fun o => (a, o)
def rest (g h : Heap) (L d : Addr) : List (Addr × Obj) := (allNews g h L).filter fun p => decide (p.1 ≠ d)
end L2
namespace L2
open PySem PySem.Spec PyProof.Rows
structure Mod (K : PySem.W.Frag) (mg : Str → Option Value) (base : Heap) : Prop where
  kin : K.In base
  glob : base.Ns mainGlobals mg
  blt : ∃ mb, base.Ns builtinsNs mb ∧ ∀ x : Str, x ≠ "__name__" → mb x = bootBuiltins x
  nolimit : base.NoLimit
structure Cx where
  prog : Program
  w : World
  K : PySem.W.Frag
  mg : Str → Option Value
  base : Heap
  A : Around
  N : List Str
  s₀ : Shared
  H₀ : Hp
  env : Env
  outer : List Env
  stack : List Env
  ex : List Addr
  fn : Str → Bool
  calm : Bool
  pn : List (Addr × Obj)
  xe : Value → Shared → Prop
def frs (l : List Env) : List Addr := l.filterMap (·.frame)
abbrev Cx.fs (X : Cx) : List Addr := frs X.outer
def Vis (sc : Scope) (x : Str) : Prop := sc.names.lookup x = some .local ∨ sc.names.lookup x = some .cell ∨ sc.names.lookup x = some .free
def Loc (sc : Scope) (x : Str) : Prop := sc.names.lookup x = some .local ∨ sc.names.lookup x = some .cell
def Look (env : Env) (h : Heap) (m : Str → Option Value) (x : Str) (u : Value) : Prop :=
  (env.kindOf x = some .local ∧ m x = some u) ∨ ((env.kindOf x = some .cell ∨ env.kindOf x = some .free) ∧ ∃ c, env.cells.lookup x = some c ∧ h.IsCell c (some u))
structure Cx.Ok (X : Cx) : Prop where
  mod : Mod X.K X.mg X.base
  kind : X.env.scope.kind = .function
  glob : X.env.globals = mainGlobals
  blt : X.env.builtins = builtinsNs
  above : X.s₀.heap.objs.size ≤ X.env.locals
  inj : ∀ x y c, X.env.cells.lookup x = some c → X.env.cells.lookup y = some c → x = y
  has : ∀ x, (X.env.kindOf x = some .cell ∨ X.env.kindOf x = some .free) → ∃ c, X.env.cells.lookup x = some c
  cab : ∀ x c, X.fn x = true → X.env.cells.lookup x = some c → X.s₀.heap.objs.size ≤ c
  hd : X.calm = true → X.A.handled = none
  frames : X.A.frames = some X.stack
  stk : X.stack = X.outer ∨ (X.stack = X.env :: X.outer ∧ X.env.frame = some X.env.locals)
  exf : ∀ b ∈ X.ex, b ≠ X.env.locals ∧ ∀ x c, X.env.cells.lookup x = some c → c ≠ b
  bs : ∀ b o, X.base.get? b = some o → X.s₀.heap.get? b = some o ∧ X.H₀ b = none
  bsz : X.base.objs.size ≤ X.s₀.heap.objs.size
  noex : ∀ b o, X.base.get? b = some o → b ∉ X.ex
  exfs : ∀ b ∈ X.ex, b ∉ X.fs
  funs : X.s₀.heap.FunFrames X.base X.outer
  frf : ∀ b ∈ X.fs, X.H₀ b = none
structure Inv (X : Cx) (pins : List (Addr × Obj)) (σ : List (Option V)) (H : Hp) (s : Shared) : Prop where
  ok : X.Ok
  os : s.os = X.s₀.os
  bare : AllBare s.gens
  base : Un X.fs X.ex X.H₀ H X.s₀.heap s.heap
  loc : ∃ m, s.heap.Ns X.env.locals m ∧ ∀ (i : Nat) (x : Str) (v : V), X.N[i]? = some x → σ[i]? = some (some v) → Vis X.env.scope x → ∃ u, RelV v u ∧ Look X.env s.heap m x u
  cell : ∀ x c, X.env.cells.lookup x = some c → ∃ v, s.heap.IsCell c v
  free : H X.env.locals = none
  freeC : ∀ x c, X.env.cells.lookup x = some c → H c = none
  pin : ∀ p ∈ X.pn ++ pins, s.heap.get? p.1 = some p.2 ∧ H p.1 = none ∧ p.1 ≠ X.env.locals ∧ p.1 ∉ X.fs ∧ ∀ v, p.2.data ≠ .cell v
  hok : HOk X.prog X.w H s.heap
  len : σ.length = X.N.length
section
variable {X : Cx} {pins : List (Addr × Obj)} {σ : List (Option V)} {H H' : Hp} {s : Shared} {h' : Heap}
theorem Cx.Ok.nofr (ok : X.Ok) {b : Addr} {o : Obj} (e : X.base.get? b = some o) : b ∉ X.fs := fun hb => by
  have := (ok.funs.mem hb).1
  rw [e] at this; cases this
theorem Inv.bs (I : Inv X pins σ H s) : ∀ b o, X.base.get? b = some o → s.heap.get? b = some o ∧ H b = none := fun b o e =>
  ⟨I.base.keep b o (I.ok.bs b o e).1 (I.ok.bs b o e).2 (I.ok.nofr e) (I.ok.noex b o e), I.base.free b o (I.ok.bs b o e).1 (I.ok.bs b o e).2 (I.ok.noex b o e)⟩
theorem Inv.bk (I : Inv X pins σ H s) : ∀ b o, X.base.get? b = some o → s.heap.get? b = some o := fun b o e => (I.bs b o e).1
theorem Inv.mod (I : Inv X pins σ H s) : Mod X.K X.mg X.base := I.ok.mod
theorem Inv.kIn (I : Inv X pins σ H s) : X.K.In s.heap := I.ok.mod.kin.keeps I.bk
theorem Inv.nolimit (I : Inv X pins σ H s) : s.heap.NoLimit := I.ok.mod.nolimit.keeps I.bk
theorem Inv.fr (I : Inv X pins σ H s) : ∃ m, Fr X.base X.env.locals s.heap m :=
  let ⟨m, hn, _⟩ := I.loc
  ⟨m, hn, I.bk, Nat.le_trans I.ok.bsz I.ok.above⟩
theorem Inv.lt (I : Inv X pins σ H s) : X.env.locals < s.heap.objs.size := let ⟨_, hn, _⟩ := I.loc; hn.lt
theorem Inv.sz (I : Inv X pins σ H s) : X.s₀.heap.objs.size ≤ s.heap.objs.size := Nat.le_trans I.ok.above (Nat.le_of_lt I.lt)
theorem Inv.nofs (I : Inv X pins σ H s) {a : Addr} (h : s.heap.objs.size ≤ a) : a ∉ X.fs := fun hb => by
  obtain ⟨_, o, ho, _⟩ := I.ok.funs.mem hb
  exact absurd (Nat.lt_of_lt_of_le (Heap.lt_size ho) (Nat.le_trans I.sz h)) (Nat.lt_irrefl _)
theorem Inv.cne (I : Inv X pins σ H s) : ∀ x c, X.env.cells.lookup x = some c → c ≠ X.env.locals := fun x c e z => by
  obtain ⟨v, o, ho, hd⟩ := I.cell x c e
  obtain ⟨m, ⟨o', es, ep, ho', hd', _⟩, _⟩ := I.loc
  rw [z, ho'] at ho; cases ho; rw [hd'] at hd; cases hd
theorem Inv.funs (I : Inv X pins σ H s) : s.heap.FunFrames X.base X.outer := by
  have all : ∀ (l : List Env), (∀ b ∈ frs l, b ∈ X.fs) → X.s₀.heap.FunFrames X.base l → s.heap.FunFrames X.base l := by
    intro l
    induction l with
    | nil => intro _ _; trivial
    | cons env r ih =>
      intro hs hl
      obtain ⟨hk, ⟨L, o, hf, hn, ho, hd⟩, hr⟩ := hl
      have hL : L ∈ X.fs := hs L (by unfold frs; rw [List.filterMap_cons, hf]; exact List.mem_cons_self)
      obtain ⟨sl, e⟩ := I.base.slot L o ho (I.ok.frf L hL) hL fun z => I.ok.exfs L z hL
      exact ⟨hk, ⟨L, _, hf, hn, e, hd⟩, ih (fun b hb => hs b (by unfold frs; rw [List.filterMap_cons, hf]; exact List.mem_cons_of_mem _ hb)) hr⟩
  exact all X.outer (fun _ hb => hb) I.ok.funs
theorem Inv.stack (I : Inv X pins σ H s) : s.heap.FunFrames X.base X.stack := by
  rcases I.ok.stk with e | ⟨e, hf⟩
  · rw [e]; exact I.funs
  · rw [e]
    obtain ⟨m, hn, _⟩ := I.loc
    refine .cons (by rw [I.ok.kind]; decide) hf hn ?_ I.funs
    exact Heap.get?_none_of_le (Nat.le_trans I.ok.bsz I.ok.above)
theorem Inv.stkSub (I : Inv X pins σ H s) : ∀ b ∈ frs X.stack, b ∈ X.env.locals :: X.fs := fun b hb => by
  rcases I.ok.stk with e | ⟨e, hf⟩
  · rw [e] at hb; exact List.mem_cons_of_mem _ hb
  · rw [e] at hb
    unfold frs at hb
    rw [List.filterMap_cons, hf] at hb
    exact hb
theorem Inv.stkFree (I : Inv X pins σ H s) : ∀ b ∈ frs X.stack, H b = none := fun b hb => by
  rcases List.mem_cons.mp (I.stkSub b hb) with e | hb
  · rw [e]; exact I.free
  · obtain ⟨_, o, ho, _⟩ := I.ok.funs.mem hb
    exact I.base.free b o ho (I.ok.frf b hb) fun z => I.ok.exfs b z hb
theorem Inv.step {g' : Array GenState} {t' : Nat} {d' : Drawn} {ch : List Addr} (I : Inv X pins σ H s)
    (hch : ∀ b ∈ ch, (b ∈ X.ex ∨ X.s₀.heap.objs.size ≤ b) ∧ b ≠ X.env.locals ∧ (∀ x c, X.env.cells.lookup x = some c → c ≠ b) ∧ ∀ p ∈ X.pn ++ pins, p.1 ≠ b)
    (keep : ∀ b o, b ≠ X.env.locals → b ∉ X.fs → b ∉ ch → s.heap.get? b = some o → H b = none → h'.get? b = some o)
    (slot : ∀ b o, b ≠ X.env.locals → b ∈ X.fs → b ∉ ch → s.heap.get? b = some o → H b = none → ∃ sl, h'.get? b = some { o with slots := sl }) (free : ∀ b o, b ∉ ch → s.heap.get? b = some o → H b = none → H' b = none)
    (there : ∀ b o, b ∉ ch → s.heap.get? b = some o → ∃ o', h'.get? b = some o')
    (tups : ∀ b xs, H b = some (.tup xs) → H' b = some (.tup xs)) (frzs : ∀ b o u, H b = some (.frz o u) → H' b = some (.frz o u)) (tbls : ∀ b ps, H b = some (.tbl ps) → ∃ more, H' b = some (.tbl (ps ++ more)))
    (ns : ∀ m, s.heap.Ns X.env.locals m → h'.Ns X.env.locals m) (hok : HOk X.prog X.w H' h') (hg : AllBare g') :
    Inv X pins σ H' { s with heap := h', gens := g', drawn := d', toks := t' } := by
  have neL : ∀ b o, X.s₀.heap.get? b = some o → b ≠ X.env.locals := fun b o e => Nat.ne_of_lt (Nat.lt_of_lt_of_le (Heap.lt_size e) I.ok.above)
  have neC : ∀ b o, X.s₀.heap.get? b = some o → b ∉ X.ex → b ∉ ch := fun b o e hx hb => by
    rcases (hch b hb).1 with z | z
    · exact hx z
    · exact absurd (Nat.lt_of_lt_of_le (Heap.lt_size e) z) (Nat.lt_irrefl _)
  have cellK : ∀ x c, X.env.cells.lookup x = some c → ∀ v, s.heap.IsCell c v → h'.IsCell c v := fun x c e v ⟨o, ho, hd⟩ => by
    have nch : c ∉ ch := fun z => (hch c z).2.2.1 x c e rfl
    by_cases hc : c ∈ X.fs
    · obtain ⟨sl, q⟩ := slot c o (I.cne x c e) hc nch ho (I.freeC x c e)
      exact ⟨_, q, hd⟩
    · exact ⟨o, keep c o (I.cne x c e) hc nch ho (I.freeC x c e), hd⟩
  refine ⟨I.ok, I.os, hg, ⟨fun b o e n hb hx => ?_, fun b o e n hb hx => ?_, fun b o e n hx => ?_, fun b o e hx => ?_, fun b xs e => tups b xs (I.base.tups b xs e), fun b o xs e => frzs b o xs (I.base.frzs b o xs e), fun b ps e => ?_⟩, ?_, fun x c e => ?_, ?_, fun x c e => ?_, fun p hp => ?_, hok, I.len⟩
  · exact keep b o (neL b o e) hb (neC b o e hx) (I.base.keep b o e n hb hx) (I.base.free b o e n hx)
  · obtain ⟨sl, e1⟩ := I.base.slot b o e n hb hx
    obtain ⟨sl', e2⟩ := slot b _ (neL b o e) hb (neC b o e hx) e1 (I.base.free b o e n hx)
    exact ⟨sl', e2⟩
  · obtain ⟨o', e1⟩ := I.base.there b o e hx
    exact free b o' (neC b o e hx) e1 (I.base.free b o e n hx)
  · obtain ⟨o', e1⟩ := I.base.there b o e hx
    exact there b o' (neC b o e hx) e1
  · obtain ⟨m1, e1⟩ := I.base.tbls b ps e
    obtain ⟨m2, e2⟩ := tbls b _ e1
    exact ⟨m1 ++ m2, by rw [e2, Array.append_assoc]⟩
  · obtain ⟨m, hn, hl⟩ := I.loc
    refine ⟨m, ns m hn, fun i x v e1 e2 e3 => ?_⟩
    obtain ⟨u, r, l⟩ := hl i x v e1 e2 e3
    refine ⟨u, r, ?_⟩
    rcases l with l | ⟨k, c, e, z⟩
    · exact .inl l
    · exact .inr ⟨k, c, e, cellK x c e _ z⟩
  · obtain ⟨v, z⟩ := I.cell x c e
    exact ⟨v, cellK x c e v z⟩
  · obtain ⟨m, ⟨o, _, _, ho, _⟩, _⟩ := I.loc
    exact free _ o (fun z => (hch _ z).2.1 rfl) ho I.free
  · obtain ⟨v, o, ho, hd⟩ := I.cell x c e
    exact free c o (fun z => (hch c z).2.2.1 x c e rfl) ho (I.freeC x c e)
  · obtain ⟨e, n, ne, nf, d⟩ := I.pin p hp
    have nch : p.1 ∉ ch := fun z => (hch p.1 z).2.2.2 p hp rfl
    exact ⟨keep p.1 p.2 ne nf nch e n, free p.1 p.2 nch e n, ne, nf, d⟩
theorem Inv.un {t' : Nat} (I : Inv X pins σ H s) (u : Un X.fs [] H H' s.heap h') (hok : HOk X.prog X.w H' h') : Inv X pins σ H' { s with heap := h', toks := t' } := by
  obtain ⟨m, ⟨o, es, ep, ho, r⟩, _⟩ := id I.loc
  obtain ⟨sl, hL⟩ := u.any ho I.free (by simp)
  exact I.step (g' := s.gens) (d' := s.drawn) (ch := []) (fun _ z => nomatch z) (fun b o _ hb _ e n => u.keep b o e n hb (by simp)) (fun b o _ hb _ e n => u.slot b o e n hb (by simp)) (fun b o _ e n => u.free b o e n (by simp)) (fun b o _ e => u.there b o e (by simp)) u.tups u.frzs u.tbls (fun m' hm => by
    obtain ⟨o', es', ep', ho', r'⟩ := hm
    rw [ho] at ho'; cases ho'
    exact ⟨_, es', ep', hL, r'⟩) hok I.bare
theorem Inv.call {g' : Array GenState} {t' : Nat} {d' : Drawn} {ch : List Addr} (I : Inv X pins σ H s) (u : Un (frs X.stack) ch H H' s.heap h') (hok : HOk X.prog X.w H' h') (hg : AllBare g')
    (hch : ∀ b ∈ ch, (b ∈ X.ex ∨ X.s₀.heap.objs.size ≤ b) ∧ b ≠ X.env.locals ∧ (∀ x c, X.env.cells.lookup x = some c → c ≠ b) ∧ ∀ p ∈ X.pn ++ pins, p.1 ≠ b) :
    Inv X pins σ H' { s with heap := h', gens := g', drawn := d', toks := t' } := by
  obtain ⟨m, ⟨o, es, ep, ho, r⟩, _⟩ := id I.loc
  obtain ⟨sl, hL⟩ := u.any ho I.free fun z => (hch _ z).2.1 rfl
  exact I.step (ch := ch) hch (fun b o hL hb hc e n => u.keep b o e n (fun z => (List.mem_cons.mp (I.stkSub b z)).elim hL hb) hc) (fun b o _ _ hc e n => u.any e n hc) (fun b o hc e n => u.free b o e n hc) (fun b o hc e => u.there b o e hc) u.tups u.frzs u.tbls (fun m' hm => by
    obtain ⟨o', es', ep', ho', r'⟩ := hm
    rw [ho] at ho'; cases ho'
    exact ⟨_, es', ep', hL, r'⟩) hok hg
theorem Inv.turned {t' : Nat} {it : Addr} (I : Inv X pins σ H s) (k : ∀ b o, b ≠ it → s.heap.get? b = some o → h'.get? b = some o) (hn : H it = none) (hL : it ≠ X.env.locals)
    (h1 : it ∈ X.ex ∨ X.s₀.heap.objs.size ≤ it) (h2 : ∀ x c, X.env.cells.lookup x = some c → c ≠ it) (h3 : ∀ p ∈ X.pn ++ pins, p.1 ≠ it) : Inv X pins σ H { s with heap := h', toks := t' } := by
  have nit : ∀ b u, H b = some u → b ≠ it := fun b u e z => by rw [z, hn] at e; cases e
  refine I.step (g' := s.gens) (d' := s.drawn) (ch := [it]) (fun b hb => ?_) (fun b o _ _ hc e _ => k b o (fun z => hc (by simp [z])) e) (fun b o _ _ hc e _ => ⟨o.slots, k b o (fun z => hc (by simp [z])) e⟩) (fun _ _ _ _ n => n)
    (fun b o hc e => ⟨o, k b o (fun z => hc (by simp [z])) e⟩) (fun _ _ e => e) (fun _ _ _ e => e) (fun b ps e => ⟨#[], by rw [e]; simp⟩) (fun m hm => ?_) (fun b u e => ?_) I.bare
  · have e : b = it := by simpa using hb
    subst e
    exact ⟨h1, hL, h2, h3⟩
  · obtain ⟨o, es, ep, ho, r⟩ := hm
    exact ⟨o, es, ep, k _ o (Ne.symm hL) ho, r⟩
  · refine (I.hok b u e).stay (fun c v hc q => k c v ?_ q) (fun _ q => q) fun _ _ q => q
    rcases hc with z | z
    · rw [z]; exact nit b u e
    · exact nit c _ z
theorem Inv.tok (I : Inv X pins σ H s) (t : Nat) : Inv X pins σ H { s with toks := t } := I.un (h' := s.heap) (t' := t) Un.refl I.hok
theorem Inv.kept {t' : Nat} (I : Inv X pins σ H s) (k : ∀ b u, s.heap.get? b = some u → h'.get? b = some u) : Inv X pins σ H { s with heap := h', toks := t' } := I.un (Un.kept k) (I.hok.kept k)
theorem Inv.laid {a : Addr} {o : HO} {t' : Nat} (I : Inv X pins σ H s) (k : ∀ b u, s.heap.get? b = some u → h'.get? b = some u) (hp : s.heap.objs.size ≤ a) (new : ObjOk X.prog X.w (upd H a o) h' a o) :
    Inv X pins σ (upd H a o) { s with heap := h', toks := t' } := I.un (Un.laid k hp (I.hok.fresh hp)) (I.hok.laid k hp new)
theorem Inv.write {x e : Addr} {o : HO} {t' : Nat} (I : Inv X pins σ H s) (mu : Mut (H x)) (he : e = x ∨ H e = some (.own x)) (k : ∀ b u, b ≠ e → s.heap.get? b = some u → h'.get? b = some u) (heo : ∃ u, h'.get? e = some u)
    (new : ObjOk X.prog X.w (upd H x o) h' x o) : Inv X pins σ (upd H x o) { s with heap := h', toks := t' } := I.un (Un.write mu he k heo) (I.hok.write mu he k heo new)
theorem Inv.pins_of {pins' : List (Addr × Obj)} (I : Inv X pins σ H s) (h : ∀ p ∈ pins', s.heap.get? p.1 = some p.2 ∧ H p.1 = none ∧ p.1 ≠ X.env.locals ∧ p.1 ∉ X.fs ∧ ∀ v, p.2.data ≠ .cell v) : Inv X pins' σ H s :=
  ⟨I.ok, I.os, I.bare, I.base, I.loc, I.cell, I.free, I.freeC, fun p hp => (List.mem_append.mp hp).elim (fun z => I.pin p (List.mem_append_left _ z)) (h p), I.hok, I.len⟩
theorem nodup_ix {N : List Str} (hN : N.Nodup) {i j : Nat} {x : Str} (a : N[i]? = some x) (b : N[j]? = some x) : i = j := by
  obtain ⟨h1, e1⟩ := List.getElem?_eq_some_iff.mp a
  obtain ⟨h2, e2⟩ := List.getElem?_eq_some_iff.mp b
  exact (List.getElem_inj hN).mp (e1.trans e2.symm)
theorem store_ok2 {M : Model} {A : Around} {E : Value → Shared → Prop} {i : Nat} {x : Str} {v : V} {u : Value} {Q : Unit → Shared → Prop} (I : Inv X pins σ H s) (hN : X.N.Nodup) (hi : X.N[i]? = some x) (hx : Loc X.env.scope x) (r : RelV v u)
    (h : ∀ s', Inv X pins (σ.set i (some v)) H s' → (∃ a, Heap.SameBut a s.heap s'.heap ∧ (a = X.env.locals ∨ X.env.cells.lookup x = some a)) → Q () s') (hf : X.fn x = true ∨ X.env.scope.names.lookup x = some .local := by first | exact .inl rfl | exact .inr rfl | assumption) : wpAny M A (storeName X.env x u) Q E s := by
  obtain ⟨m, hn, hl⟩ := id I.loc
  have hcls : (X.env.scope.kind == .class || (X.env.scope.kind == .module && X.env.locals != X.env.globals)) = false := by rw [I.ok.kind]; rfl
  have hiσ : i < σ.length := by rw [I.len]; exact (List.getElem?_eq_some_iff.mp hi).1
  have cne := I.cne
  have tracked : ∀ {a : Addr} {h' : Heap}, (∃ o, s.heap.get? a = some o ∧ H a = none) → Heap.SameBut a s.heap h' → HOk X.prog X.w H h' := fun {a h'} ha hs b ob e => by
    obtain ⟨_, _, hfree⟩ := ha
    refine (I.hok b ob e).stay (fun c w' hc q => (hs.2 c ?_).trans q) (fun _ q => q) fun _ _ q => q
    rintro rfl
    rcases hc with rfl | hc
    · rw [hfree] at e; cases e
    · rw [hfree] at hc; cases hc
  rcases hx with hk | hk
  · refine wpAny_storeName_local hk hn (fun h' hn' hs => ?_) hcls
    obtain ⟨oL, _, _, hoL, _⟩ := id hn
    refine h _ ⟨I.ok, I.os, I.bare, ⟨fun b o e n hb hx => ?_, fun b o e n hb hx => ?_, I.base.free, fun b o e hx => ?_, I.base.tups, I.base.frzs, I.base.tbls⟩, ⟨_, hn', fun j y v' e1 e2 e3 => ?_⟩, fun y c e => ?_, I.free, I.freeC, fun p hp => ?_, tracked ⟨oL, hoL, I.free⟩ hs, by simpa using I.len⟩ ⟨_, hs, .inl rfl⟩
    · exact (hs.2 b (Nat.ne_of_lt (Nat.lt_of_lt_of_le (Heap.lt_size e) I.ok.above))).trans (I.base.keep b o e n hb hx)
    · obtain ⟨sl, e1⟩ := I.base.slot b o e n hb hx
      exact ⟨sl, (hs.2 b (Nat.ne_of_lt (Nat.lt_of_lt_of_le (Heap.lt_size e) I.ok.above))).trans e1⟩
    · obtain ⟨o', e1⟩ := I.base.there b o e hx
      exact ⟨o', (hs.2 b (Nat.ne_of_lt (Nat.lt_of_lt_of_le (Heap.lt_size e) I.ok.above))).trans e1⟩
    · by_cases hj : j = i
      · subst hj
        rw [hi] at e1; cases e1
        rw [List.getElem?_set_self hiσ] at e2
        cases e2
        exact ⟨u, r, .inl ⟨hk, by simp⟩⟩
      · rw [List.getElem?_set_ne (Ne.symm hj)] at e2
        obtain ⟨u', r', q⟩ := hl j y v' e1 e2 e3
        refine ⟨u', r', ?_⟩
        rcases q with ⟨k, e⟩ | ⟨k, c, e, z⟩
        · refine .inl ⟨k, ?_⟩
          have : y ≠ x := fun e => hj (nodup_ix hN e1 (e ▸ hi))
          simp [this, e]
        · exact .inr ⟨k, c, e, z.sameBut hs (cne y c e)⟩
    · obtain ⟨w', z⟩ := I.cell y c e
      exact ⟨w', z.sameBut hs (cne y c e)⟩
    · obtain ⟨e, n, ne, nf, d⟩ := I.pin p hp
      exact ⟨(hs.2 p.1 ne).trans e, n, ne, nf, d⟩
  · have hfn : X.fn x = true := by
      rcases hf with z | z
      · exact z
      · rw [z] at hk; cases hk
    obtain ⟨c, hc⟩ := I.ok.has x (.inl hk)
    obtain ⟨w', z⟩ := I.cell x c hc
    refine wpAny_storeName_cell I.ok.kind hk hc z (fun h' hc' hs => ?_)
    obtain ⟨oc, hoc, hocd⟩ := id z
    refine h { s with heap := h' } ⟨I.ok, I.os, I.bare, ⟨fun b o e n hb hx => ?_, fun b o e n hb hx => ?_, I.base.free, fun b o e hx => ?_, I.base.tups, I.base.frzs, I.base.tbls⟩, ⟨m, hn.sameBut hs (Ne.symm (cne x c hc)), fun j y v' e1 e2 e3 => ?_⟩, fun y c' e => ?_, I.free, I.freeC, fun p hp => ?_, tracked ⟨oc, hoc, I.freeC x c hc⟩ hs, by simpa using I.len⟩ ⟨c, hs, .inr hc⟩
    · exact (hs.2 b (Nat.ne_of_lt (Nat.lt_of_lt_of_le (Heap.lt_size e) (I.ok.cab x c hfn hc)))).trans (I.base.keep b o e n hb hx)
    · obtain ⟨sl, e1⟩ := I.base.slot b o e n hb hx
      exact ⟨sl, (hs.2 b (Nat.ne_of_lt (Nat.lt_of_lt_of_le (Heap.lt_size e) (I.ok.cab x c hfn hc)))).trans e1⟩
    · obtain ⟨o', e1⟩ := I.base.there b o e hx
      exact ⟨o', (hs.2 b (Nat.ne_of_lt (Nat.lt_of_lt_of_le (Heap.lt_size e) (I.ok.cab x c hfn hc)))).trans e1⟩
    · by_cases hj : j = i
      · subst hj
        rw [hi] at e1; cases e1
        rw [List.getElem?_set_self hiσ] at e2
        cases e2
        exact ⟨u, r, .inr ⟨.inl hk, c, hc, hc'⟩⟩
      · rw [List.getElem?_set_ne (Ne.symm hj)] at e2
        obtain ⟨u', r', q⟩ := hl j y v' e1 e2 e3
        refine ⟨u', r', ?_⟩
        rcases q with q | ⟨k, c', e, z'⟩
        · exact .inl q
        · refine .inr ⟨k, c', e, z'.sameBut hs ?_⟩
          rintro rfl
          exact hj (nodup_ix hN e1 (I.ok.inj _ _ _ e hc ▸ hi))
    · by_cases hcc : c' = c
      · subst hcc; exact ⟨_, hc'⟩
      · obtain ⟨w2, z2⟩ := I.cell y c' e
        exact ⟨w2, z2.sameBut hs hcc⟩
    · obtain ⟨e, n, ne, nf, d⟩ := I.pin p hp
      refine ⟨(hs.2 p.1 ?_).trans e, n, ne, nf, d⟩
      intro q
      rw [q, hoc] at e
      have q' : oc = p.2 := Option.some.inj e
      exact d w' (by rw [← q']; exact hocd)
theorem store_ok {M : Model} {A : Around} {E : Value → Shared → Prop} {i : Nat} {x : Str} {v : V} {u : Value} {Q : Unit → Shared → Prop} (I : Inv X pins σ H s) (hN : X.N.Nodup) (hi : X.N[i]? = some x) (hx : Loc X.env.scope x) (r : RelV v u)
    (h : ∀ s', Inv X pins (σ.set i (some v)) H s' → Q () s') (hf : X.fn x = true ∨ X.env.scope.names.lookup x = some .local := by first | exact .inl rfl | exact .inr rfl | assumption) : wpAny M A (storeName X.env x u) Q E s :=
  store_ok2 I hN hi hx r (fun s' I' _ => h s' I') hf
theorem Inv.call' {s' : Shared} {ch : List Addr} (I : Inv X pins σ H s) (ho : s'.os = s.os) (u : Un (frs X.stack) ch H H' s.heap s'.heap) (hok : HOk X.prog X.w H' s'.heap) (hg : AllBare s'.gens)
    (hch : ∀ b ∈ ch, (b ∈ X.ex ∨ X.s₀.heap.objs.size ≤ b) ∧ b ≠ X.env.locals ∧ (∀ x c, X.env.cells.lookup x = some c → c ≠ b) ∧ ∀ p ∈ X.pn ++ pins, p.1 ≠ b) : Inv X pins σ H' s' := by
  obtain ⟨h', g', d', t', o'⟩ := s'
  have e : o' = s.os := ho
  subst e
  exact I.call (g' := g') (t' := t') (d' := d') u hok hg hch
end
abbrev XK := Value → Option Addr → Hp → Prop
abbrev St := List (Option V)
abbrev VK := V → Hp → Prop
abbrev TE := St → Hp → VK → Prop
abbrev TT := St → Hp → (Bool → Hp → Prop) → Prop
abbrev TA := St → Hp → (List V → Hp → Prop) → Prop
structure Ends where
  nx : St → Hp → Prop
  rt : VK
  bk : St → Hp → Prop := fun _ _ => False
  ct : St → Hp → Prop := fun _ _ => False
abbrev TS := Ends → St → Hp → Prop
def EP (X : Cx) (pins : List (Addr × Obj)) (σ : St) (Q : VK) (u : Value) (s' : Shared) : Prop := ∃ v H', Inv X pins σ H' s' ∧ RelV v u ∧ Q v H'
def TP (X : Cx) (pins : List (Addr × Obj)) (σ : St) (Q : Bool → Hp → Prop) (b : Bool) (s' : Shared) : Prop := ∃ H', Inv X pins σ H' s' ∧ Q b H'
def AP (X : Cx) (pins : List (Addr × Obj)) (σ : St) (Q : List V → Hp → Prop) (us : List Value) (s' : Shared) : Prop := ∃ vs H', Inv X pins σ H' s' ∧ Vals vs us ∧ Q vs H'
def SP (X : Cx) (pins : List (Addr × Obj)) (D : Ends) (f : Flow) (s' : Shared) : Prop :=
  match f with
  | .next => ∃ σ' H', Inv X pins σ' H' s' ∧ D.nx σ' H'
  | .brk => ∃ σ' H', Inv X pins σ' H' s' ∧ D.bk σ' H'
  | .cont => ∃ σ' H', Inv X pins σ' H' s' ∧ D.ct σ' H'
  | .ret u => ∃ v σ' H', Inv X pins σ' H' s' ∧ RelV v u ∧ D.rt v H'
def PE (X : Cx) (e : Expr) (t : TE) : Prop :=
  ∀ (pins : List (Addr × Obj)) (s : Shared) (σ : St) (H : Hp) (Q : VK), Inv X pins σ H s → t σ H Q → wpAny (model X.prog X.w) X.A (eval e X.env) (EP X pins σ Q) X.xe s
def PT (X : Cx) (e : Expr) (t : TT) : Prop :=
  ∀ (pins : List (Addr × Obj)) (s : Shared) (σ : St) (H : Hp) (Q : Bool → Hp → Prop), Inv X pins σ H s → t σ H Q → wpAny (model X.prog X.w) X.A (isTrue e X.env (eval e X.env)) (TP X pins σ Q) X.xe s
def PW (X : Cx) (e : Expr) (t : TT) : Prop :=
  ∀ (whole : Sem Value) (pins : List (Addr × Obj)) (s : Shared) (σ : St) (H : Hp) (Q : Bool → Hp → Prop), Inv X pins σ H s → t σ H Q → wpAny (model X.prog X.w) X.A (isTrue e X.env whole) (TP X pins σ Q) X.xe s
theorem PW.pt {X : Cx} {e : Expr} {t : TT} (h : PW X e t) : PT X e t := h _
def PA (X : Cx) (es : List Expr) (t : TA) : Prop :=
  ∀ (pos : Pos) (pins : List (Addr × Obj)) (s : Shared) (σ : St) (H : Hp) (Q : List V → Hp → Prop), Inv X pins σ H s → t σ H Q → wpAny (model X.prog X.w) X.A (spliced (backTo pos (starEach es X.env))) (AP X pins σ Q) X.xe s
def PS (X : Cx) (st : Stmt) (t : TS) : Prop :=
  ∀ (pins : List (Addr × Obj)) (s : Shared) (σ : St) (H : Hp) (D : Ends), Inv X pins σ H s → t D σ H → wpAny (model X.prog X.w) X.A (exec st X.env) (SP X pins D) X.xe s
def PSs (X : Cx) (st : List Stmt) (t : TS) : Prop :=
  ∀ (pins : List (Addr × Obj)) (s : Shared) (σ : St) (H : Hp) (D : Ends), Inv X pins σ H s → t D σ H → wpAny (model X.prog X.w) X.A (execs st X.env) (SP X pins D) X.xe s
theorem thn {α : Type} {t : Sem α} {Q Q' : α → Shared → Prop} {M : Model} {A : Around} {E : Value → Shared → Prop} {s : Shared} (h : wpAny M A t Q E s) (hQ : ∀ a s, Q a s → Q' a s) : wpAny M A t Q' E s := wpAny_mono h hQ fun _ _ x => x
end L2
namespace L2
open PySem PySem.Spec PyProof.Rows
section
variable {X : Cx}
def tVar (i : Nat) : TE := fun σ H Q => ∃ v, σ[i]? = some (some v) ∧ Q v H
def tC (v : V) : TE := fun _ H Q => Q v H
theorem pe_var {i : Nat} {x : Str} {pos : Pos} (hN : X.N[i]? = some x) (hv : Vis X.env.scope x) (hd : (x == ("__debug__" : Str)) = false := by decide) (hcd : (x == ("__classdict__" : Str)) = false := by decide) : PE X (.Name x pos) (tVar i) := by
  intro pins s σ H Q I h
  obtain ⟨v, e, h⟩ := h
  obtain ⟨m, hn, hl⟩ := I.loc
  obtain ⟨u, r, l⟩ := hl i x v hN e hv
  have fin : EP X pins σ Q u s := ⟨v, H, I, r, h⟩
  rcases l with ⟨hk, hm⟩ | ⟨hk, c, hc, hcell⟩
  · exact wpAny_Name (wpAny_loadName_local I.ok.kind hk hn hm fin) hd
  · rcases hk with hk | hk
    · exact wpAny_Name (wpAny_loadName_cell I.ok.kind hk hc hcell fin) hd
    · exact wpAny_Name (wpAny_loadName_free I.ok.kind hk hc hcell fin hcd) hd
theorem pe_int {i j pos} : PE X (.Constant (.int i) j pos) (tC (.int i)) := fun _ _ _ H _ I h => wpAny_Constant_int ⟨.int i, H, I.tok _, ⟨_, rfl⟩, h⟩
theorem pe_bl {b j pos} : PE X (.Constant (.bool b) j pos) (tC (.bl b)) := fun _ _ _ H _ I h => Constant_bool ⟨.bl b, H, I, rfl, h⟩
def Gl (X : Cx) (x : Str) : Prop := X.env.kindOf x = some .globalImplicit
theorem ld_glob {E : Value → Shared → Prop} {pins : List (Addr × Obj)} {s : Shared} {σ : St} {H : Hp} {x : Str} {u : Value} {pos : Pos} {Q : Value → Shared → Prop} (I : Inv X pins σ H s) (hg : Gl X x) (hm : X.mg x = some u) (h : Q u s)
    (hd : (x == ("__debug__" : Str)) = false := by decide) : wpAny (model X.prog X.w) X.A (eval (.Name x pos) X.env) Q E s :=
  Calls.Name_function_global I.ok.kind hg (Calls.loadGlobal_global (by rw [I.ok.glob]; exact I.mod.glob.keeps I.bk) hm h) hd
theorem ld_blt {E : Value → Shared → Prop} {pins : List (Addr × Obj)} {s : Shared} {σ : St} {H : Hp} {x : Str} {u : Value} {pos : Pos} {Q : Value → Shared → Prop} (I : Inv X pins σ H s) (hg : Gl X x) (hm : X.mg x = none) (hv : bootBuiltins x = some u) (h : Q u s)
    (hn : x ≠ "__name__" := by decide) (hd : (x == ("__debug__" : Str)) = false := by decide) : wpAny (model X.prog X.w) X.A (eval (.Name x pos) X.env) Q E s := by
  obtain ⟨mb, h1, h2⟩ := I.mod.blt
  exact Calls.Name_function_global I.ok.kind hg (Calls.loadGlobal_builtin (by rw [I.ok.glob]; exact I.mod.glob.keeps I.bk) hm (by rw [I.ok.blt]; exact h1.keeps I.bk) ((h2 x hn).trans hv) h) hd
theorem pe_bltn {x : Str} {v : V} {u : Value} {pos : Pos} (hg : Gl X x) (hm : X.mg x = none) (hv : bootBuiltins x = some u) (r : RelV v u) (hn : x ≠ "__name__" := by decide) (hd : (x == ("__debug__" : Str)) = false := by decide) : PE X (.Name x pos) (tC v) :=
  fun _ _ _ H _ I h => ld_blt I hg hm hv ⟨v, H, I, r, h⟩ hn hd
variable {a b : Expr} {ta tb : TE} {pos : Pos}
variable {tA tB' : TT} {rest : List Expr}
def tOr (t u : TT) : TT := fun σ H Q => t σ H fun c H1 => if c = true then Q true H1 else u σ H1 Q
def tNot (t : TT) : TT := fun σ H Q => t σ H fun c H1 => Q (!c) H1
theorem pw_or1 (ha : PT X a tA) : PW X (.BoolOp .Or [a] pos) tA := by
  intro wh pins s σ H Q I h
  refine isTrue_or (thn (ha pins s σ H Q I h) fun c s1 e => ?_)
  cases c with
  | false => exact isTrue_or_nil e
  | true => exact e
theorem pw_or (ha : PT X a tA) (hb : PW X (.BoolOp .Or (b :: rest) pos) tB') : PW X (.BoolOp .Or (a :: b :: rest) pos) (tOr tA tB') := by
  intro wh pins s σ H Q I h
  refine isTrue_or (thn (ha pins s σ H _ I h) fun c s1 ⟨H1, I1, q1⟩ => ?_)
  cases c with
  | true => exact ⟨H1, I1, q1⟩
  | false => exact hb wh pins s1 σ H1 Q I1 q1
theorem pt_not (ha : PT X a tA) : PT X (.UnaryOp .Not a pos) (tNot tA) := by
  intro pins s σ H Q I h
  exact isTrue_not (ha pins s σ H (fun c H1 => Q (!c) H1) I h)
def tAndV (ta tb : TE) : TE := fun σ H Q => ta σ H fun x H1 => ∃ c, x = .bl c ∧ if c = true then tb σ H1 Q else Q (.bl false) H1
def tNotV (ta : TE) : TE := fun σ H Q => ta σ H fun x H1 => ∃ c, x = .bl c ∧ Q (.bl (!c)) H1
theorem pe_one {op} {t : TE} (h : PE X a t) : PE X (.BoolOp op [a] pos) t := fun pins s σ H Q I hw => BoolOp_one (h pins s σ H Q I hw)
theorem pe_and (ha : PE X a ta) (hb : PE X (.BoolOp .And (b :: rest) pos) tb) : PE X (.BoolOp .And (a :: b :: rest) pos) (tAndV ta tb) := by
  intro pins s σ H Q I h
  refine BoolOp_and (thn (ha pins s σ H _ I h) fun v s1 ⟨x, H1, I1, r1, q1⟩ => ?_)
  obtain ⟨c, rfl, q1⟩ := q1
  cases r1
  refine wpAny_truthy_bool ?_
  cases c with
  | true => exact hb pins s1 σ H1 Q I1 q1
  | false => exact ⟨.bl false, H1, I1, rfl, q1⟩
theorem pe_not (ha : PE X a ta) : PE X (.UnaryOp .Not a pos) (tNotV ta) := by
  intro pins s σ H Q I h
  refine UnaryOp_ (thn (ha pins s σ H _ I h) fun v s1 ⟨x, H1, I1, r1, q1⟩ => ?_)
  obtain ⟨c, rfl, q1⟩ := q1
  cases r1
  exact not_of (wpAny_truthy_bool ⟨.bl (!c), H1, I1, rfl, q1⟩)
end
end L2
namespace L2
open PySem PySem.Spec PyProof.Rows
def SqL (K : PySem.W.Frag) (H : Hp) (a : Addr) (xs : List V) : Prop :=
  Rd H a (.lst xs) ∨
    ∃ (o : Obj) (its : Array Value) (n : Nat), K.lookup a = some o ∧ o.cls = .type "list" ∧ o.dict = none ∧ o.data = .seq its n ∧ its.size ≤ sizeLine ∧ Vals xs its.toList
def SqT (K : PySem.W.Frag) (H : Hp) (a : Addr) (xs : List V) : Prop :=
  Rd H a (.tup xs) ∨
    ∃ (o : Obj) (its : Array Value) (n : Nat), K.lookup a = some o ∧ o.cls = .type "tuple" ∧ o.data = .seq its n ∧ its.size ≤ sizeLine ∧ Vals xs its.toList
def absV : Value → Option V
  | .none => some .non
  | .bool b => some (.bl b)
  | .int i _ => some (.int i)
  | .str x _ => some (.str x)
  | .bytes b _ => some (.byt b)
  | .float b _ => some (.flt b)
  | .ref a => some (.ref a)
  | .type n => some (.ty n)
  | _ => none
theorem RelV.abs {x : V} {u : Value} (r : RelV x u) : absV u = some x := by
  cases x with
  | non => cases r; rfl
  | bl _ => cases r; rfl
  | int _ => obtain ⟨t, rfl⟩ := r; rfl
  | str _ => obtain ⟨t, rfl⟩ := r; rfl
  | byt _ => obtain ⟨t, rfl⟩ := r; rfl
  | flt _ => obtain ⟨t, rfl⟩ := r; rfl
  | ref _ => cases r; rfl
  | ty _ => cases r; rfl
theorem RelV.inj {x y : V} {u : Value} (r : RelV x u) (q : RelV y u) : x = y := Option.some.inj (r.abs.symm.trans q.abs)
theorem Vals.inj : ∀ {xs ys : List V} {us : List Value}, Vals xs us → Vals ys us → xs = ys
  | _, _, _, .nil, .nil => rfl
  | _, _, _, .cons r t, .cons r' t' => by rw [r.inj r', Vals.inj t t']
section
variable {X : Cx} {pins : List (Addr × Obj)} {σ : St} {H : Hp} {s : Shared} {a : Addr} {xs ys : List V}
theorem SqL.of {K : PySem.W.Frag} (h : H a = some (.lst xs)) : SqL K H a xs := .inl (.inl h)
theorem SqT.of {K : PySem.W.Frag} (h : H a = some (.tup xs)) : SqT K H a xs := .inl (.inl h)
theorem Inv.list (I : Inv X pins σ H s) (h : SqL X.K H a xs) : ∃ its : List Value, Vals xs its ∧ PlainL s.heap a its.toArray ∧ xs.length ≤ sizeLine := by
  rcases h with h | ⟨o, its, n, hk, hc, hd, hs, hz, r⟩
  · obtain ⟨z, its, n, r, e⟩ := h.ok I.hok
    exact ⟨its, r, ⟨_, n, e, rfl, rfl, rfl⟩, z⟩
  · refine ⟨its.toList, r, ⟨o, n, I.kIn a o hk, hc, hd, by simpa using hs⟩, ?_⟩
    have e := r.length
    simp only [Array.length_toList] at e
    omega
theorem Inv.tuple (I : Inv X pins σ H s) (h : SqT X.K H a xs) : ∃ its : List Value, Vals xs its ∧ IsTup s.heap a its.toArray ∧ xs.length ≤ sizeLine := by
  rcases h with h | ⟨o, its, n, hk, hc, hs, hz, r⟩
  · obtain ⟨z, its, r, p⟩ := h.ok I.hok
    exact ⟨its, r, p, z⟩
  · refine ⟨its.toList, r, ⟨o, I.kIn a o hk, hc, n, by simpa using hs⟩, ?_⟩
    have e := r.length
    simp only [Array.length_toList] at e
    omega
theorem Inv.list_inj (I : Inv X pins σ H s) (h : SqL X.K H a xs) (h' : SqL X.K H a ys) : xs = ys := by
  obtain ⟨its, r, ⟨o, n, e, _, _, d⟩, _⟩ := I.list h
  obtain ⟨its', r', ⟨o', n', e', _, _, d'⟩, _⟩ := I.list h'
  rw [e] at e'; cases e'
  rw [d] at d'
  injection d' with d1 _
  have : its = its' := by simpa using congrArg Array.toList d1
  subst this
  exact r.inj r'
theorem Inv.tuple_inj (I : Inv X pins σ H s) (h : SqT X.K H a xs) (h' : SqT X.K H a ys) : xs = ys := by
  obtain ⟨its, r, ⟨o, e, _, n, d⟩, _⟩ := I.tuple h
  obtain ⟨its', r', ⟨o', e', _, n', d'⟩, _⟩ := I.tuple h'
  rw [e] at e'; cases e'
  rw [d] at d'
  injection d' with d1 _
  have : its = its' := by simpa using congrArg Array.toList d1
  subst this
  exact r.inj r'
end
abbrev Cx.wish (X : Cx) (E : Value → Shared → Prop) : Cx := { X with xe := E }
abbrev Cx.nox (X : Cx) : Cx := X.wish fun _ _ => False
theorem Cx.Ok.wish {X : Cx} (ok : X.Ok) (E : Value → Shared → Prop) : (X.wish E).Ok :=
  ⟨ok.mod, ok.kind, ok.glob, ok.blt, ok.above, ok.inj, ok.has, ok.cab, ok.hd, ok.frames, ok.stk, ok.exf, ok.bs, ok.bsz, ok.noex, ok.exfs, ok.funs, ok.frf⟩
theorem Cx.Ok.unwish {X : Cx} {E : Value → Shared → Prop} (ok : (X.wish E).Ok) : X.Ok :=
  ⟨ok.mod, ok.kind, ok.glob, ok.blt, ok.above, ok.inj, ok.has, ok.cab, ok.hd, ok.frames, ok.stk, ok.exf, ok.bs, ok.bsz, ok.noex, ok.exfs, ok.funs, ok.frf⟩
section
variable {X : Cx} {pins : List (Addr × Obj)} {σ : St} {H : Hp} {s : Shared} {E : Value → Shared → Prop}
theorem Inv.wish (I : Inv X pins σ H s) (E : Value → Shared → Prop) : Inv (X.wish E) pins σ H s := ⟨I.ok.wish E, I.os, I.bare, I.base, I.loc, I.cell, I.free, I.freeC, I.pin, I.hok, I.len⟩
theorem Inv.unwish (I : Inv (X.wish E) pins σ H s) : Inv X pins σ H s := ⟨I.ok.unwish, I.os, I.bare, I.base, I.loc, I.cell, I.free, I.freeC, I.pin, I.hok, I.len⟩
theorem SP.unwish {D : Ends} {f : Flow} {s' : Shared} (h : SP (X.wish E) pins D f s') : SP X pins D f s' := by
  cases f with
  | next => obtain ⟨σ', H', I, q⟩ := h; exact ⟨σ', H', I.unwish, q⟩
  | brk => obtain ⟨σ', H', I, q⟩ := h; exact ⟨σ', H', I.unwish, q⟩
  | cont => obtain ⟨σ', H', I, q⟩ := h; exact ⟨σ', H', I.unwish, q⟩
  | ret u => obtain ⟨v, σ', H', I, r, q⟩ := h; exact ⟨v, σ', H', I.unwish, r, q⟩
theorem PE.nox {e : Expr} {t : TE} (h : PE X.nox e t) : PE X e t := fun pins s σ H Q I hw =>
  wpAny_mono (h pins s σ H Q (I.wish _) hw) (fun _ _ ⟨v, H', I', r, q⟩ => ⟨v, H', I'.unwish, r, q⟩) fun _ _ z => False.elim z
theorem PT.nox {e : Expr} {t : TT} (h : PT X.nox e t) : PT X e t := fun pins s σ H Q I hw =>
  wpAny_mono (h pins s σ H Q (I.wish _) hw) (fun _ _ ⟨H', I', q⟩ => ⟨H', I'.unwish, q⟩) fun _ _ z => False.elim z
theorem PSs.nox {st : List Stmt} {t : TS} (h : PSs X.nox st t) : PSs X st t := fun pins s σ H D I hw =>
  wpAny_mono (h pins s σ H D (I.wish _) hw) (fun _ _ q => q.unwish) fun _ _ z => False.elim z
end
section
variable {X : Cx} {st : Stmt} {rest : List Stmt} {t u : TS} {e : Expr} {te : TE} {pos : Pos}
def tNext : TS := fun D σ H => D.nx σ H
def tSeq (t u : TS) : TS := fun D σ H => t { D with nx := u D } σ H
theorem pss_nil : PSs X [] tNext := fun _ _ σ H _ I h => wpAny_execs_nil ⟨σ, H, I, h⟩
theorem pss_cons (h1 : PS X st t) (h2 : PSs X rest u) : PSs X (st :: rest) (tSeq t u) := by
  intro pins s σ H D I h
  refine wpAny_execs_cons (thn (h1 pins s σ H { D with nx := u D } I h) fun f s1 q => ?_)
  cases f with
  | next =>
    obtain ⟨σ', H', I', q⟩ := q
    exact h2 pins s1 σ' H' D I' q
  | ret v => exact q
  | brk => exact q
  | cont => exact q
theorem pss_one (h1 : PS X st t) : PSs X [st] t := by
  intro pins s σ H D I h
  refine wpAny_execs_cons (thn (h1 pins s σ H D I h) fun f s1 q => ?_)
  cases f with
  | next => exact wpAny_execs_nil q
  | ret v => exact q
  | brk => exact q
  | cont => exact q
theorem Inv.quiet {pins : List (Addr × Obj)} {σ : St} {H : Hp} {s : Shared} (I : Inv X pins σ H s) : interactive X.env = false := by simp [interactive, I.ok.kind]
def tDrop (te : TE) : TS := fun D σ H => te σ H fun _ H1 => D.nx σ H1
theorem ps_expr (he : PE X e te) (hs : swapsWith e none pos.line X.env = pure false := by rfl) : PS X (.Expr e pos) (tDrop te) := by
  intro pins s σ H D I h
  exact wpAny_Expr_any (thn (he pins s σ H _ I h) fun v s1 ⟨x, H1, I1, r1, q1⟩ => ⟨σ, H1, I1, q1⟩) I.quiet hs
def tRet (te : TE) : TS := fun D σ H => te σ H D.rt
theorem ps_ret (he : PE X e te) : PS X (.Return (some e) pos) (tRet te) := by
  intro pins s σ H D I h
  exact wpAny_Return_some (thn (he pins s σ H _ I h) fun v s1 ⟨x, H1, I1, r1, q1⟩ => ⟨x, σ, H1, I1, r1, q1⟩)
def tIfS (c : TT) (t u : TS) : TS := fun D σ H => c σ H fun b H1 => if b = true then t D σ H1 else u D σ H1
theorem ps_if {c : Expr} {a b : List Stmt} {tc : TT} (hc : PT X c tc) (ha : PSs X a t) (hb : PSs X b u) : PS X (.If c a b pos) (tIfS tc t u) := by
  intro pins s σ H D I h
  refine wpAny_If (thn (hc pins s σ H _ I h) fun d s1 ⟨H1, I1, q1⟩ => ?_)
  cases d with
  | true => exact ha pins s1 σ H1 D I1 q1
  | false => exact hb pins s1 σ H1 D I1 q1
def tNever : TS := fun _ _ _ => False
theorem ps_never : PS X st tNever := fun _ _ _ _ _ _ h => h.elim
end
abbrev TG := V → St → Hp → (St → Hp → Prop) → Prop
abbrev TGs := List V → St → Hp → (St → Hp → Prop) → Prop
def PG (X : Cx) (target : Expr) (t : TG) : Prop :=
  ∀ (pins : List (Addr × Obj)) (s : Shared) (σ : St) (H : Hp) (v : V) (u : Value) (Q : St → Hp → Prop), Inv X pins σ H s → RelV v u → t v σ H Q →
    wpAny (model X.prog X.w) X.A (assign target X.env u) (fun _ s' => ∃ σ' H', Inv X pins σ' H' s' ∧ Q σ' H') X.xe s
def PGs (X : Cx) (ts : List Expr) (t : TGs) : Prop :=
  ∀ (pins : List (Addr × Obj)) (s : Shared) (σ : St) (H : Hp) (vs : List V) (us : List Value) (Q : St → Hp → Prop), Inv X pins σ H s → Vals vs us → t vs σ H Q →
    wpAny (model X.prog X.w) X.A (assignInOrder ((assignEach ts X.env).map (·.2)) us) (fun _ s' => ∃ σ' H', Inv X pins σ' H' s' ∧ Q σ' H') X.xe s
section
variable {X : Cx} {pos : Pos}
def gName (i : Nat) : TG := fun v σ H Q => Q (σ.set i (some v)) H
theorem pg_name {i : Nat} {x : Str} (hN : X.N.Nodup) (hi : X.N[i]? = some x) (hx : Loc X.env.scope x) (hf : X.fn x = true ∨ X.env.scope.names.lookup x = some .local := by first | exact .inl rfl | exact .inr rfl | assumption) : PG X (.Name x pos) (gName i) := by
  intro pins s σ H v u Q I r h
  exact wpAny_assign_Name (store_ok I hN hi hx r (fun s' I' => ⟨_, H, I', h⟩) hf)
def gNil : TGs := fun vs σ H Q => vs = [] ∧ Q σ H
def gCons (t : TG) (u : TGs) : TGs := fun vs σ H Q => ∃ v r, vs = v :: r ∧ t v σ H fun σ' H' => u r σ' H' Q
theorem pgs_nil : PGs X [] gNil := by
  intro pins s σ H vs us Q I r h
  obtain ⟨e, h⟩ := h
  subst e
  cases r
  exact assignInOrder_nil ⟨σ, H, I, h⟩
theorem pgs_cons {e : Expr} {es : List Expr} {t : TG} {u : TGs} (h1 : PG X e t) (h2 : PGs X es u)
    (hs : (assignEach (e :: es) X.env).map (·.2) = assign e X.env :: (assignEach es X.env).map (·.2) := by rfl) : PGs X (e :: es) (gCons t u) := by
  intro pins s σ H vs us Q I r h
  obtain ⟨v, vr, e1, h⟩ := h
  subst e1
  cases r with
  | cons r rr =>
    rw [hs]
    refine assignInOrder_cons (thn (h1 pins s σ H _ _ _ I r h) fun _ s1 ⟨σ1, H1, I1, q1⟩ => ?_)
    exact h2 pins s1 σ1 H1 _ _ Q I1 rr q1
def gTup (K : PySem.W.Frag) (n : Nat) (t : TGs) : TG := fun v σ H Q => ∃ a xs, v = .ref a ∧ SqT K H a xs ∧ xs.length = n ∧ t xs σ H Q
theorem pg_tup {es : List Expr} {k : Nat} {t : TGs} {n : Nat} (hc : X.calm = true) (h : PGs X es t)
    (hn : (assignEach es X.env).length = n := by rfl) (hst : (assignEach es X.env).findIdx? (·.1) = none := by rfl) : PG X (.Tuple es k pos) (gTup X.K n t) := by
  intro pins s σ H v u Q I r hw
  obtain ⟨a, xs, e1, hq, hl, hw⟩ := hw
  subst e1
  cases r
  obtain ⟨its, rv, ht, hz⟩ := I.tuple hq
  refine assign_Tuple_tuple (I.ok.hd hc) ht (by simp [hn, ← hl, rv.length]) hst fun h' hx => ?_
  have I1 : Inv X pins σ H { s with heap := h' } := I.kept (t' := s.toks) fun b o e => hx b o (Nat.ne_of_lt (Heap.lt_size e)) e
  exact h pins _ σ H xs _ Q I1 (by simpa using rv) hw
def tAsg (te : TE) (g : TG) : TS := fun D σ H => te σ H fun x H1 => g x σ H1 D.nx
theorem ps_set {i : Nat} {x : Str} {e : Expr} {te : TE} {pos' : Pos} (hN : X.N.Nodup) (hi : X.N[i]? = some x) (hx : Loc X.env.scope x) (he : PE X e te) (hs : swapsWith e (some (.Name x pos')) pos.line X.env = pure false := by rfl) (hf : X.fn x = true ∨ X.env.scope.names.lookup x = some .local := by first | exact .inl rfl | exact .inr rfl | assumption) :
    PS X (.Assign [.Name x pos'] e pos) (tAsg te (gName i)) := by
  intro pins s σ H D I h
  refine wpAny_Assign_Name (thn (he pins s σ H _ I h) fun v s1 ⟨y, H1, I1, r1, q1⟩ => ?_) hs
  exact store_ok I1 hN hi hx r1 (fun s2 I2 => ⟨_, H1, I2, q1⟩) hf
end
section
variable {X : Cx} {pos : Pos}
def tWhile (c : TT) (tb : TS) : TS := fun D σ H => ∃ W : Nat → St → Hp → Prop, (∃ m, W m σ H) ∧ ∀ m σ H, W m σ H →
  c σ H fun b H1 => if b = true then ∃ N : St → Hp → Prop, (∀ σ' H', N σ' H' → ∃ m', m' < m ∧ W m' σ' H') ∧ tb { D with nx := N, ct := N, bk := D.nx } σ H1 else D.nx σ H1
theorem ps_while {c : Expr} {body : List Stmt} {tc : TT} {tb : TS} (hp : PassesOwn (model X.prog X.w) X.A X.env X.xe) (hc : PT X c tc) (hb : PSs X body tb) : PS X (.While c body [] pos) (tWhile tc tb) := by
  intro pins s σ H D I h
  obtain ⟨W, ⟨m0, w0⟩, turn⟩ := h
  refine wpAny_While (codeAny_whileLoop (fun n s' => ∃ σ' H', Inv X pins σ' H' s' ∧ W n σ' H') ?_ m0 ⟨σ, H, I, w0⟩)
  rintro n s1 ⟨σ1, H1, I1, w1⟩
  refine wpAny_passesOwn hp (thn (hc pins s1 σ1 H1 _ I1 (turn n σ1 H1 w1)) fun b s2 ⟨H2, I2, q2⟩ => ?_)
  cases b with
  | true =>
    obtain ⟨N, hN, q2⟩ := q2
    rw [if_pos rfl]
    refine wpAny_passesOwn hp (thn (hb pins s2 σ1 H2 _ I2 q2) fun f s3 q3 => ?_)
    cases f with
    | next =>
      obtain ⟨σ3, H3, I3, n3⟩ := q3
      obtain ⟨m', hm, w3⟩ := hN σ3 H3 n3
      exact ⟨m', hm, σ3, H3, I3, w3⟩
    | cont =>
      obtain ⟨σ3, H3, I3, n3⟩ := q3
      obtain ⟨m', hm, w3⟩ := hN σ3 H3 n3
      exact ⟨m', hm, σ3, H3, I3, w3⟩
    | brk => exact q3
    | ret v => exact q3
  | false =>
    rw [if_neg Bool.false_ne_true]
    exact wpAny_execs_nil ⟨σ1, H2, I2, q2⟩
end
structure It where
  go : Nat → Hp → Prop
  yld : Nat → Hp → V → Hp → Prop
  stop : Nat → Hp → Prop
def FpOk (X : Cx) (pins : List (Addr × Obj)) (H : Hp) (b : Addr) : Prop :=
  H b = none ∧ b ≠ X.env.locals ∧ b ∉ X.fs ∧ (b ∈ X.ex ∨ X.s₀.heap.objs.size ≤ b) ∧ (∀ x c, X.env.cells.lookup x = some c → c ≠ b) ∧ ∀ p ∈ X.pn ++ pins, p.1 ≠ b
theorem Inv.fpOk {X : Cx} {pins : List (Addr × Obj)} {σ : St} {H H' : Hp} {s : Shared} {b : Addr} (I : Inv X pins σ H s) (hb : s.heap.objs.size ≤ b) (hn : H' b = none) : FpOk X pins H' b := by
  refine ⟨hn, Nat.ne_of_gt (Nat.lt_of_lt_of_le I.lt hb), I.nofs hb, .inr (Nat.le_trans I.sz hb), fun x c e z => ?_, fun p hp z => ?_⟩
  · obtain ⟨v, q⟩ := I.cell x c e
    exact absurd (Nat.lt_of_lt_of_le q.lt (by rw [z]; exact hb)) (Nat.lt_irrefl _)
  · exact absurd (Nat.lt_of_lt_of_le (Heap.lt_size (I.pin p hp).1) (by rw [z]; exact hb)) (Nat.lt_irrefl _)
structure Turn (P : Program) (w : World) (K : PySem.W.Frag) (tg : Expr) (J : It) (fp : List Addr) (it : Addr) (tn : Nat → Heap → Prop) : Prop where
  mem : it ∈ fp
  obj : ∀ i h, tn i h → ∀ b ∈ fp, ∃ o, h.get? b = some o ∧ ∀ v, o.data ≠ .cell v
  keep : ∀ i h h', tn i h → (∀ b ∈ fp, ∀ o, h.get? b = some o → h'.get? b = some o) → tn i h'
  item : ∀ (X : Cx), X.prog = P → X.w = w → X.K = K → X.calm = true → ∀ (i : Nat) (pins : List (Addr × Obj)) (s : Shared) (σ : St) (H : Hp) (E : Value → Shared → Prop), Inv X pins σ H s → (∀ b ∈ fp, FpOk X pins H b) → tn i s.heap → J.go i H →
    wpAny (model P w) X.A (pyNext (.ref it)) (fun r s1 => ∃ u, r = some u ∧
      wpAny (model P w) X.A (letOwnedTupleGo tg (.ref it) u) (fun _ s2 => ∃ x H', Inv X pins σ H' s2 ∧ RelV x u ∧ J.yld i H x H' ∧ tn (i + 1) s2.heap ∧ ∀ b ∈ fp, H' b = none) E s1) E s
  done : ∀ (X : Cx), X.prog = P → X.w = w → X.K = K → X.calm = true → ∀ (i : Nat) (pins : List (Addr × Obj)) (s : Shared) (σ : St) (H : Hp) (E : Value → Shared → Prop), Inv X pins σ H s → (∀ b ∈ fp, FpOk X pins H b) → tn i s.heap → J.stop i H →
    wpAny (model P w) X.A (pyNext (.ref it)) (fun r s1 => r = none ∧ Inv X pins σ H s1) E s
  self : ∀ (A : Around) (i : Nat) (s : Shared) (Q : Value → Shared → Prop) (E : Value → Shared → Prop), tn i s.heap → Q (.ref it) s → wpAny (model P w) A (pyIter (.ref it)) Q E s
abbrev TI := St → Hp → (It → Hp → Prop) → Prop
def PIE (X : Cx) (pins : List (Addr × Obj)) (σ : St) (tg : Expr) (R : It → Hp → Prop) (itv : Value) (s2 : Shared) : Prop :=
  ∃ (it : Addr) (fp : List Addr) (tn : Nat → Heap → Prop) (J : It) (H' : Hp), itv = .ref it ∧ Inv X pins σ H' s2 ∧ Turn X.prog X.w X.K tg J fp it tn ∧ tn 0 s2.heap ∧ (∀ b ∈ fp, FpOk X pins H' b) ∧ R J H'
def PI (X : Cx) (tg iter : Expr) (wi : TI) : Prop :=
  ∀ (pins : List (Addr × Obj)) (s : Shared) (σ : St) (H : Hp) (R : It → Hp → Prop), Inv X pins σ H s → wi σ H R →
    wpAny (model X.prog X.w) X.A (eval iter X.env) (fun v s1 => wpAny (model X.prog X.w) X.A (pyIter v) (PIE X pins σ tg R) X.xe s1) X.xe s
theorem go_of {M : Model} {A : Around} {E : Value → Shared → Prop} {s : Shared} {tg : Expr} {it : Addr} {u : Value} {o : Obj} {n : String} {vs : Array Value} {Q : Unit → Shared → Prop} (ho : s.heap.get? it = some o) (hc : o.cls = .type n) (hd : o.data = .fields vs)
    (hn : ["enumerate", "zip", "dict_itemiterator", "dict_reverseitemiterator", "odict_iterator", "itertools.zip_longest", "itertools.pairwise"].contains n = false) (hQ : Q () s) : wpAny M A (letOwnedTupleGo tg (.ref it) u) Q E s := by
  unfold letOwnedTupleGo
  cases tg <;> first
    | exact wpAny_pure hQ
    | (cases u <;> first
        | exact wpAny_pure hQ
        | (refine wpAny_bind (wpAny_load ho ?_)
           rw [hc, hd]
           show wpAny M A (if (["enumerate", "zip", "dict_itemiterator", "dict_reverseitemiterator", "odict_iterator", "itertools.zip_longest", "itertools.pairwise"].contains n && vs[0]? == some (rawInt _)) = true then _ else _) Q E s
           rw [if_neg (by intro h; rw [hn, Bool.false_and] at h; cases h)]
           exact wpAny_pure hQ))
def Itl (K : PySem.W.Frag) (a : Addr) : It :=
  ⟨fun i H => ∃ xs x, SqL K H a xs ∧ xs[i]? = some x, fun i H x H' => H' = H ∧ ∀ xs, SqL K H a xs → xs[i]? = some x, fun i H => ∃ xs, SqL K H a xs ∧ xs.length ≤ i⟩
def Itt (K : PySem.W.Frag) (a : Addr) : It :=
  ⟨fun i H => ∃ xs x, SqT K H a xs ∧ xs[i]? = some x, fun i H x H' => H' = H ∧ ∀ xs, SqT K H a xs → xs[i]? = some x, fun i H => ∃ xs, SqT K H a xs ∧ xs.length ≤ i⟩
def Itr (lo : Int) (n : Nat) : It := ⟨fun i _ => i < n, fun i H x H' => H' = H ∧ x = .int (lo + i), fun i _ => n ≤ i⟩
theorem turn_list {P : Program} {w : World} {K : PySem.W.Frag} {tg : Expr} (a it : Addr) : Turn P w K tg (Itl K a) [it] it (fun i h => h.IsListIter it a i) where
  mem := by simp
  obj := fun i h st b hb => by
    have e : b = it := by simpa using hb
    subst e
    obtain ⟨o, e, c, d⟩ := st
    exact ⟨o, e, fun v z => by rw [d] at z; cases z⟩
  keep := fun i h h' st k => st.at fun o e => k it (by simp) o e
  item := by
    intro X hP hw hK hc i pins s σ H E I hf st hg
    subst hP hw hK
    obtain ⟨xs, x, hq, hx⟩ := hg
    obtain ⟨its, rv, p, hz⟩ := I.list hq
    obtain ⟨u, hu, ru⟩ := rv.get hx
    obtain ⟨f0, f1, f2, f3, f4, f5⟩ := hf it (by simp)
    refine wpAny_pyNext_list_item st p.isList (x := u) (by simpa using hu) fun h' st' sb => ?_
    have I1 : Inv X pins σ H { s with heap := h' } := I.turned (t' := s.toks) (fun b o hb e => (sb.2 b hb).trans e) f0 f1 f3 f4 f5
    obtain ⟨o, e, c, d⟩ := id st'
    exact ⟨u, rfl, go_of (s := { s with heap := h' }) e c d (by decide) ⟨x, H, I1, ru, ⟨rfl, fun ys hy => by rw [I.list_inj hy hq]; exact hx⟩, st', fun b hb => (hf b hb).1⟩⟩
  done := by
    intro X hP hw hK hc i pins s σ H E I hf st hg
    subst hP hw hK
    obtain ⟨xs, hq, hx⟩ := hg
    obtain ⟨its, rv, p, hz⟩ := I.list hq
    obtain ⟨f0, f1, f2, f3, f4, f5⟩ := hf it (by simp)
    have hl := rv.length
    exact wpAny_pyNext_list_end (I.ok.hd hc) st p.isList (by simp; omega) fun h' eb => ⟨rfl, I.turned (t' := s.toks) (fun b o hb e => eb b o hb e) f0 f1 f3 f4 f5⟩
  self := fun _ _ _ _ _ st h => wpAny_pyIter_listiter st h
theorem turn_tuple {P : Program} {w : World} {K : PySem.W.Frag} {tg : Expr} (a it : Addr) : Turn P w K tg (Itt K a) [it] it (fun i h => h.IsTupleIter it a i) where
  mem := by simp
  obj := fun i h st b hb => by
    have e : b = it := by simpa using hb
    subst e
    obtain ⟨o, e, c, d⟩ := st
    exact ⟨o, e, fun v z => by rw [d] at z; cases z⟩
  keep := fun i h h' st k => st.at fun o e => k it (by simp) o e
  item := by
    intro X hP hw hK hc i pins s σ H E I hf st hg
    subst hP hw hK
    obtain ⟨xs, x, hq, hx⟩ := hg
    obtain ⟨its, rv, p, hz⟩ := I.tuple hq
    obtain ⟨u, hu, ru⟩ := rv.get hx
    obtain ⟨f0, f1, f2, f3, f4, f5⟩ := hf it (by simp)
    refine wpAny_pyNext_tuple_item st (show s.heap.IsTuple a its.toArray from p) (x := u) (by simpa using hu) fun h' st' sb => ?_
    have I1 : Inv X pins σ H { s with heap := h' } := I.turned (t' := s.toks) (fun b o hb e => (sb.2 b hb).trans e) f0 f1 f3 f4 f5
    obtain ⟨o, e, c, d⟩ := id st'
    exact ⟨u, rfl, go_of (s := { s with heap := h' }) e c d (by decide) ⟨x, H, I1, ru, ⟨rfl, fun ys hy => by rw [I.tuple_inj hy hq]; exact hx⟩, st', fun b hb => (hf b hb).1⟩⟩
  done := by
    intro X hP hw hK hc i pins s σ H E I hf st hg
    subst hP hw hK
    obtain ⟨xs, hq, hx⟩ := hg
    obtain ⟨its, rv, p, hz⟩ := I.tuple hq
    obtain ⟨f0, f1, f2, f3, f4, f5⟩ := hf it (by simp)
    have hl := rv.length
    exact wpAny_pyNext_tuple_end (I.ok.hd hc) st (show s.heap.IsTuple a its.toArray from p) (by simp; omega) fun h' eb => ⟨rfl, I.turned (t' := s.toks) (fun b o hb e => eb b o hb e) f0 f1 f3 f4 f5⟩
  self := fun _ _ _ _ _ st h => wpAny_pyIter_tupleiter st h
theorem turn_range {P : Program} {w : World} {K : PySem.W.Frag} {tg : Expr} (it : Addr) (lo : Int) (n : Nat) : Turn P w K tg (Itr lo n) [it] it (fun i h => IsRangeIter h it (lo + (i : Nat) * 1) ((n : Int) - (i : Nat)) 1) where
  mem := by simp
  obj := fun i h st b hb => by
    have e : b = it := by simpa using hb
    subst e
    exact ⟨_, st, fun v z => by
      have z' : Data.fields _ = Data.cell v := z
      cases z'⟩
  keep := fun i h h' st k => k it (by simp) _ st
  item := by
    intro X hP hw hK hc i pins s σ H E I hf st hg
    subst hP hw hK
    obtain ⟨f0, f1, f2, f3, f4, f5⟩ := hf it (by simp)
    have W := Walks.range (prog := X.prog) (w := X.w) (I.ok.hd hc) it lo 1 n
    refine W.item i s _ _ hg st fun v h' tk hv st' kk => ?_
    obtain ⟨t, rfl⟩ := hv
    have I1 : Inv X pins σ H { s with heap := h', toks := tk } := I.turned (fun b o hb e => kk b o (by simpa using hb) e) f0 f1 f3 f4 f5
    refine ⟨_, rfl, go_of (s := { s with heap := h', toks := tk }) (n := "range_iterator") st' rfl rfl (by decide) ⟨.int (lo + i), H, I1, ⟨t, ?_⟩, ⟨rfl, rfl⟩, st', fun b hb => (hf b hb).1⟩⟩
    rw [Int.mul_one]
  done := by
    intro X hP hw hK hc i pins s σ H E I hf st hg
    subst hP hw hK
    obtain ⟨f0, f1, f2, f3, f4, f5⟩ := hf it (by simp)
    exact wpAny_pyNext_range_end (I.ok.hd hc) st (by have : n ≤ i := hg; omega) fun h' eb => ⟨rfl, I.turned (t' := s.toks) (fun b o hb e => eb b o hb e) f0 f1 f3 f4 f5⟩
  self := fun _ _ _ _ _ st h => wpAny_pyIter_rangeiter st h
end L2
namespace L2
open PySem PySem.Spec PyProof.Rows
section
variable {X : Cx} {tg : Expr}
def iList (K : PySem.W.Frag) (tl : TE) : TI := fun σ H R => tl σ H fun x H1 => ∃ a, x = .ref a ∧ (∃ xs, SqL K H1 a xs) ∧ R (Itl K a) H1
def iTup (K : PySem.W.Frag) (tl : TE) : TI := fun σ H R => tl σ H fun x H1 => ∃ a, x = .ref a ∧ (∃ xs, SqT K H1 a xs) ∧ R (Itt K a) H1
theorem pi_list {l : Expr} {tl : TE} (hl : PE X l tl) : PI X tg l (iList X.K tl) := by
  intro pins s σ H R I h
  refine thn (hl pins s σ H _ I h) fun v s1 ⟨x, H1, I1, r1, q1⟩ => ?_
  obtain ⟨a, e, ⟨xs, hq⟩, q⟩ := q1
  subst e
  cases r1
  obtain ⟨its, rv, p, hz⟩ := I1.list hq
  refine wpAny_pyIter_list p.isList ?_
  refine ⟨s1.heap.objs.size, [s1.heap.objs.size], _, _, H1, rfl, I1.kept (t' := s1.toks) fun b o e => Heap.get?_push_of_some _ e, turn_list a _, ⟨_, Heap.get?_push_size _ rfl, rfl, rfl⟩, fun b hb => ?_, q⟩
  have e : b = s1.heap.objs.size := by simpa using hb
  subst e
  exact I1.fpOk (Nat.le_refl _) (I1.hok.fresh (Nat.le_refl _))
theorem pi_tup {l : Expr} {tl : TE} (hl : PE X l tl) : PI X tg l (iTup X.K tl) := by
  intro pins s σ H R I h
  refine thn (hl pins s σ H _ I h) fun v s1 ⟨x, H1, I1, r1, q1⟩ => ?_
  obtain ⟨a, e, ⟨xs, hq⟩, q⟩ := q1
  subst e
  cases r1
  obtain ⟨its, rv, p, hz⟩ := I1.tuple hq
  refine wpAny_pyIter_tuple (show s1.heap.IsTuple a its.toArray from p) ?_
  refine ⟨s1.heap.objs.size, [s1.heap.objs.size], _, _, H1, rfl, I1.kept (t' := s1.toks) fun b o e => Heap.get?_push_of_some _ e, turn_tuple a _, ⟨_, Heap.get?_push_size _ rfl, rfl, rfl⟩, fun b hb => ?_, q⟩
  have e : b = s1.heap.objs.size := by simpa using hb
  subst e
  exact I1.fpOk (Nat.le_refl _) (I1.hok.fresh (Nat.le_refl _))
theorem range_it {pins : List (Addr × Obj)} {σ : St} {H : Hp} {s : Shared} {R : It → Hp → Prop} {E : Value → Shared → Prop} {lo hi : Int} {t u v : Tok} {tk : Nat} (I : Inv X pins σ H s) (h1 : -(2 ^ 62) ≤ lo) (h2 : lo < 2 ^ 62) (h3 : -(2 ^ 62) ≤ hi) (h4 : hi < 2 ^ 62)
    (q : R (Itr lo (hi - lo).toNat) H) : wpAny (model X.prog X.w) X.A (pyIter (.ref s.heap.objs.size)) (PIE X pins σ tg R) E { s with heap := s.heap.push { cls := .type "range", data := .fields #[.int lo t, .int hi u, .int 1 v] }, toks := tk } := by
  refine wpAny_pyIter_range (IsRange.new ..) (small_one h1 h2 h3 h4) ?_
  have I1 : Inv X pins σ H { s with heap := s.heap.push { cls := .type "range", data := .fields #[.int lo t, .int hi u, .int 1 v] }, toks := tk } := I.kept fun b o e => Heap.get?_push_of_some _ e
  refine ⟨(s.heap.push { cls := .type "range", data := .fields #[.int lo t, .int hi u, .int 1 v] }).objs.size, [(s.heap.push { cls := .type "range", data := .fields #[.int lo t, .int hi u, .int 1 v] }).objs.size], _, _, H, rfl,
    I1.kept (t' := tk) fun b o e => Heap.get?_push_of_some _ e, turn_range _ lo (hi - lo).toNat, ?_, fun b hb => ?_, q⟩
  · have e1 : lo + ((0 : Nat) : Int) * 1 = lo := by simp
    have e2 : (((hi - lo).toNat : Nat) : Int) - ((0 : Nat) : Int) = Builtin.Range.rangeSize lo hi 1 := by rw [rangeSize_one]; split <;> omega
    show IsRangeIter _ _ (lo + ((0 : Nat) : Int) * 1) ((((hi - lo).toNat : Nat) : Int) - ((0 : Nat) : Int)) 1
    rw [e1, e2]
    exact Heap.get?_push_size _ rfl
  · have e : b = (s.heap.push { cls := .type "range", data := .fields #[.int lo t, .int hi u, .int 1 v] }).objs.size := by simpa using hb
    subst e
    exact I1.fpOk (Nat.le_refl _) (I1.hok.fresh (Nat.le_refl _))
def iRng1 (ta : TA) : TI := fun σ H R => ta σ H fun vs H1 => ∃ j : Int, vs = [.int j] ∧ -(2 ^ 62) ≤ j ∧ j < 2 ^ 62 ∧ R (Itr 0 j.toNat) H1
theorem pi_range1 {a : Expr} {ta : TA} {p pos : Pos} (hg : Gl X "range") (hm : X.mg "range" = none) (ha : PA X [a] ta) (hs : starEach [a] X.env = [(false, eval a X.env)] := by rfl) : PI X tg (.Call (.Name "range" p) [a] [] pos) (iRng1 ta) := by
  intro pins s σ H R I h
  refine Call_ (ld_blt I hg hm boot_range (PyProof.Rows.callWith_type1 (thn (ha pos pins s σ H _ I h) fun us s1 ⟨vs, H1, I1, r1, q1⟩ => ?_) hs rfl))
  obtain ⟨j, e, q1, q2, q⟩ := q1
  subst e
  cases r1 with
  | cons r rr =>
    cases rr
    obtain ⟨t, rfl⟩ := r
    exact call_range_1 (range_it I1 (by omega) (by omega) q1 q2 (by simpa using q))
def tFor (wi : TI) (g : TG) (tb : TS) : TS := fun D σ H => wi σ H fun J H1 => ∃ W : Nat → Nat → St → Hp → Prop, (∃ m, W 0 m σ H1) ∧ ∀ i m σ H, W i m σ H →
  (J.stop i H ∧ D.nx σ H) ∨ (J.go i H ∧ ∃ N : St → Hp → Prop, (∀ σ' H', N σ' H' → ∃ m', m' < m ∧ W (i + 1) m' σ' H') ∧ ∀ x H', J.yld i H x H' → g x σ H' fun σ2 H2 => tb { D with nx := N, ct := N, bk := D.nx } σ2 H2)
def pinsAt (fp : List Addr) (h : Heap) : List (Addr × Obj) := fp.filterMap fun b => (h.get? b).map fun o => (b, o)
theorem mem_pinsAt {fp : List Addr} {h : Heap} {b : Addr} {o : Obj} (hb : b ∈ fp) (e : h.get? b = some o) : (b, o) ∈ pinsAt fp h := List.mem_filterMap.mpr ⟨b, hb, by rw [e]; rfl⟩
theorem of_pinsAt {fp : List Addr} {h : Heap} {p : Addr × Obj} (hp : p ∈ pinsAt fp h) : p.1 ∈ fp ∧ h.get? p.1 = some p.2 := by
  obtain ⟨b, hb, e⟩ := List.mem_filterMap.mp hp
  cases q : h.get? b with
  | none => rw [q] at e; cases e
  | some o =>
    rw [q] at e
    have e' : (b, o) = p := Option.some.inj e
    subst e'
    exact ⟨hb, q⟩
theorem Inv.pinned {pins : List (Addr × Obj)} {σ : St} {H : Hp} {s : Shared} {fp : List Addr} (I : Inv X pins σ H s) (hf : ∀ b ∈ fp, FpOk X pins H b) (ho : ∀ b ∈ fp, ∃ o, s.heap.get? b = some o ∧ ∀ v, o.data ≠ .cell v) : Inv X (pins ++ pinsAt fp s.heap) σ H s :=
  I.pins_of fun p hp => (List.mem_append.mp hp).elim (fun z => I.pin p (List.mem_append_right _ z)) fun z => by
    obtain ⟨hb, e⟩ := of_pinsAt z
    obtain ⟨f0, f1, f2, _⟩ := hf p.1 hb
    obtain ⟨o, e', d⟩ := ho p.1 hb
    rw [e] at e'; cases e'
    exact ⟨e, f0, f1, f2, d⟩
theorem Inv.unpinned {pins pl : List (Addr × Obj)} {σ : St} {H : Hp} {s : Shared} (I : Inv X (pins ++ pl) σ H s) : Inv X pins σ H s := I.pins_of fun p hp => I.pin p (List.mem_append_right _ (List.mem_append_left _ hp))
theorem ps_for {iter : Expr} {body : List Stmt} {wi : TI} {g : TG} {tb : TS} {pos : Pos} (hp : PassesOwn (model X.prog X.w) X.A X.env X.xe) (hc : X.calm = true) (hi : PI X tg iter wi) (hg : PG X tg g) (hb : PSs X body tb)
    (hs : ∀ x, foldedSetIterable iter X.env x = pure x := by intro _; rfl) : PS X (.For tg iter body [] pos) (tFor wi g tb) := by
  intro pins s σ H D I h
  refine wpAny_For (thn (hi pins s σ H _ I h) fun v s1 h1 => thn h1 fun itv s2 h2 => ?_) hs
  obtain ⟨it, fp, tn, J, H2, e, I2, T, st2, f2, W, ⟨m0, w0⟩, turn⟩ := h2
  subst e
  have stat : ∀ {H' : Hp}, (∀ b ∈ fp, H' b = none) → ∀ b ∈ fp, FpOk X pins H' b := fun hn b hb => ⟨hn b hb, (f2 b hb).2⟩
  refine codeAny_forLoop_any (fun n s' => ∃ i σ' H', Inv X pins σ' H' s' ∧ tn i s'.heap ∧ (∀ b ∈ fp, H' b = none) ∧ W i n σ' H') ?_ m0 ⟨0, σ, H2, I2, st2, fun b hb => (f2 b hb).1, w0⟩
  rintro n s3 ⟨i, σ3, H3, I3, st3, fr3, w3⟩
  rcases turn i n σ3 H3 w3 with ⟨stop, qn⟩ | ⟨go, N, hN, step⟩
  · refine wpAny_passesOwn hp (thn (T.done X rfl rfl rfl hc i pins s3 σ3 H3 X.xe I3 (stat fr3) st3 stop) fun r s4 ⟨hr, I4⟩ => ?_)
    subst hr
    exact wpAny_execs_nil ⟨σ3, H3, I4, qn⟩
  · refine wpAny_passesOwn hp (thn (T.item X rfl rfl rfl hc i pins s3 σ3 H3 X.xe I3 (stat fr3) st3 go) fun r s4 ⟨u, hr, h4⟩ => ?_)
    subst hr
    refine wpAny_passesOwn hp (thn h4 fun _ s5 ⟨x, H5, I5, r5, y5, st5, fr5⟩ => ?_)
    have I5' := I5.pinned (stat fr5) (T.obj _ _ st5)
    refine wpAny_passesOwn hp (thn (hg _ s5 σ3 H5 x u _ I5' r5 (step x H5 y5)) fun _ s6 ⟨σ6, H6, I6, q6⟩ => ?_)
    refine wpAny_passesOwn hp (thn (hb _ s6 σ6 H6 _ I6 q6) fun f s7 q7 => ?_)
    have again : ∀ {σ7 : St} {H7 : Hp}, Inv X (pins ++ pinsAt fp s5.heap) σ7 H7 s7 → N σ7 H7 → ∃ m, m < n ∧ ∃ i σ' H', Inv X pins σ' H' s7 ∧ tn i s7.heap ∧ (∀ b ∈ fp, H' b = none) ∧ W i m σ' H' := fun {σ7 H7} I7 n7 => by
      obtain ⟨m', hm, w7⟩ := hN σ7 H7 n7
      refine ⟨m', hm, i + 1, σ7, H7, I7.unpinned, T.keep _ _ _ st5 fun b hb o e => (I7.pin (b, o) (List.mem_append_right _ (List.mem_append_right _ (mem_pinsAt hb e)))).1, fun b hb => ?_, w7⟩
      obtain ⟨o, e, d⟩ := T.obj _ _ st5 b hb
      exact (I7.pin (b, o) (List.mem_append_right _ (List.mem_append_right _ (mem_pinsAt hb e)))).2.1
    cases f with
    | next => obtain ⟨σ7, H7, I7, n7⟩ := q7; exact again I7 n7
    | cont => obtain ⟨σ7, H7, I7, n7⟩ := q7; exact again I7 n7
    | brk => obtain ⟨σ7, H7, I7, q7⟩ := q7; exact ⟨σ7, H7, I7.unpinned, q7⟩
    | ret v => obtain ⟨x7, σ7, H7, I7, r7, q7⟩ := q7; exact ⟨x7, σ7, H7, I7.unpinned, r7, q7⟩
end
end L2
namespace L2
open PySem PySem.Spec PyProof.Rows
abbrev R2 := V → V → Hp → VK → Prop
def OpR (X : Cx) (f : Value → Value → Sem Value) (r : R2) : Prop :=
  ∀ (pins : List (Addr × Obj)) (s : Shared) (σ : St) (H : Hp) (x y : V) (v u : Value) (Q : VK), Inv X pins σ H s → RelV x v → RelV y u → r x y H Q →
    wpAny (model X.prog X.w) X.A (f v u) (EP X pins σ Q) X.xe s
def UnR (X : Cx) (f : Value → Sem Value) (r : V → Hp → VK → Prop) : Prop :=
  ∀ (pins : List (Addr × Obj)) (s : Shared) (σ : St) (H : Hp) (x : V) (v : Value) (Q : VK), Inv X pins σ H s → RelV x v → r x H Q →
    wpAny (model X.prog X.w) X.A (f v) (EP X pins σ Q) X.xe s
def CallR (X : Cx) (f : Value) (r : List V → Hp → VK → Prop) : Prop :=
  ∀ (pins : List (Addr × Obj)) (s : Shared) (σ : St) (H : Hp) (xs : List V) (us : List Value) (Q : VK), Inv X pins σ H s → Vals xs us → r xs H Q →
    wpAny (model X.prog X.w) X.A (call f us) (EP X pins σ Q) X.xe s
def TruR (X : Cx) (r : V → Hp → (Bool → Hp → Prop) → Prop) : Prop :=
  ∀ (pins : List (Addr × Obj)) (s : Shared) (σ : St) (H : Hp) (x : V) (v : Value) (Q : Bool → Hp → Prop), Inv X pins σ H s → RelV x v → r x H Q →
    wpAny (model X.prog X.w) X.A (truthy v) (TP X pins σ Q) X.xe s
def tOp (r : R2) (ta tb : TE) : TE := fun σ H Q => ta σ H fun x H1 => tb σ H1 fun y H2 => r x y H2 Q
def tUn (r : V → Hp → VK → Prop) (ta : TE) : TE := fun σ H Q => ta σ H fun x H1 => r x H1 Q
def rI (C : Int → Int → Prop) (g : Int → Int → V) : R2 := fun x y H Q => ∃ i j, x = .int i ∧ y = .int j ∧ C i j ∧ Q (g i j) H
def rI0 (g : Int → Int → V) : R2 := fun x y H Q => ∃ i j, x = .int i ∧ y = .int j ∧ Q (g i j) H
def rU (g : Int → V) : V → Hp → VK → Prop := fun x H Q => ∃ i, x = .int i ∧ Q (g i) H
section
variable {X : Cx} {a b c : Expr} {ta tb tc : TE} {pos : Pos}
theorem binT (ha : PE X a ta) (hb : PE X b tb) {pins : List (Addr × Obj)} {s : Shared} {σ : St} {H : Hp} {R : V → V → Hp → Prop} (I : Inv X pins σ H s)
    (h : ta σ H fun x H1 => tb σ H1 fun y H2 => R x y H2) {Q : Value → Shared → Prop} {f : Value → Value → Sem Value}
    (hf : ∀ v u s2 x y H2, Inv X pins σ H2 s2 → RelV x v → RelV y u → R x y H2 → wpAny (model X.prog X.w) X.A (f v u) Q X.xe s2) :
    wpAny (model X.prog X.w) X.A (eval a X.env) (fun v s₁ => wpAny (model X.prog X.w) X.A (eval b X.env) (fun u s₂ => wpAny (model X.prog X.w) X.A (f v u) Q X.xe s₂) X.xe s₁) X.xe s := by
  refine thn (ha pins s σ H _ I h) fun v s1 ⟨x, H1, I1, r1, q1⟩ => ?_
  refine thn (hb pins s1 σ H1 _ I1 q1) fun u s2 ⟨y, H2, I2, r2, q2⟩ => ?_
  exact hf v u s2 x y H2 I2 r1 r2 q2
theorem pe_op {op : Operator} {r : R2} (ho : OpR X (binaryOp op) r) (ha : PE X a ta) (hb : PE X b tb) : PE X (.BinOp a op b pos) (tOp r ta tb) := by
  intro pins s σ H Q I h
  exact wpAny_BinOp (binT ha hb I h fun v u s2 x y H2 I2 rx ry q => ho pins s2 σ H2 x y v u Q I2 rx ry q)
theorem pe_un {op : UnaryOp} {r : V → Hp → VK → Prop} (ho : UnR X (unaryOp op) r) (ha : PE X a ta) : PE X (.UnaryOp op a pos) (tUn r ta) := by
  intro pins s σ H Q I h
  exact UnaryOp_ (thn (ha pins s σ H _ I h) fun v s1 ⟨x, H1, I1, r1, q1⟩ => ho pins s1 σ H1 x v Q I1 r1 q1)
theorem opI {f : Value → Value → Sem Value} {C : Int → Int → Prop} {g : Int → Int → Int}
    (rule : ∀ (i j : Int) (t u : Tok) (s : Shared) (Q : Value → Shared → Prop) (E : Value → Shared → Prop), C i j → Q (.int (g i j) s.toks) { s with toks := s.toks + 1 } → wpAny (model X.prog X.w) X.A (f (.int i t) (.int j u)) Q E s) :
    OpR X f (rI C fun i j => .int (g i j)) := by
  intro pins s σ H x y v u Q I rx ry h
  obtain ⟨i, j, rfl, rfl, hc, q⟩ := h
  obtain ⟨t, rfl⟩ := rx
  obtain ⟨t', rfl⟩ := ry
  exact rule i j t t' s _ _ hc ⟨.int (g i j), H, I.tok _, ⟨_, rfl⟩, q⟩
theorem opI0 {f : Value → Value → Sem Value} {g : Int → Int → Int}
    (rule : ∀ (i j : Int) (t u : Tok) (s : Shared) (Q : Value → Shared → Prop) (E : Value → Shared → Prop), Q (.int (g i j) s.toks) { s with toks := s.toks + 1 } → wpAny (model X.prog X.w) X.A (f (.int i t) (.int j u)) Q E s) :
    OpR X f (rI0 fun i j => .int (g i j)) := by
  intro pins s σ H x y v u Q I rx ry h
  obtain ⟨i, j, rfl, rfl, q⟩ := h
  obtain ⟨t, rfl⟩ := rx
  obtain ⟨t', rfl⟩ := ry
  exact rule i j t t' s _ _ ⟨.int (g i j), H, I.tok _, ⟨_, rfl⟩, q⟩
theorem opB0 {f : Value → Value → Sem Value} {g : Int → Int → Bool}
    (rule : ∀ (i j : Int) (t u : Tok) (s : Shared) (Q : Value → Shared → Prop) (E : Value → Shared → Prop), Q (.bool (g i j)) s → wpAny (model X.prog X.w) X.A (f (.int i t) (.int j u)) Q E s) :
    OpR X f (rI0 fun i j => .bl (g i j)) := by
  intro pins s σ H x y v u Q I rx ry h
  obtain ⟨i, j, rfl, rfl, q⟩ := h
  obtain ⟨t, rfl⟩ := rx
  obtain ⟨t', rfl⟩ := ry
  exact rule i j t t' s _ _ ⟨.bl (g i j), H, I, rfl, q⟩
def CDiv (i j : Int) : Prop := 0 < j ∧ j < 1073741824
def CPow (i j : Int) : Prop := 0 ≤ j ∧ j ≤ 1000000 ∧ i.natAbs < 2 ^ 64
def CMul (i j : Int) : Prop := (-(2 ^ 64) < i ∧ i < 2 ^ 64) ∨ (-(2 ^ 64) < j ∧ j < 2 ^ 64)
theorem CMul.ok {i j : Int} (h : CMul i j) : IntMulOk i j := by
  rcases h with ⟨h1, h2⟩ | ⟨h1, h2⟩
  · exact .of_left (intBits_le_64 h1 h2)
  · exact .of_right (intBits_le_64 h1 h2)
theorem op_add : OpR X (binaryOp .Add) (rI0 fun i j => .int (i + j)) := opI0 fun _ _ _ _ _ _ _ q => add_int q
theorem op_sub : OpR X (binaryOp .Sub) (rI0 fun i j => .int (i - j)) := opI0 fun _ _ _ _ _ _ _ q => sub_int q
theorem op_mul : OpR X (binaryOp .Mult) (rI CMul fun i j => .int (i * j)) := opI fun _ _ _ _ _ _ _ hc q => mul_int q hc.ok
theorem op_fdiv : OpR X (binaryOp .FloorDiv) (rI CDiv fun i j => .int (i / j)) := opI fun i j _ _ _ _ _ hc q => by
  have h1 : (0 : Int) < j := hc.1
  have h2 : j < 1073741824 := hc.2
  exact floordiv_int (by omega) (by rw [Int.fdiv_eq_ediv_of_nonneg i (by omega)]; exact q) (.inl (PyProof.noPylong_small (by omega)))
theorem op_mod : OpR X (binaryOp .Mod) (rI (fun _ j => 0 < j) fun i j => .int (i % j)) := opI fun i j _ _ _ _ _ hc q => by
  have h1 : (0 : Int) < j := hc
  exact mod_int' (by omega) (by rw [Int.fmod_eq_emod_of_nonneg i (by omega)]; exact q)
theorem op_pow : OpR X (binaryOp .Pow) (rI CPow fun i j => .int (i ^ j.toNat)) := opI fun _ _ _ _ _ _ _ hc q => pow_int_small hc.1 hc.2.1 hc.2.2 q
theorem unI {f : Value → Sem Value} {g : Int → Int}
    (rule : ∀ (i : Int) (t : Tok) (s : Shared) (Q : Value → Shared → Prop) (E : Value → Shared → Prop), Q (.int (g i) s.toks) { s with toks := s.toks + 1 } → wpAny (model X.prog X.w) X.A (f (.int i t)) Q E s) :
    UnR X f (rU fun i => .int (g i)) := by
  intro pins s σ H x v Q I rx h
  obtain ⟨i, rfl, q⟩ := h
  obtain ⟨t, rfl⟩ := rx
  exact rule i t s _ _ ⟨.int (g i), H, I.tok _, ⟨_, rfl⟩, q⟩
theorem un_neg : UnR X (unaryOp .USub) (rU fun i => .int (-i)) := unI fun _ _ _ _ _ q => neg_int q
end
section
variable {X : Cx} {a b c : Expr} {ta tb tc : TE} {pos : Pos}
theorem op_lt : OpR X (compareOp .Lt) (rI0 fun i j => .bl (decide (i < j))) := opB0 fun _ _ _ _ _ _ _ q => lt_int q
theorem op_le : OpR X (compareOp .LtE) (rI0 fun i j => .bl (decide (i ≤ j))) := opB0 fun _ _ _ _ _ _ _ q => le_int q
theorem OpR.or {f : Value → Value → Sem Value} {r r' : R2} (h : OpR X f r) (h' : OpR X f r') : OpR X f (fun x y H Q => r x y H Q ∨ r' x y H Q) := by
  intro pins s σ H x y v u Q I rx ry q
  rcases q with q | q
  · exact h pins s σ H x y v u Q I rx ry q
  · exact h' pins s σ H x y v u Q I rx ry q
theorem nomark (b : Expr) {op : CmpOp} (h : op ≠ .In := by decide) (h2 : op ≠ .NotIn := by decide) : behindInMarks op b = false := by
  have e1 : (op == CmpOp.In) = false := by cases op <;> first | rfl | exact absurd rfl h
  have e2 : (op == CmpOp.NotIn) = false := by cases op <;> first | rfl | exact absurd rfl h2
  cases b <;> simp [behindInMarks, e1, e2]
theorem pe_cmpR {op : CmpOp} {r : R2} (ho : OpR X (compareOp op) r) (ha : PE X a ta) (hb : PE X b tb) (hm : behindInMarks op b = false) : PE X (.Compare a [op] [b] pos) (tOp r ta tb) := by
  intro pins s σ H Q I h
  exact wpAny_Compare1 (binT ha hb I h fun v u s2 x y H2 I2 rx ry q => ho pins s2 σ H2 x y v u Q I2 rx ry q) hm
def tTest (t : TE) : TT := fun σ H Q => t σ H fun x H' => ∃ k, x = .bl k ∧ Q k H'
theorem pt_cmpR {op : CmpOp} {r : R2} (ho : OpR X (compareOp op) r) (ha : PE X a ta) (hb : PE X b tb) (hm : behindInMarks op b = false) : PT X (.Compare a [op] [b] pos) (tTest (tOp r ta tb)) := by
  intro pins s σ H Q I h
  refine wpAny_isTrue_Compare1 (thn (ha pins s σ H _ I h) fun v s1 ⟨x, H1, I1, r1, q1⟩ => thn (hb pins s1 σ H1 _ I1 q1) fun u s2 ⟨y, H2, I2, r2, q2⟩ =>
    thn (ho pins s2 σ H2 x y v u _ I2 r1 r2 q2) fun c s3 ⟨z, H3, I3, r3, k, e, q3⟩ => ?_) hm
  subst e
  cases r3
  exact wpAny_truthy_bool ⟨H3, I3, q3⟩
def tChain (r r' : R2) (ta tb tc : TE) : TE := fun σ H Q => ta σ H fun x H1 => tb σ H1 fun y H2 => r x y H2 fun z H3 => ∃ k, z = .bl k ∧
  (if k = true then tc σ H3 fun w' H4 => r' y w' H4 Q else Q (.bl false) H3)
theorem pt_chain {op op' : CmpOp} {r r' : R2} (ho : OpR X (compareOp op) r) (ho' : OpR X (compareOp op') r') (ha : PE X a ta) (hb : PE X b tb) (hc : PE X c tc)
    (hm : lastMarks [op, op'] [b, c] = false := by with_unfolding_all rfl) : PT X (.Compare a [op, op'] [b, c] pos) (tTest (tChain r r' ta tb tc)) := by
  intro pins s σ H Q I h
  refine isTrue_chain (thn (ha pins s σ H _ I h) fun v s1 ⟨x, H1, I1, r1, q1⟩ => test_link (thn (hb pins s1 σ H1 _ I1 q1) fun u s2 ⟨y, H2, I2, r2, q2⟩ =>
    thn (ho pins s2 σ H2 x y v u _ I2 r1 r2 q2) fun d s3 ⟨z, H3, I3, r3, k, e, q3⟩ => ?_)) hm
  subst e
  cases r3
  refine wpAny_truthy_bool ?_
  cases k with
  | false =>
    obtain ⟨k', e', q'⟩ := q3
    cases e'
    exact ite_ff ⟨H3, I3, q'⟩
  | true =>
    refine ite_tt (test_last (thn (hc pins s3 σ H3 _ I3 q3) fun w' s4 ⟨z', H4, I4, r4, q4⟩ => thn (ho' pins s4 σ H4 y z' u w' _ I4 r2 r4 q4) fun d' s5 ⟨z2, H5, I5, r5, k2, e2, q5⟩ => ?_))
    subst e2
    cases r5
    exact wpAny_truthy_bool ⟨H5, I5, q5⟩
def TruV (K : PySem.W.Frag) (x : V) (H : Hp) (k : Bool) : Prop :=
  match x with
  | .non => k = false
  | .bl b => k = b
  | .int i => k = (i != 0)
  | .str y => y.length ≤ sizeLine ∧ k = ((y.length : Int) != 0)
  | .byt y => y.size ≤ sizeLine ∧ k = ((y.size : Int) != 0)
  | .ref p => (∃ xs, SqL K H p xs ∧ k = !xs.isEmpty) ∨ (∃ xs, SqT K H p xs ∧ k = !xs.isEmpty) ∨ ∃ kvs, H p = some (.dK kvs) ∧ k = !kvs.isEmpty
  | _ => False
theorem isEmpty_kv {κ : Type} {kvs : List (κ × V)} {vs : List (κ × Value)} (r : KV kvs vs) : (!vs.isEmpty) = !kvs.isEmpty := by
  cases r <;> rfl
theorem isEmpty_of {xs : List V} {its : List Value} (r : Vals xs its) : (!its.toArray.isEmpty) = !xs.isEmpty := by
  cases r <;> simp
theorem line63 : (sizeLine : Nat) < 2 ^ 63 := by rw [sizeLine_eq]; decide
theorem tru_ok : TruR X (fun x H Q => ∃ k, TruV X.K x H k ∧ Q k H) := by
  intro pins s σ H x v Q I rx h
  obtain ⟨k, e, q⟩ := h
  have hl := line63
  have hs : sizeLine = 16777216 := sizeLine_eq
  cases x with
  | non =>
    cases rx
    have e' : k = false := e
    subst e'
    exact truthy_none ⟨H, I, q⟩
  | bl b =>
    cases rx
    have e' : k = b := e
    subst e'
    exact wpAny_truthy_bool ⟨H, I, q⟩
  | int i =>
    obtain ⟨t, rfl⟩ := rx
    have e' : k = (i != 0) := e
    subst e'
    exact PySem.P.truthy_int ⟨H, I, q⟩
  | str y =>
    obtain ⟨t, rfl⟩ := rx
    obtain ⟨hy, e'⟩ : y.length ≤ sizeLine ∧ k = ((y.length : Int) != 0) := e
    subst e'
    exact PySem.P.truthy_str (by omega) ⟨H, I.tok _, q⟩
  | byt y =>
    obtain ⟨t, rfl⟩ := rx
    obtain ⟨hy, e'⟩ : y.size ≤ sizeLine ∧ k = ((y.size : Int) != 0) := e
    subst e'
    exact PySem.W.truthy_bytes (by omega) ⟨H, I.tok _, q⟩
  | ref p =>
    cases rx
    have e' : (∃ xs, SqL X.K H p xs ∧ k = !xs.isEmpty) ∨ (∃ xs, SqT X.K H p xs ∧ k = !xs.isEmpty) ∨ ∃ kvs, H p = some (.dK kvs) ∧ k = !kvs.isEmpty := e
    rcases e' with ⟨xs, hx, e'⟩ | ⟨xs, hx, e'⟩ | ⟨kvs, hx, e'⟩
    · subst e'
      obtain ⟨its, r, pl, hz⟩ := I.list hx
      have hlen := r.length
      exact wpAny_truthy_list pl.isList (by simp only [List.size_toArray]; omega) ⟨H, I.tok _, by rw [isEmpty_of r]; exact q⟩
    · subst e'
      obtain ⟨its, r, pl, hz⟩ := I.tuple hx
      have hlen := r.length
      exact truthy_tuple pl (by simp only [List.size_toArray]; omega) ⟨H, I.tok _, by rw [isEmpty_of r]; exact q⟩
    · subst e'
      obtain ⟨hz, hS, vs, r, m⟩ : kvs.length ≤ sizeLine ∧ (p == sysModules) = false ∧ ∃ vs, KV kvs vs ∧ s.heap.DictOf (mixKind X.prog X.w) p vs := I.hok p _ hx
      have hlen : kvs.length = vs.length := Paired.length r
      exact wpAny_truthy_dict hS m (by omega) ⟨H, I.tok _, by rw [isEmpty_kv r]; exact q⟩
  | _ => exact (show False from e).elim
theorem pt_truth (ha : PE X a ta) (he : ∀ whole, isTrue a X.env whole = (do let v ← whole; standAt a.pos; holding [v] (truthy v))) :
    PT X a (fun σ H Q => ta σ H fun x H' => ∃ k, TruV X.K x H' k ∧ Q k H') := by
  intro pins s σ H Q I h
  exact isTrue_plain (thn (ha pins s σ H _ I h) fun v s1 ⟨x, H1, I1, r1, q1⟩ => tru_ok pins s1 σ H1 x v Q I1 r1 q1) (he _)
theorem vals1 {x : V} {us : List Value} (r : Vals [x] us) : ∃ u, us = [u] ∧ RelV x u := by
  cases r with
  | cons r1 r2 => cases r2; exact ⟨_, rfl, r1⟩
theorem vals2 {x y : V} {us : List Value} (r : Vals [x, y] us) : ∃ u w', us = [u, w'] ∧ RelV x u ∧ RelV y w' := by
  cases r with
  | cons r1 r2 =>
    cases r2 with
    | cons r3 r4 => cases r4; exact ⟨_, _, rfl, r1, r3⟩
end
end L2
namespace L2
open PySem PySem.Spec PyProof.Rows
structure ObjM (h : Heap) (x dx C : Addr) (mA : Str → Option Value) : Prop where
  obj : h.get? x = some (PySem.W.instObj C dx)
  ns : h.Ns1 dx mA
  ne : dx ≠ x
theorem lookIn_ns {h : Heap} {dx : Addr} {mA : Str → Option Value} (n : h.Ns1 dx mA) : ∃ od, h.get? dx = some od ∧ ∀ name, PySem.W.lookIn name od = some (mA name) := by
  obtain ⟨o, es, ep, ho, hd, hk, _, hm⟩ := n
  refine ⟨o, ho, fun name => ?_⟩
  have e := hm name
  unfold nsFind findBy at e
  rw [← Array.find?_toList] at e
  unfold PySem.W.lookIn
  rw [hd]
  dsimp only
  split
  · rename_i y q
    rw [q] at e
    exact congrArg some e
  · rename_i q
    rw [q] at e
    have a : es.toList.any (·.refKey) = false := by
      rw [List.any_eq_false]
      intro y hy
      obtain ⟨z, t, hkey⟩ := hk y (Array.mem_toList_iff.mp hy)
      simp [DictEntry.refKey, hkey]
    have a' : ¬ es.toList.any (·.refKey) = true := by rw [a]; exact Bool.false_ne_true
    rw [if_neg a']
    exact congrArg some e
theorem ObjM.look {h : Heap} {x dx C : Addr} {mA : Str → Option Value} (I : ObjM h x dx C mA) : ∃ od, PySem.W.InstAt h x (PySem.W.instObj C dx) C (some od) ∧ ∀ name, PySem.W.lookIn name od = some (mA name) :=
  let ⟨od, ho, hl⟩ := lookIn_ns I.ns
  ⟨od, ⟨I.obj, rfl, rfl, ho⟩, hl⟩
section
variable {prog : Program} {w : World} {A : Around} {E : Value → Shared → Prop} {s : Shared} {K : PySem.W.Frag} {x dx C f : Addr} {mA : Str → Option Value} {name : Str} {v : Value}
end
theorem RelO.some_of {v : V} {o : Option Value} (r : RelO (some v) o) : ∃ u, o = some u ∧ RelV v u := by
  cases o with
  | none => exact (show False from r).elim
  | some u => exact ⟨u, rfl, r⟩
section
variable {P : Program} {w : World} {H H' : Hp} {h h' : Heap} {a C dx : Addr} {fs fs' : List (Str × V)}
theorem ins_get (hok : HOk P w H h) (e : H a = some (.ins C dx fs)) : ∃ mA, ObjM h a dx C mA ∧ (∀ f, RelO (fs.lookup f) (mA f)) ∧ PySem.Within mA (fs.map (·.1)) ∧ fs.length ≤ 1000 ∧ H dx = some (.own a) := by
  obtain ⟨d, z, ne, ob, mA, n, r, q⟩ := (show ObjOk P w H h a (.ins C dx fs) from hok a _ e)
  exact ⟨mA, ⟨ob, n, ne⟩, r, q, z, d⟩
end
structure Cls (K : PySem.W.Frag) (C : Addr) : Prop where
  pg : PySem.W.plainGet K C Str.empty = true
  hd : PySem.W.hasDictIn K C = true
  po : PySem.W.plainOver K C = true
  sa : PySem.W.findIn K (.ref C) "__setattr__" = some (some (.builtin "object.__setattr__"))
theorem Cls.get {K : PySem.W.Frag} {C : Addr} (c : Cls K C) (f : Str) : PySem.W.plainGet K C f = true := c.pg
section
variable {X : Cx} {pins : List (Addr × Obj)} {σ : St} {H : Hp} {s : Shared} {a C dx : Addr} {fs : List (Str × V)} {f : Str} {v : V} {A : Around} {E : Value → Shared → Prop}
theorem Inv.made (I : Inv X pins σ H s) : Inv X pins σ (upd (upd H s.heap.objs.size (.own (s.heap.objs.size + 1))) (s.heap.objs.size + 1) (.ins C s.heap.objs.size []))
    { s with heap := (s.heap.push PySem.W.emptyDict).push (PySem.W.instObj C s.heap.objs.size) } := by
  have e1 : (s.heap.push PySem.W.emptyDict).get? s.heap.objs.size = some PySem.W.emptyDict := Heap.get?_push_size s.heap rfl
  have e2 : ((s.heap.push PySem.W.emptyDict).push (PySem.W.instObj C s.heap.objs.size)).get? (s.heap.objs.size + 1) = some (PySem.W.instObj C s.heap.objs.size) := by
    have := Heap.get?_push_size (s.heap.push PySem.W.emptyDict) (o := PySem.W.instObj C s.heap.objs.size) rfl
    rwa [Heap.size_push] at this
  have e3 : (s.heap.push PySem.W.emptyDict).Ns s.heap.objs.size (fun _ => none) := ⟨PySem.W.emptyDict, #[], _, e1, rfl, (fun e he => absurd he (by simp)), fun _ => rfl⟩
  have I1 := I.laid (a := s.heap.objs.size) (o := .own (s.heap.objs.size + 1)) (h' := s.heap.push PySem.W.emptyDict) (t' := s.toks) (fun b u q => Heap.get?_push_of_some _ q) (Nat.le_refl _) ⟨_, e1⟩
  refine I1.laid (a := s.heap.objs.size + 1) (o := .ins C s.heap.objs.size []) (t' := s.toks) (fun b u q => Heap.get?_push_of_some _ q) (Nat.le_of_eq (Heap.size_push _ _)) ?_
  have ne : s.heap.objs.size ≠ s.heap.objs.size + 1 := Nat.ne_of_lt (Nat.lt_succ_self _)
  refine ⟨by rw [upd_ne ne, upd_same], Nat.zero_le _, ne, e2, fun _ => none, (Heap.Ns1.of_empty e3).at fun o q => Heap.get?_push_of_some _ q, fun _ => True.intro, fun y hy => absurd rfl hy⟩
end
section
variable {X : Cx} {o e value : Expr} {f : Str} {pos pos' tpos : Pos} {ta tv : TE}
end
section
variable {X : Cx} {pins : List (Addr × Obj)} {σ : St} {H : Hp} {s : Shared} {A : Around} {E : Value → Shared → Prop} {Q : Value → Shared → Prop} {c : Value} {b : Bool}
inductive TyOf (K : PySem.W.Frag) (H : Hp) : V → Value → Prop where
  | non : TyOf K H .non (.type "NoneType")
  | bl (x : Bool) : TyOf K H (.bl x) (.type "bool")
  | int (i : Int) : TyOf K H (.int i) (.type "int")
  | str (x : Str) : TyOf K H (.str x) (.type "str")
  | flt (x : UInt64) : TyOf K H (.flt x) (.type "float")
  | lst {a : Addr} {xs : List V} (e : H a = some (.lst xs)) : TyOf K H (.ref a) (.type "list")
  | frz {a : Addr} {o : Obj} {xs : List V} (e : H a = some (.frz o (.lst xs))) : TyOf K H (.ref a) (.type "list")
  | tup {a : Addr} {xs : List V} (e : H a = some (.tup xs)) : TyOf K H (.ref a) (.type "tuple")
  | dK {a : Addr} {kvs : List (Key × V)} (e : H a = some (.dK kvs)) : TyOf K H (.ref a) (.type "dict")
  | dT {a : Addr} {kvs : List (List Key × V)} (e : H a = some (.dT kvs)) : TyOf K H (.ref a) (.type "dict")
  | ins {a C dx : Addr} {fs : List (Str × V)} (e : H a = some (.ins C dx fs)) (cl : Cls K C) (ha : PySem.W.findIn K (.ref C) "__class__" = some (some (.builtin "object.__class__")))
      (hn : PySem.W.specialIn K (.builtin "object.__class__") "__get__" = some (some (.builtin "getset_descriptor.__get__"))) (htk : PySem.W.takesIn K (.builtin "object.__class__") = some true)
      (hm : PySem.W.mroIn K C (.type "object") = some true) : TyOf K H (.ref a) (.ref C)
theorem isinst_ok {x : V} {u t : Value} (I : Inv X pins σ H s) (rx : RelV x u) (ty : TyOf X.K H x t) (e : PySem.W.kitOne X.K t c = some b) (h : ∀ tk, Q (.bool b) { s with toks := tk }) :
    wpAny (model X.prog X.w) A (call (.builtin "isinstance") [u, c]) Q E s := by
  cases ty with
  | non => cases (show u = Value.none from rx); exact PySem.W.kia_one PySem.W.kitx_none I.kIn True.intro e (fun z => nomatch z) h
  | bl y => cases (show u = Value.bool y from rx); exact PySem.W.kia_one PySem.W.kitx_bool I.kIn True.intro e (fun z => nomatch z) h
  | int i => obtain ⟨t, q⟩ := (show ∃ t, u = Value.int i t from rx); cases q; exact PySem.W.kia_one PySem.W.kitx_int I.kIn True.intro e (fun z => nomatch z) h
  | str y => obtain ⟨t, q⟩ := (show ∃ t, u = Value.str y t from rx); cases q; exact PySem.W.kia_one PySem.W.kitx_str I.kIn True.intro e (fun z => nomatch z) h
  | flt y => obtain ⟨t, q⟩ := (show ∃ t, u = Value.float y t from rx); cases q; exact PySem.W.kia_one PySem.W.kitx_float I.kIn True.intro e (fun z => nomatch z) h
  | @lst a xs ea =>
    cases (show u = Value.ref a from rx)
    obtain ⟨_, _, n, _, h1⟩ := (show ObjOk X.prog X.w H s.heap a (.lst xs) from I.hok a _ ea)
    exact PySem.W.kia_one PySem.W.kitx_list I.kIn ⟨_, h1, rfl⟩ e (fun z => nomatch z) h
  | @frz a ob xs ea =>
    cases (show u = Value.ref a from rx)
    obtain ⟨_, _, _, n, _, h1⟩ := (show ObjOk X.prog X.w H s.heap a (.frz ob (.lst xs)) from I.hok a _ ea)
    exact PySem.W.kia_one PySem.W.kitx_list I.kIn ⟨_, h1, rfl⟩ e (fun z => nomatch z) h
  | @tup a xs ea =>
    cases (show u = Value.ref a from rx)
    obtain ⟨_, _, _, p⟩ := (show ObjOk X.prog X.w H s.heap a (.tup xs) from I.hok a _ ea)
    obtain ⟨o, h1, h2, _⟩ := p
    exact PySem.W.kia_one PySem.W.kitx_tuple I.kIn ⟨o, h1, h2⟩ e (fun z => nomatch z) h
  | @dK a kvs ea =>
    cases (show u = Value.ref a from rx)
    obtain ⟨_, _, vs, _, p⟩ := (show ObjOk X.prog X.w H s.heap a (.dK kvs) from I.hok a _ ea)
    obtain ⟨o, es, ep, h1, h2, _⟩ := p
    exact PySem.W.kia_one PySem.W.kitx_dict I.kIn ⟨o, h1, h2.1⟩ e (fun z => nomatch z) h
  | @dT a kvs ea =>
    cases (show u = Value.ref a from rx)
    obtain ⟨_, _, xs, _, o, es, ep, h1, h2, _⟩ := (show ObjOk X.prog X.w H s.heap a (.dT kvs) from I.hok a _ ea)
    exact PySem.W.kia_one PySem.W.kitx_dict I.kIn ⟨o, h1, h2.1⟩ e (fun z => nomatch z) h
  | @ins a C dx fs ea cl ha hn htk hm =>
    cases (show u = Value.ref a from rx)
    obtain ⟨mA, O, _⟩ := ins_get I.hok ea
    obtain ⟨od, J, _⟩ := O.look
    exact PySem.W.kia_one (PySem.W.kitx_own (cl.get _) cl.hd ha hn htk hm) I.kIn J e (fun z => nomatch z) h
end
end L2
namespace L2
open PySem PySem.Spec PyProof.Rows
structure Room (k : Nat) (A : Around) : Prop where
  hd : A.handled = none
  dp : A.depth + 3 * k + 5 < recursionLimit
  un : A.units + 16 * k + 200 < cLine
theorem Room.mono {j k : Nat} {A : Around} (r : Room k A) (h : j ≤ k) : Room j A := ⟨r.hd, by have := r.dp; omega, by have := r.un; omega⟩
theorem Room.deeper {k : Nat} {A : Around} (r : Room (k + 1) A) (env : Env) : Room k (A.deeper env) :=
  ⟨r.hd, by have := r.dp; show A.depth + 1 + 3 * k + 5 < _; omega, by have := r.un; show A.units + 3 + 16 * k + 200 < _; omega⟩
theorem Room.in1 {k : Nat} {A : Around} (r : Room (k + 1) A) : Room k A.in1 :=
  ⟨r.hd, by have := r.dp; show A.depth + 3 * k + 5 < _; omega, by have := r.un; show A.units + 1 + 16 * k + 200 < _; omega⟩
theorem Room.depth {k : Nat} {A : Around} (r : Room k A) : A.depth < recursionLimit := by have := r.dp; omega
theorem Room.units {k : Nat} {A : Around} (r : Room k A) : A.units + 64 < cLine := by have := r.un; omega
def tNil : TA := fun _ H Q => Q [] H
def tCons (ta : TE) (tr : TA) : TA := fun σ H Q => ta σ H fun x H1 => tr σ H1 fun xs H2 => Q (x :: xs) H2
section
variable {X : Cx} {e : Expr} {es : List Expr} {te : TE} {t : TA} {pos : Pos}
theorem pa_nil : PA X [] tNil := fun _ _ _ _ H Q I h => Calls.spliced_nil ⟨[], H, I, .nil, h⟩
theorem pa_cons (ha : PE X e te) (hr : PA X es t) (hs : starEach (e :: es) X.env = (false, eval e X.env) :: starEach es X.env := by rfl) : PA X (e :: es) (tCons te t) := by
  intro pos pins s σ H Q I h
  rw [hs]
  show wpAny _ _ (spliced ((false, eval e X.env) :: backTo pos (starEach es X.env))) _ _ s
  refine Calls.spliced_cons (thn (ha pins s σ H _ I h) fun u s1 ⟨x, H1, I1, r1, q1⟩ => ?_)
  exact thn (hr pos pins s1 σ H1 _ I1 q1) fun us s2 ⟨xs, H2, I2, r2, q2⟩ => ⟨x :: xs, H2, I2, .cons r1 r2, q2⟩
def tTup (t : TA) : TE := fun σ H Q => t σ H fun xs H1 => xs.length ≤ sizeLine ∧ ∀ p, H1 p = none → Q (.ref p) (upd H1 p (.tup xs))
def tLst (t : TA) : TE := fun σ H Q => t σ H fun xs H1 => xs.length ≤ sizeLine ∧ ∀ p, H1 p = none → Q (.ref p) (upd H1 p (.lst xs))
theorem pe_tup {x1} (h : PA X es t) : PE X (.Tuple es x1 pos) (tTup t) := by
  intro pins s σ H Q I hq
  refine wpAny_Tuple_spliced (thn (h pos pins s σ H _ I hq) fun us s1 ⟨xs, H1, I1, r, z, q⟩ => ⟨by rw [← r.length]; exact z, ?_⟩)
  have hf : H1 s1.heap.objs.size = none := I1.hok.fresh (Nat.le_refl _)
  refine ⟨.ref s1.heap.objs.size, upd H1 s1.heap.objs.size (.tup xs), I1.laid (t' := s1.toks) (fun b u e => Heap.get?_push_of_some _ e) (Nat.le_refl _) ?_, rfl, q _ hf⟩
  exact ⟨z, us, r, ⟨_, Heap.get?_push_size _ rfl, rfl, _, rfl⟩⟩
theorem pe_lst (h : PA X es t) : PE X (.List es pos) (tLst t) := by
  intro pins s σ H Q I hq
  refine wpAny_List_spliced (thn (h pos pins s σ H _ I hq) fun us s1 ⟨xs, H1, I1, r, z, q⟩ => ⟨by rw [← r.length]; exact z, ?_⟩)
  have hf : H1 s1.heap.objs.size = none := I1.hok.fresh (Nat.le_refl _)
  refine ⟨.ref s1.heap.objs.size, upd H1 s1.heap.objs.size (.lst xs), I1.laid (t' := s1.toks) (fun b u e => Heap.get?_push_of_some _ e) (Nat.le_refl _) ?_, rfl, q _ hf⟩
  exact ⟨z, us, 0, r, Heap.get?_push_size _ rfl⟩
end
abbrev Sp := List V → Hp → VK → XK → Prop
abbrev CXT := List Env → Hp → Shared → XK → Value → Shared → Prop
structure Env0 (P : Program) (w : World) (K : PySem.W.Frag) (mg : Str → Option Value) (base : Heap) (A : Around) (outer : List Env) (s : Shared) (H : Hp) : Prop where
  frames : A.frames = some outer
  mod : Mod K mg base
  bs : ∀ b o, base.get? b = some o → s.heap.get? b = some o ∧ H b = none
  bsz : base.objs.size ≤ s.heap.objs.size
  funs : s.heap.FunFrames base outer
  frf : ∀ b ∈ frs outer, H b = none
  hok : HOk P w H s.heap
  bare : AllBare s.gens
def CE (outer : List Env) (P : Program) (w : World) (H : Hp) (s : Shared) (Q : VK) (u : Value) (s' : Shared) : Prop :=
  ∃ v H', s'.os = s.os ∧ AllBare s'.gens ∧ Un (frs outer) [] H H' s.heap s'.heap ∧ HOk P w H' s'.heap ∧ RelV v u ∧ Q v H'
def CR (CX : CXT) (outer : List Env) (P : Program) (w : World) (H : Hp) (s : Shared) (Q : VK) (E : XK) (r : Result) (s' : Shared) : Prop :=
  match r with
  | .ok (.ret u) => CE outer P w H s Q u s'
  | .ok _ => False
  | .error e => CX outer H s E e s'
structure FnOk (P : Program) (w : World) (K : PySem.W.Frag) (mg : Str → Option Value) (base : Heap) (CX : CXT) (k : Nat) (f : Addr) (fd : FuncData) (ps : List Str) (sp : Sp) : Prop where
  len : ∀ vs H Q E, sp vs H Q E → vs.length = ps.length
  run : ∀ (A : Around) (outer : List Env) (s : Shared) (H : Hp) (args : Args) (us : List Value) (vs : List V) (Q : VK) (E : XK), Room k A → Env0 P w K mg base A outer s H → BindsTo s fd args (ps.zip us) → Vals vs us → sp vs H Q E →
    codeAny (model P w) A (.call (.ref f) args) (CR CX outer P w H s Q E) s
theorem FnOk.mono {P : Program} {w : World} {K : PySem.W.Frag} {mg : Str → Option Value} {base : Heap} {CX : CXT} {j k : Nat} {f : Addr} {fd : FuncData} {ps : List Str} {sp : Sp} (F : FnOk P w K mg base CX j f fd ps sp) (h : j ≤ k) :
    FnOk P w K mg base CX k f fd ps sp := ⟨F.len, fun A outer s H args us vs Q E hr => F.run A outer s H args us vs Q E (hr.mono h)⟩
theorem FnOk.imp {P : Program} {w : World} {K : PySem.W.Frag} {mg : Str → Option Value} {base : Heap} {CX : CXT} {k : Nat} {f : Addr} {fd : FuncData} {ps : List Str} {sp sp' : Sp} (F : FnOk P w K mg base CX k f fd ps sp)
    (h : ∀ vs H Q E, sp' vs H Q E → sp vs H Q E) : FnOk P w K mg base CX k f fd ps sp' :=
  ⟨fun vs H Q E q => F.len vs H Q E (h _ _ _ _ q), fun A outer s H args us vs Q E hr he hb hv hs => F.run A outer s H args us vs Q E hr he hb hv (h _ _ _ _ hs)⟩
theorem Env0.in1 {P : Program} {w : World} {K : PySem.W.Frag} {mg : Str → Option Value} {base : Heap} {A : Around} {outer : List Env} {s : Shared} {H : Hp} (e : Env0 P w K mg base A outer s H) :
    Env0 P w K mg base A.in1 outer s H := ⟨e.frames, e.mod, e.bs, e.bsz, e.funs, e.frf, e.hok, e.bare⟩
section
variable {X : Cx} {pins : List (Addr × Obj)} {σ : St} {H : Hp} {s s' : Shared}
theorem Inv.env0 (I : Inv X pins σ H s) : Env0 X.prog X.w X.K X.mg X.base X.A X.stack s H :=
  ⟨I.ok.frames, I.ok.mod, I.bs, Nat.le_trans I.ok.bsz I.sz, I.stack, I.stkFree, I.hok, I.bare⟩
theorem Inv.after {Q : VK} {u : Value} (I : Inv X pins σ H s) (h : CE X.stack X.prog X.w H s Q u s') : EP X pins σ Q u s' := by
  obtain ⟨v, H', os, bare, un, hok, r, q⟩ := h
  obtain ⟨hh, g, d, t, os'⟩ := s'
  obtain rfl : os' = s.os := os
  exact ⟨v, H', I.call (h' := hh) (g' := g) (d' := d) (t' := t) (ch := []) un hok bare (fun b z => absurd z (by simp)), r, q⟩
end
def tCall (sp : Sp) (dvs : List V) (E : XK) (t : TA) : TE := fun σ H Q => t σ H fun vs H1 => sp (vs ++ dvs) H1 Q E
def Binds (K : PySem.W.Frag) (fd : FuncData) (ps : List Str) (ds : List Value) : Prop :=
  ∀ (s : Shared) (us : List Value), K.In s.heap → (us ++ ds).length = ps.length → BindsTo s fd ⟨us, []⟩ (ps.zip (us ++ ds))
theorem Binds.all {K : PySem.W.Frag} {fd : FuncData} {ps : List Str} (h : ∀ us : List Value, us.length = ps.length → bindArgs fd ⟨us, []⟩ = pure (ps.zip us)) : Binds K fd ps [] := fun s us _ hl => by
  rw [List.append_nil] at hl ⊢
  exact .of_eq (h us hl)
def Passes (CX : CXT) (X : Cx) (E : XK) : Prop := ∀ (pins : List (Addr × Obj)) (σ : St) (H : Hp) (s : Shared) (e : Value) (s' : Shared), Inv X pins σ H s → CX X.stack H s E e s' → X.xe e s'
section
variable {X : Cx} {CX : CXT} {k : Nat} {f C : Addr} {fd : FuncData} {ps : List Str} {sp : Sp} {dvs : List V} {ds : List Value} {E : XK} {x m : Str} {p pos apos : Pos} {e o : Expr} {es : List Expr} {ta : TE} {t : TA}
theorem run_fn {pins : List (Addr × Obj)} {σ : St} {H : Hp} {s : Shared} {Q : VK} {us : List Value} {vs : List V} (F : FnOk X.prog X.w X.K X.mg X.base CX k f fd ps sp) (hr : Room k X.A) (hb : Binds X.K fd ps ds) (hd : Vals dvs ds) (hx : Passes CX X E)
    (I : Inv X pins σ H s) (r : Vals vs us) (h : sp (vs ++ dvs) H Q E) : wpAny (model X.prog X.w) X.A (call (.ref f) us) (EP X pins σ Q) X.xe s := by
  have r2 : Vals (vs ++ dvs) (us ++ ds) := r.append hd
  have hl : (us ++ ds).length = ps.length := by rw [← r2.length]; exact F.len _ _ _ _ h
  refine wpAny_call (codeAny_mono (F.run X.A X.stack s H ⟨us, []⟩ (us ++ ds) (vs ++ dvs) Q E hr I.env0 (hb s us I.kIn hl) r2 h) fun r s' hq => ?_)
  cases r with
  | error e => exact hx pins σ H s e s' I hq
  | ok fl =>
    cases fl with
    | ret u => exact I.after hq
    | next => exact False.elim hq
    | brk => exact False.elim hq
    | cont => exact False.elim hq
theorem pe_call (F : FnOk X.prog X.w X.K X.mg X.base CX k f fd ps sp) (hr : Room k X.A) (hg : Gl X x) (hm : X.mg x = some (.ref f)) (hk : PySem.W.keepIn X.K (.ref f) = true) (hb : Binds X.K fd ps ds) (hd : Vals dvs ds) (hx : Passes CX X E)
    (ha : PA X (e :: es) t) (hdb : (x == ("__debug__" : Str)) = false := by decide) (he : starEach (e :: es) X.env = (false, eval e X.env) :: starEach es X.env := by rfl) (hpl : (backTo pos (starEach es X.env)).any (·.1) = false := by rfl) :
    PE X (.Call (.Name x p) (e :: es) [] pos) (tCall sp dvs E t) := by
  intro pins s σ H Q I h
  refine wpAny_Call_Name_kw (ld_glob I hg hm ?_ hdb)
  refine PySem.W.callWith_K (h₀ := X.base) I.ok.mod.kin hk (thn (ha pos pins s σ H _ I h) fun us s1 ⟨vs, H1, I1, r, q⟩ => ⟨I1.kIn, ?_⟩) he hpl
  exact run_fn F hr hb hd hx I1 r q
end
section
variable {X : Cx} {CX : CXT} {k : Nat} {f C : Addr} {fd : FuncData} {ps ks : List Str} {sp : Sp} {E : XK} {x m : Str} {p pos apos kpos : Pos} {e o : Expr} {es : List Expr} {kws : List Keyword} {te ta : TE} {t tk : TA} {nm : Option Str}
variable {g : List Value → List Value → List Value} {gV : List V → List V → List V}
end
structure FnScope (N P : List Str) (sc : Scope) : Prop where
  kind : sc.kind = .function
  co : sc.isCoroutine = false
  gen : sc.isGenerator = false
  nd : N.Nodup
  pre : N.take P.length = P
  par : ∀ x ∈ P, sc.names.lookup x = some .local ∨ sc.names.lookup x = some .cell
  nofree : ∀ y ∈ sc.names, y.2 ≠ .free
theorem bindL_out {kindOf : Str → Option NameKind} {x : Str} : ∀ {binds : List (Str × Value)} {m : Str → Option Value}, (∀ v, (x, v) ∉ binds) → bindL kindOf binds m x = m x
  | [], _, _ => rfl
  | (n, v) :: r, m, h => by
    unfold bindL
    rw [bindL_out fun w hw => h w (List.mem_cons_of_mem _ hw)]
    split
    · have : x ≠ n := by rintro rfl; exact h v List.mem_cons_self
      simp [this]
    · rfl
theorem bindC_out {kindOf : Str → Option NameKind} {x : Str} : ∀ {binds : List (Str × Value)} {m : Str → Option Value}, (∀ v, (x, v) ∉ binds) → bindC kindOf binds m x = m x
  | [], _, _ => rfl
  | (n, v) :: r, m, h => by
    unfold bindC
    rw [bindC_out fun w hw => h w (List.mem_cons_of_mem _ hw)]
    split
    · rfl
    · have : x ≠ n := by rintro rfl; exact h v List.mem_cons_self
      simp [this]
theorem bindL_get {kindOf : Str → Option NameKind} {x : Str} {v : Value} : ∀ {P : List Str} {vs : List Value} {i : Nat} {m : Str → Option Value}, P.Nodup → P[i]? = some x → vs[i]? = some v → kindOf x = some .local →
    bindL kindOf (P.zip vs) m x = some v
  | [], _, _, _, _, h, _, _ => by simp at h
  | _ :: _, [], _, _, _, _, h, _ => by simp at h
  | p :: P, w :: vs, 0, m, nd, h1, h2, hk => by
    simp at h1 h2; subst h1; subst h2
    show bindL kindOf ((p, w) :: P.zip vs) m p = _
    unfold bindL
    rw [bindL_out fun v hv => (List.nodup_cons.mp nd).1 (List.of_mem_zip hv).1, if_pos hk]
    simp
  | p :: P, w :: vs, i + 1, m, nd, h1, h2, hk => by
    show bindL kindOf ((p, w) :: P.zip vs) m x = _
    unfold bindL
    exact bindL_get (i := i) (List.nodup_cons.mp nd).2 (by simpa using h1) (by simpa using h2) hk
theorem bindC_get {kindOf : Str → Option NameKind} {x : Str} {v : Value} : ∀ {P : List Str} {vs : List Value} {i : Nat} {m : Str → Option Value}, P.Nodup → P[i]? = some x → vs[i]? = some v → kindOf x ≠ some .local →
    bindC kindOf (P.zip vs) m x = some v
  | [], _, _, _, _, h, _, _ => by simp at h
  | _ :: _, [], _, _, _, _, h, _ => by simp at h
  | p :: P, w :: vs, 0, m, nd, h1, h2, hk => by
    simp at h1 h2; subst h1; subst h2
    show bindC kindOf ((p, w) :: P.zip vs) m p = _
    unfold bindC
    rw [bindC_out fun v hv => (List.nodup_cons.mp nd).1 (List.of_mem_zip hv).1, if_neg hk]
    simp
  | p :: P, w :: vs, i + 1, m, nd, h1, h2, hk => by
    show bindC kindOf ((p, w) :: P.zip vs) m x = _
    unfold bindC
    exact bindC_get (i := i) (List.nodup_cons.mp nd).2 (by simpa using h1) (by simpa using h2) hk
def start (N : List Str) (vs : List V) : St := vs.map some ++ List.replicate (N.length - vs.length) none
def cxOf (CX : CXT) (P : Program) (w : World) (K : PySem.W.Frag) (mg : Str → Option Value) (base : Heap) (N : List Str) (qual : Str) (scope : Scope) (f : Addr) (cd : Value) (A : Around) (outer : List Env) (s : Shared) (H : Hp) (E : XK) : Cx where
  prog := P
  w := w
  K := K
  mg := mg
  base := base
  A := A.deeper (envOfC qual scope s.heap.objs.size f cd)
  N := N
  s₀ := s
  H₀ := H
  env := envOfC qual scope s.heap.objs.size f cd
  outer := outer
  stack := envOfC qual scope s.heap.objs.size f cd :: outer
  ex := []
  calm := true
  fn := fun _ => true
  pn := []
  xe := fun e s' => wpAny (model P w) (A.deeper (envOfC qual scope s.heap.objs.size f cd)) (leaving (envOfC qual scope s.heap.objs.size f cd) e) (fun _ s'' => CX outer H s E e s'') (fun e' s'' => CX outer H s E e' s'') s'
theorem cell_has {sc : Scope} {n : Nat} {x : Str} (h : sc.names.lookup x = some .cell) : ∃ c, (cellsFrom n sc.names []).lookup x = some c := by
  have q := PySem.W.cellsFrom_some sc.names n [] (.inl h)
  exact Option.isSome_iff_exists.mp q
theorem inv_start {CX : CXT} {P : Program} {w : World} {K : PySem.W.Frag} {mg : Str → Option Value} {base : Heap} {N ps : List Str} {qual : Str} {scope : Scope} {f : Addr} {cd : Value} {A : Around} {outer : List Env} {s s1 : Shared} {H : Hp} {E : XK} {us : List Value} {vs : List V}
    (S : FnScope N ps scope) (hd : A.handled = none) (e0 : Env0 P w K mg base A outer s H) (hl : vs.length = ps.length) (r : Vals vs us)
    (x : InCallC s s.heap.objs.size (bindL (envOfC qual scope s.heap.objs.size f cd).kindOf (ps.zip us) fun _ => none) (cellsFrom (s.heap.objs.size + 1) scope.names []) (bindC (envOfC qual scope s.heap.objs.size f cd).kindOf (ps.zip us) fun _ => none) s1) :
    Inv (cxOf CX P w K mg base N qual scope f cd A outer s H E) [] (start N vs) H s1 := by
  have hpl : ps.length ≤ N.length := by have := congrArg List.length S.pre; rw [List.length_take] at this; omega
  obtain ⟨h1, tk, rfl, hk⟩ := x.done
  have noA : ∀ b : Addr, b ∉ (cxOf CX P w K mg base N qual scope f cd A outer s H E).ex := fun b z => absurd (show b ∈ ([] : List Addr) from z) (by simp)
  refine ⟨⟨e0.mod, S.kind, rfl, rfl, Nat.le_refl _, fun y z c h1 h2 => ?_, fun y hy => ?_, fun y c _ h => ?_, fun _ => hd, Around.frames_deeper e0.frames, .inr ⟨rfl, rfl⟩, fun b z => absurd z (noA b), e0.bs, e0.bsz, fun b _ _ => noA b, fun b z => absurd z (noA b), e0.funs, e0.frf⟩,
    rfl, e0.bare, Un.kept hk, ⟨_, x.toInCall.ns, fun i y v h1 h2 h3 => ?_⟩, fun y c h => ⟨_, x.cell y c h⟩, e0.hok.fresh (Nat.le_refl _), fun y c h => ?_, fun p hp => absurd (show p ∈ ([] : List (Addr × Obj)) from hp) (by simp), e0.hok.kept hk, ?_⟩
  · exact name_of_addr x.apart (PySem.mem_of_lookup h1) (PySem.mem_of_lookup h2)
  · have hy : scope.names.lookup y = some .cell ∨ scope.names.lookup y = some .free := hy
    rcases hy with hy | hy
    · exact cell_has hy
    · exact absurd rfl (S.nofree _ (PySem.mem_of_lookup hy))
  · exact Nat.le_of_lt (x.above y c (PySem.mem_of_lookup h))
  · have hi : i < vs.length := by
      unfold start at h2
      by_cases hi : i < vs.length
      · exact hi
      · rw [List.getElem?_append_right (by simpa using hi)] at h2
        rw [List.getElem?_replicate] at h2
        split at h2 <;> cases h2
    have ha : vs[i]? = some v := by
      unfold start at h2
      rw [List.getElem?_append_left (by simpa using hi), List.getElem?_map] at h2
      cases e : vs[i]? with
      | none => rw [e] at h2; cases h2
      | some a => rw [e] at h2; cases h2; rfl
    obtain ⟨u, hu, rv⟩ := r.get ha
    have hp : ps[i]? = some y := by
      rw [← S.pre, List.getElem?_take_of_lt (by omega)]; exact h1
    have ndP : ps.Nodup := by rw [← S.pre]; exact S.nd.sublist (List.take_sublist _ _)
    refine ⟨u, rv, ?_⟩
    rcases S.par y (List.mem_of_getElem? hp) with k | k
    · exact .inl ⟨k, bindL_get ndP hp hu k⟩
    · obtain ⟨c, e⟩ := cell_has (n := s.heap.objs.size + 1) k
      refine .inr ⟨.inl k, c, e, ?_⟩
      have q := x.cell y c e
      rw [bindC_get ndP hp hu (by show scope.names.lookup y ≠ _; rw [k]; decide)] at q
      exact q
  · exact e0.hok.fresh (Nat.le_of_lt (x.above y c (PySem.mem_of_lookup h)))
  · unfold start
    show _ = N.length
    rw [List.length_append, List.length_map, List.length_replicate]
    omega
theorem fn_of {CX : CXT} {P : Program} {w : World} {K : PySem.W.Frag} {mg : Str → Option Value} {base : Heap} {k : Nat} {f : Addr} {name qual : Str} {params : Arguments} {body : List Stmt} {scope : Scope} {dV kV doc pm cdv ct oc : Value} {an od : Option Addr}
    {osl : Array (Option Value)} {N ps : List Str} {sp : Sp} (lk : K.lookup f = some ⟨oc, od, .func (PySem.W.fnOf name qual params body scope dV kV doc pm an cdv ct), osl⟩) (hcd : PySem.W.codeIn K cdv qual = true) (S : FnScope N ps scope)
    (len : ∀ vs H Q E, sp vs H Q E → vs.length = ps.length)
    (hbody : ∀ (A : Around) (outer : List Env) (s : Shared) (H : Hp) (vs : List V) (Q : VK) (E : XK), Room k (A.deeper (envOfC qual scope s.heap.objs.size f cdv)) → sp vs H Q E →
      ∃ t, PSs (cxOf CX P w K mg base N qual scope f cdv A outer s H E) body t ∧ t { nx := fun _ H' => Q .non H', rt := Q } (start N vs) H) :
    FnOk P w K mg base CX (k + 1) f (PySem.W.fnOf name qual params body scope dV kV doc pm an cdv ct) ps sp := by
  refine ⟨len, fun A outer s H args us vs Q E hr e0 hb r hsp => ?_⟩
  have hl := len _ _ _ _ hsp
  have KX : K.In s.heap := e0.mod.kin.keeps fun b o e => (e0.bs b o e).1
  have lim : s.heap.NoLimit := e0.mod.nolimit.keeps fun b o e => (e0.bs b o e).1
  have hkind : ∀ y ∈ ps.zip us, scope.names.lookup y.1 = some .local ∨ (scope.names.lookup y.1 = some .cell ∧ ((cellsFrom (s.heap.objs.size + 1) scope.names []).lookup y.1).isSome = true) := fun ⟨n, v⟩ hy => by
    rcases S.par n (List.of_mem_zip hy).1 with q | q
    · exact .inl q
    · exact .inr ⟨q, PySem.W.cellsFrom_some _ _ _ (.inl q)⟩
  refine codeAny_call_function hr.depth (KX _ _ lk) rfl S.co S.gen rfl (PySem.W.codeRec_of KX hcd) (hb _ _ _ _ ?_)
  refine wpAny_newFunctionEnv_cells S.kind hkind fun env he s1 x => ?_
  subst he
  refine ⟨lim.keeps x.toInCall.keep, codeAny_func ?_⟩
  obtain ⟨t, ht, hq⟩ := hbody A outer s H vs Q E (hr.deeper _) hsp
  have I : Inv (cxOf CX P w K mg base N qual scope f cdv A outer s H E) [] (start N vs) H s1 := inv_start S hr.hd e0 hl r x
  refine wpAny_mono (ht [] s1 (start N vs) H _ I hq) (fun fl s' hs => ?_) fun e s' hs => hs
  have fin : ∀ {σ' : St} {H' : Hp} {v : V} {u : Value}, Inv (cxOf CX P w K mg base N qual scope f cdv A outer s H E) [] σ' H' s' → RelV v u → Q v H' → CE outer P w H s Q u s' :=
    fun {σ' H' v u} J rv q => ⟨v, H', J.os, J.bare, J.base, J.hok, rv, q⟩
  cases fl with
  | ret u =>
    obtain ⟨v, σ', H', J, rv, q⟩ := hs
    exact fin J rv q
  | next =>
    obtain ⟨σ', H', J, q⟩ := hs
    exact fin (v := V.non) (u := Value.none) J rfl q
  | brk =>
    obtain ⟨_, _, _, q⟩ := hs
    exact False.elim q
  | cont =>
    obtain ⟨_, _, _, q⟩ := hs
    exact False.elim q
end L2
namespace L2
open PySem PySem.Spec PyProof.Rows
section
variable {X : Cx} {x : Str} {p pos : Pos} {e : Expr} {es : List Expr} {t : TA} {id T : String} {r : List V → Hp → VK → Prop}
def tCB (r : List V → Hp → VK → Prop) (t : TA) : TE := fun σ H Q => t σ H fun vs H1 => r vs H1 Q
theorem pe_callB (hc : CallR X (.builtin id) r) (hg : Gl X x) (hm : X.mg x = none) (hv : bootBuiltins x = some (.builtin id)) (ha : PA X (e :: es) t) (hn : x ≠ "__name__" := by decide) (hdb : (x == ("__debug__" : Str)) = false := by decide)
    (he : starEach (e :: es) X.env = (false, eval e X.env) :: starEach es X.env := by rfl) (hpl : (backTo pos (starEach es X.env)).any (·.1) = false := by rfl) : PE X (.Call (.Name x p) (e :: es) [] pos) (tCB r t) := by
  intro pins s σ H Q I h
  refine wpAny_Call_Name_kw (ld_blt I hg hm hv ?_ hn hdb)
  exact PyProof.Rows.callWith_builtin1 (thn (ha pos pins s σ H _ I h) fun us s1 ⟨vs, H1, I1, r1, q1⟩ => hc pins s1 σ H1 vs us Q I1 r1 q1) he hpl
theorem pe_callTy (hc : CallR X (.type T) r) (hg : Gl X x) (hm : X.mg x = none) (hv : bootBuiltins x = some (.type T)) (ha : PA X (e :: es) t) (hn : x ≠ "__name__" := by decide) (hdb : (x == ("__debug__" : Str)) = false := by decide)
    (he : starEach (e :: es) X.env = (false, eval e X.env) :: starEach es X.env := by rfl) (hpl : (backTo pos (starEach es X.env)).any (·.1) = false := by rfl) : PE X (.Call (.Name x p) (e :: es) [] pos) (tCB r t) := by
  intro pins s σ H Q I h
  refine wpAny_Call_Name_kw (ld_blt I hg hm hv ?_ hn hdb)
  exact PyProof.Rows.callWith_type1 (thn (ha pos pins s σ H _ I h) fun us s1 ⟨vs, H1, I1, r1, q1⟩ => hc pins s1 σ H1 vs us Q I1 r1 q1) he hpl
end
end L2
namespace HT
open PySem PyProof.Rows
section
open PySem.SeqAt
open PySem.AutoSeq1 (wpAny_loadPart')
open PySem.MeetsSeq PySem.MeetsSeq2 PySem.MeetsSeq3
end
section
variable {prog : Program} {w : World} {A : Around} {E : Value → Shared → Prop} {s : Shared}
theorem cat_tup {t b : Addr} {vs ws : List Value} {Q : Value → Shared → Prop} (ht : IsTup s.heap t vs.toArray) (hb : IsTup s.heap b ws.toArray) (hv : vs ≠ [])
    (h1 : ws = [] → Q (.ref t) s) (h2 : ws ≠ [] → Q (.ref s.heap.objs.size) { s with heap := s.heap.push { cls := .type "tuple", data := .seq (vs ++ ws).toArray } })
    (hsz : vs.length + ws.length ≤ sizeLine) : wpAny (model prog w) A (binaryOp .Add (.ref t) (.ref b)) Q E s := by
  obtain ⟨⟨cls, dd, data, sl⟩, ho, hc, n, hd⟩ := id ht
  obtain ⟨⟨cls2, dd2, data2, sl2⟩, ho2, hc2, n2, hd2⟩ := id hb
  simp only at hc hd hc2 hd2
  subst hc hd hc2 hd2
  have e : vs.toArray ++ ws.toArray = (vs ++ ws).toArray := by simp
  by_cases hw : ws = []
  · exact concat_meets ⟨_, ho, rfl⟩ ⟨_, ho2, rfl⟩ noFill_tuple_add seq_tuple_add PySem.F.slot_tuple_add PySem.F.entry_tuple_add (PySem.F.args_tuple_add_2 _ _)
      (tuple_addW1 t b vs.toArray ws.toArray n n2 dd dd2 sl sl2 (by simpa using hv) (by simp [hw])) ⟨ho, ho2, h1 hw⟩
  · refine concat_meets ⟨_, ho, rfl⟩ ⟨_, ho2, rfl⟩ noFill_tuple_add seq_tuple_add PySem.F.slot_tuple_add PySem.F.entry_tuple_add (PySem.F.args_tuple_add_2 _ _)
      (tuple_addW2 t b vs.toArray ws.toArray n n2 dd dd2 sl sl2 (by simpa using hv) (by simpa using hw) (by rw [List.size_toArray, List.size_toArray]; exact hsz)) ⟨ho, ho2, ?_⟩
    rw [e]
    exact h2 hw
def sIx (n d : Nat) : Option Int → Nat
  | none => d
  | some v => if v < 0 then (v + (n : Int)).toNat else min v.toNat n
theorem sIx_none (n d : Nat) : sIx n d none = d := rfl
theorem sIx_nat (n d k : Nat) : sIx n d (some (k : Int)) = min k n := by
  show (if (k : Int) < 0 then ((k : Int) + (n : Int)).toNat else min (k : Int).toNat n) = min k n
  rw [if_neg (by omega), Int.toNat_natCast]
theorem sIx_le (n d : Nat) (hd : d ≤ n) (o : Option Int) : sIx n d o ≤ n := by
  cases o with
  | none => exact hd
  | some v =>
    show (if v < 0 then (v + (n : Int)).toNat else min v.toNat n) ≤ n
    by_cases hv : v < 0
    · rw [if_pos hv]; omega
    · rw [if_neg hv]; exact Nat.min_le_right _ _
theorem clip_eq (v : Int) (n d : Nat) : (if v < 0 then max (v + (n : Int)) 0 else min v (n : Int)) = ((sIx n d (some v) : Nat) : Int) := by
  show (if v < 0 then max (v + (n : Int)) 0 else min v (n : Int)) = (((if v < 0 then (v + (n : Int)).toNat else min v.toNat n) : Nat) : Int)
  by_cases hv : v < 0
  · simp only [if_pos hv]; omega
  · simp only [if_neg hv]; omega
theorem adjust_gen (lo hi : Option Int) (n : Nat) : Builtin.Slice.sliceAdjust lo hi 1 (n : Int) = (((sIx n 0 lo : Nat) : Int), ((sIx n n hi : Nat) : Int)) := by
  have h1 : ¬ ((1 : Int) < 0) := by omega
  unfold Builtin.Slice.sliceAdjust
  simp only [h1, if_false]
  refine Prod.ext ?_ ?_
  · cases lo with
    | none => rfl
    | some v => exact clip_eq v n 0
  · cases hi with
    | none => rfl
    | some v => exact clip_eq v n n
theorem places_gen (i j : Nat) : Builtin.Slice.slicePlaces (i : Int) (j : Int) 1 = j - i := by
  unfold Builtin.Slice.slicePlaces
  have h1 : (1 : Int) > 0 := by omega
  simp only [h1, if_true, Int.ediv_one]
  split <;> omega
theorem slicePart_ {v : Value} {o : Option Int} {Q : Option Int → Shared → Prop} (p : IsPart v o) (h : Q o s) : wpAny (model prog w) A (Builtin.Slice.slicePartIndex v) Q E s := by
  cases p with
  | none => exact slicePart_none h
  | int i t => exact slicePart_int h
theorem sliceApplied_gen {sl : Addr} {vl vu : Value} {lo hi : Option Int} {n : Nat} {Q : Int × Int × Nat → Shared → Prop} (hs : s.heap.IsSliceOf sl vl vu .none) (pl : IsPart vl lo) (pu : IsPart vu hi)
    (h : Q (((sIx n 0 lo : Nat) : Int), 1, sIx n n hi - sIx n 0 lo) s) : wpAny (model prog w) A (Builtin.Slice.sliceApplied (.ref sl) (pure (n : Int))) Q E s := by
  obtain ⟨os, hos, hcs, hds⟩ := id hs
  unfold Builtin.Slice.sliceApplied Builtin.Slice.sliceFields
  refine wpAny_bind (wpAny_bind (wpAny_field hos hds (x := vl) rfl (wpAny_bind (wpAny_field hos hds (x := vu) rfl (wpAny_bind (wpAny_field hos hds (x := .none) rfl (wpAny_pure ?_)))))))
  refine wpAny_bind (slicePart_none ?_)
  show wpAny _ _ (if ((1 : Int) == 0) = true then _ else _) _ _ s
  rw [if_neg (by decide)]
  refine wpAny_bind (slicePart_ pl (wpAny_bind (slicePart_ pu (wpAny_bind (wpAny_pure ?_)))))
  show wpAny _ _ (match Builtin.Slice.sliceAdjust lo hi 1 (n : Int) with | (lo, hi) => pure (lo, (1 : Int), Builtin.Slice.slicePlaces lo hi 1)) _ _ s
  rw [adjust_gen lo hi n]
  show wpAny _ _ (pure (((sIx n 0 lo : Nat) : Int), (1 : Int), Builtin.Slice.slicePlaces ((sIx n 0 lo : Nat) : Int) ((sIx n n hi : Nat) : Int) 1)) _ _ s
  rw [places_gen]
  exact wpAny_pure h
theorem pick_gen (xs : Array Value) (i k : Nat) : ((List.range k).filterMap fun (m : Nat) => xs[((i : Int) + (m : Int) * 1).toNat]?).toArray = ((xs.toList.drop i).take k).toArray := by
  have e : (fun (m : Nat) => xs[((i : Int) + (m : Int) * 1).toNat]?) = fun m => xs[i + m]? := by
    funext m
    have : ((i : Int) + (m : Int) * 1).toNat = i + m := by omega
    rw [this]
  rw [e]
  have := pick_run xs i k
  rw [List.filterMap_map] at this
  have e2 : ((fun x => xs[x]?) ∘ fun x => i + x) = fun m => xs[i + m]? := rfl
  rw [e2] at this
  rw [this]
theorem getItem_tuple_cut {t sl : Addr} {items : Array Value} {vl vu : Value} {lo hi : Option Int} {Q : Value → Shared → Prop} (ht : IsTup s.heap t items) (hs : s.heap.IsSliceOf sl vl vu .none) (pl : IsPart vl lo) (pu : IsPart vu hi)
    (hw : ¬ (sIx items.size 0 lo = 0 ∧ sIx items.size items.size hi = items.size))
    (h : Q (.ref s.heap.objs.size) { s with heap := s.heap.push { cls := .type "tuple", data := .seq ((items.toList.drop (sIx items.size 0 lo)).take (sIx items.size items.size hi - sIx items.size 0 lo)).toArray } })
    (hsz : items.size ≤ sizeLine) : wpAny (model prog w) A (getItem (.ref t) (.ref sl)) Q E s := by
  have htake : sizeOk (.seq ((items.toList.drop (sIx items.size 0 lo)).take (sIx items.size items.size hi - sIx items.size 0 lo)).toArray) := by
    show ((items.toList.drop (sIx items.size 0 lo)).take (sIx items.size items.size hi - sIx items.size 0 lo)).toArray.size ≤ sizeLine
    rw [List.size_toArray, List.length_take, List.length_drop, Array.length_toList]
    omega
  have hj : sIx items.size items.size hi ≤ items.size := sIx_le _ _ (Nat.le_refl _) hi
  obtain ⟨os, hos, hcs, hds⟩ := id hs
  have hTs : s.TypeIs (.ref sl) "slice" := ⟨os, hos, hcs⟩
  unfold getItem
  try with_reducible refine wpAny_holding ?_
  first | refine wpAny_bind (wpAny_pure ?_) | skip
  refine wpAny_bind (wpAny_sequenceKey ht.typeIs (by decide) ?_)
  refine wpAny_bind (wpAny_callSpecial?_slot (name := Str.ofString "__getitem__") ht.typeIs PyProof.Rows.slot_tuple_getitem
    (wpAny_call_entry PyProof.Rows.slot_tuple_getitem ht.typeIs entry_tuple_getitem ?_ (args_tuple_getitem _ _)))
  show wpAny _ _ (Builtin.Tuple.tupleItemsOf (.ref t) >>= _) _ _ s
  refine wpAny_bind (tupleItemsOf_ ht ?_)
  refine wpAny_bind (wpAny_typeOf hTs ?_)
  rw [if_pos (by decide)]
  refine wpAny_bind (sliceApplied_gen hs pl pu ?_)
  have hno : ¬ ((((sIx items.size 0 lo : Nat) : Int) == 0 && (1 : Int) == 1 && (sIx items.size items.size hi - sIx items.size 0 lo) == items.size) = true) := by
    intro q
    rw [Bool.and_eq_true, Bool.and_eq_true] at q
    have q1 : ((sIx items.size 0 lo : Nat) : Int) = 0 := eq_of_beq q.1.1
    have q2 : sIx items.size items.size hi - sIx items.size 0 lo = items.size := eq_of_beq q.2
    exact hw ⟨by omega, by omega⟩
  show wpAny _ _ (if (((sIx items.size 0 lo : Nat) : Int) == 0 && (1 : Int) == 1 && (sIx items.size items.size hi - sIx items.size 0 lo) == items.size) = true then _ else _) _ _ s
  rw [if_neg hno, pick_gen]
  first
    | exact wpAny_bind (m := Builtin.Tuple.tupleExact _) (wpAny_newObj_type (wpAny_pure ⟨_, rfl, wpAny_pure h⟩) htake)
    | exact wpAny_bind (m := Builtin.Tuple.tupleExact _) (wpAny_newObj_type (wpAny_bind (wpAny_pure (wpAny_pure ⟨_, rfl, wpAny_pure h⟩))) htake)
    | exact wpAny_bind (wpAny_bind (m := Builtin.Tuple.tupleExact _) (wpAny_newObj_type (wpAny_pure (wpAny_pure ⟨_, rfl, wpAny_pure h⟩)) htake))
    | exact wpAny_bind (wpAny_bind (m := Builtin.Tuple.tupleExact _) (wpAny_newObj_type (wpAny_pure ⟨_, rfl, wpAny_pure h⟩) htake))
end
end HT
namespace L2
open PySem PySem.Spec PyProof.Rows
abbrev TO := St → Hp → (Option Int → Hp → Prop) → Prop
def PO (X : Cx) (e : Option Expr) (t : TO) : Prop :=
  ∀ (pins : List (Addr × Obj)) (s : Shared) (σ : St) (H : Hp) (Q : Option Int → Hp → Prop), Inv X pins σ H s → t σ H Q →
    wpAny (model X.prog X.w) X.A (evalPart e X.env) (fun u s' => ∃ o H', Inv X pins σ H' s' ∧ IsPart u o ∧ Q o H') X.xe s
def tNoPart : TO := fun _ H Q => Q none H
def tPart (t : TE) : TO := fun σ H Q => t σ H fun x H1 => ∃ i, x = .int i ∧ Q (some i) H1
theorem intsAre_of {ns : List Int} : ∀ {us : List Value}, Vals (ns.map V.int) us → IntsAre us ns := by
  induction ns with
  | nil => intro us r; rw [List.map_nil] at r; cases r; exact .nil
  | cons n ns ih =>
    intro us r
    rw [List.map_cons] at r
    cases r with
    | cons r1 r2 =>
      obtain ⟨t, e⟩ := r1
      subst e
      exact .cons n t (ih r2)
section
variable {X : Cx} {e : Expr} {te : TE} {lo hi : Option Expr} {tl th : TO} {pos p2 : Pos}
theorem po_none : PO X none tNoPart := by
  intro pins s σ H Q I h
  rw [evalPart_none]
  exact wpAny_pure ⟨none, H, I, .none, h⟩
theorem po_some (h : PE X e te) : PO X (some e) (tPart te) := by
  intro pins s σ H Q I hw
  rw [evalPart_some]
  refine thn (h pins s σ H _ I hw) fun u s1 ⟨x, H1, I1, r1, q1⟩ => ?_
  obtain ⟨i, rfl, q⟩ := q1
  obtain ⟨t, rfl⟩ := r1
  exact ⟨some i, H1, I1, .int i t, q⟩
def SlR (X : Cx) (r : V → Option Int → Option Int → Hp → VK → Prop) : Prop :=
  ∀ (pins : List (Addr × Obj)) (s : Shared) (σ : St) (H : Hp) (x : V) (v vl vu : Value) (lo hi : Option Int) (sl : Addr) (Q : VK), Inv X pins σ H s → RelV x v → s.heap.IsSliceOf sl vl vu .none → IsPart vl lo → IsPart vu hi → r x lo hi H Q →
    ∃ T id, typeLookup (.type T) "__getitem__" = pure (some (.builtin id)) ∧ s.TypeIs v T ∧ wpAny (model X.prog X.w) X.A (getItem v (.ref sl)) (EP X pins σ Q) X.xe s
theorem SlR.or {r r' : V → Option Int → Option Int → Hp → VK → Prop} (h : SlR X r) (h' : SlR X r') : SlR X (fun x lo hi H Q => r x lo hi H Q ∨ r' x lo hi H Q) := by
  intro pins s σ H x v vl vu lo hi sl Q I rx hs pl pu q
  rcases q with q | q
  · exact h pins s σ H x v vl vu lo hi sl Q I rx hs pl pu q
  · exact h' pins s σ H x v vl vu lo hi sl Q I rx hs pl pu q
def tSl (r : V → Option Int → Option Int → Hp → VK → Prop) (te : TE) (tl th : TO) : TE := fun σ H Q => te σ H fun x H1 => tl σ H1 fun l H2 => th σ H2 fun u H3 => r x l u H3 Q
theorem pe_slice {r : V → Option Int → Option Int → Hp → VK → Prop} (hr : SlR X r) (he : PE X e te) (hl : PO X lo tl) (hu : PO X hi th) : PE X (.Subscript e (.Slice lo hi none p2) pos) (tSl r te tl th) := by
  intro pins s σ H Q I h
  refine Subscript_ (thn (he pins s σ H _ I h) fun v s1 ⟨x, H1, I1, r1, q1⟩ => ?_)
  refine wpAny_Slice (thn (hl pins s1 σ H1 _ I1 q1) fun vl s2 ⟨l, H2, I2, pl, q2⟩ => thn (hu pins s2 σ H2 _ I2 q2) fun vu s3 ⟨u, H3, I3, pu, q3⟩ => ?_)
  rw [evalPart_none]
  refine wpAny_pure ?_
  have I4 : Inv X pins σ H3 { s3 with heap := s3.heap.push { cls := .type "slice", data := .fields #[vl, vu, .none] } } := I3.kept (t' := s3.toks) fun b ob q => Heap.get?_push_of_some _ q
  obtain ⟨T, id, hT, ht, hg⟩ := hr pins { s3 with heap := s3.heap.push { cls := .type "slice", data := .fields #[vl, vu, .none] } } σ H3 x v vl vu l u s3.heap.objs.size Q I4 r1 (Heap.IsSliceOf.new ..) pl pu q3
  show wpAny (model X.prog X.w) X.A (subscriptTail e (.Slice lo hi none p2) v (.ref s3.heap.objs.size)) (EP X pins σ Q) X.xe { s3 with heap := s3.heap.push { cls := .type "slice", data := .fields #[vl, vu, .none] } }
  exact tail_any (ops := [.ref s3.heap.objs.size, v]) ht hT hg (by with_unfolding_all rfl)
def cutV (xs : List V) (lo hi : Option Int) : List V := (xs.drop (HT.sIx xs.length 0 lo)).take (HT.sIx xs.length xs.length hi - HT.sIx xs.length 0 lo)
theorem cutV_length (xs : List V) (lo hi : Option Int) : (cutV xs lo hi).length ≤ xs.length := by
  unfold cutV
  rw [List.length_take, List.length_drop]
  omega
def rSlT (K : PySem.W.Frag) : V → Option Int → Option Int → Hp → VK → Prop := fun x lo hi H Q => ∃ a xs, x = .ref a ∧ SqT K H a xs ∧
  ¬ (HT.sIx xs.length 0 lo = 0 ∧ HT.sIx xs.length xs.length hi = xs.length) ∧ ∀ p, H p = none → Q (.ref p) (upd H p (.tup (cutV xs lo hi)))
theorem sl_tup : SlR X (rSlT X.K) := by
  intro pins s σ H x v vl vu lo hi sl Q I rx hs pl pu h
  obtain ⟨a, xs, rfl, hx, hw, q⟩ := h
  cases rx
  obtain ⟨its, r, ht, hz⟩ := I.tuple hx
  have hlen : its.toArray.size = xs.length := by rw [List.size_toArray]; exact r.length.symm
  refine ⟨"tuple", _, PyProof.Rows.slot_tuple_getitem.lookup, ht.typeIs, ?_⟩
  refine HT.getItem_tuple_cut ht hs pl pu (by rw [hlen]; exact hw) ?_ (by rw [hlen]; exact hz)
  rw [hlen]
  refine ⟨.ref s.heap.objs.size, _, I.laid (t' := s.toks) (o := .tup (cutV xs lo hi)) (fun b ob q => Heap.get?_push_of_some _ q) (Nat.le_refl _) ?_, rfl, q _ (I.hok.fresh (Nat.le_refl _))⟩
  exact ⟨Nat.le_trans (cutV_length xs lo hi) hz, _, (r.drop (HT.sIx xs.length 0 lo)).take (HT.sIx xs.length xs.length hi - HT.sIx xs.length 0 lo), IsTup.new _ _⟩
def rCatT (K : PySem.W.Frag) : R2 := fun x y H Q => ∃ a b xs ys, x = .ref a ∧ y = .ref b ∧ SqT K H a xs ∧ SqT K H b ys ∧ xs ≠ [] ∧ xs.length + ys.length ≤ sizeLine ∧
  (ys = [] → Q (.ref a) H) ∧ (ys ≠ [] → ∀ p, H p = none → Q (.ref p) (upd H p (.tup (xs ++ ys))))
theorem Vals.nil_iff {xs : List V} {us : List Value} (r : Vals xs us) : us = [] ↔ xs = [] := by
  cases r with
  | nil => simp
  | cons _ _ => simp
theorem op_catT : OpR X (binaryOp .Add) (rCatT X.K) := by
  intro pins s σ H x y v u Q I rx ry h
  obtain ⟨a, b, xs, ys, rfl, rfl, ha, hb, hx, hz, q1, q2⟩ := h
  cases rx
  cases ry
  obtain ⟨its, r1, p1, _⟩ := I.tuple ha
  obtain ⟨its2, r2, p2, _⟩ := I.tuple hb
  refine HT.cat_tup p1 p2 (fun z => hx (r1.nil_iff.mp z)) (fun z => ⟨.ref a, H, I, rfl, q1 (r2.nil_iff.mp z)⟩) (fun z => ?_) (by rw [← r1.length, ← r2.length]; exact hz)
  refine ⟨.ref s.heap.objs.size, _, I.laid (t' := s.toks) (o := .tup (xs ++ ys)) (fun b ob q => Heap.get?_push_of_some _ q) (Nat.le_refl _) ?_, rfl, q2 (fun w => z (r2.nil_iff.mpr w)) _ (I.hok.fresh (Nat.le_refl _))⟩
  exact ⟨by rw [List.length_append]; exact hz, _, r1.append r2, IsTup.new _ _⟩
end
end L2
namespace L2
open PySem PySem.Spec PyProof.Rows
def ixN (n : Nat) (i : Int) : Option Nat := if 0 ≤ i then (if i < n then some i.toNat else none) else if -(n : Int) ≤ i then some (i + n).toNat else none
def atI {α : Type} (xs : List α) (i : Int) : Option α := (ixN xs.length i).bind fun j => xs[j]?
theorem ixN_seq {n : Nat} {i : Int} {j : Nat} (h : ixN n i = some j) : seqIndex? i n = some j ∧ j < n ∧ -(n : Int) ≤ i ∧ i < n := by
  unfold ixN at h
  by_cases h0 : 0 ≤ i
  · rw [if_pos h0] at h
    by_cases h1 : i < n
    · rw [if_pos h1] at h
      have e : i.toNat = j := Option.some.inj h
      exact ⟨by rw [seqIndex_of h0 h1, e], by omega, by omega, h1⟩
    · rw [if_neg h1] at h; cases h
  · rw [if_neg h0] at h
    by_cases h1 : -(n : Int) ≤ i
    · rw [if_pos h1] at h
      have e : (i + n).toNat = j := Option.some.inj h
      exact ⟨by rw [seqIndex_neg (by omega) h1, e], by omega, h1, by omega⟩
    · rw [if_neg h1] at h; cases h
theorem atI_get {α : Type} {xs : List α} {i : Int} {v : α} (h : atI xs i = some v) : ∃ j, seqIndex? i xs.length = some j ∧ xs[j]? = some v ∧ j < xs.length ∧ -(xs.length : Int) ≤ i ∧ i < xs.length := by
  unfold atI at h
  cases e : ixN xs.length i with
  | none => rw [e] at h; cases h
  | some j =>
    rw [e] at h
    obtain ⟨h1, h2, h3, h4⟩ := ixN_seq e
    exact ⟨j, h1, h, h2, h3, h4⟩
def PlainIx (b : Expr) : Prop := ∀ o i, subscripted b false o i = operate [o, i] (getItem o i)
def IxR (X : Cx) (r : R2) : Prop :=
  ∀ (value slice : Expr) (pins : List (Addr × Obj)) (s : Shared) (σ : St) (H : Hp) (x y : V) (v u : Value) (Q : VK), Inv X pins σ H s → RelV x v → RelV y u → r x y H Q →
    subscripted slice false v u = operate [v, u] (getItem v u) → wpAny (model X.prog X.w) X.A (subscriptTail value slice v u) (EP X pins σ Q) X.xe s
def MtR (X : Cx) (id : String) (r : V → List V → Hp → VK → Prop) : Prop :=
  ∀ (pins : List (Addr × Obj)) (s : Shared) (σ : St) (H : Hp) (x : V) (xs : List V) (v : Value) (us : List Value) (Q : VK), Inv X pins σ H s → RelV x v → Vals xs us → r x xs H Q →
    wpAny (model X.prog X.w) X.A (call (.builtin id) (v :: us)) (EP X pins σ Q) X.xe s
section
variable {X : Cx} {a b : Expr} {ta tb : TE} {pos : Pos}
theorem IxR.or {r r' : R2} (h : IxR X r) (h' : IxR X r') : IxR X (fun x y H Q => r x y H Q ∨ r' x y H Q) := by
  intro value slice pins s σ H x y v u Q I rx ry q hs
  rcases q with q | q
  · exact h value slice pins s σ H x y v u Q I rx ry q hs
  · exact h' value slice pins s σ H x y v u Q I rx ry q hs
theorem MtR.or {id : String} {r r' : V → List V → Hp → VK → Prop} (h : MtR X id r) (h' : MtR X id r') : MtR X id (fun x xs H Q => r x xs H Q ∨ r' x xs H Q) := by
  intro pins s σ H x xs v us Q I rx rs q
  rcases q with q | q
  · exact h pins s σ H x xs v us Q I rx rs q
  · exact h' pins s σ H x xs v us Q I rx rs q
theorem pe_ix {r : R2} (hr : IxR X r) (ha : PE X a ta) (hb : PE X b tb) (hs : PlainIx b) : PE X (.Subscript a b pos) (tOp r ta tb) := by
  intro pins s σ H Q I h
  exact Subscript_ (binT ha hb I h fun v u s2 x y H2 I2 rx ry q => hr a b pins s2 σ H2 x y v u Q I2 rx ry q (hs _ _))
def rIxL (K : PySem.W.Frag) : R2 := fun x y H Q => ∃ p xs i v, x = .ref p ∧ y = .int i ∧ SqL K H p xs ∧ atI xs i = some v ∧ Q v H
def rIxT (K : PySem.W.Frag) : R2 := fun x y H Q => ∃ p xs i v, x = .ref p ∧ y = .int i ∧ SqT K H p xs ∧ atI xs i = some v ∧ Q v H
def rIxS : R2 := fun x y H Q => ∃ z i c, x = .str z ∧ y = .int i ∧ z.length ≤ sizeLine ∧ atI z.cps.toList i = some c ∧ Q (.str ⟨#[c]⟩) H
theorem ix_list : IxR X (rIxL X.K) := by
  intro value slice pins s σ H x y v u Q I rx ry h hs
  obtain ⟨p, xs, i, z, rfl, rfl, hq, he, q⟩ := h
  cases rx
  obtain ⟨t, rfl⟩ := ry
  obtain ⟨its, r, pl, hz⟩ := I.list hq
  obtain ⟨j, h1, h2, h3, h4, h5⟩ := atI_get he
  obtain ⟨w, ew, rw'⟩ := r.get h2
  have hl := r.length
  have hn := line63
  have fin : EP X pins σ Q w s := ⟨z, H, I, rw', q⟩
  by_cases h0 : 0 ≤ i
  · have hj : i.toNat = j := by
      rw [seqIndex_of h0 h5] at h1
      exact Option.some.inj h1
    exact item_listR pl.isList h0 (by omega) (by rw [hj]; simpa using ew) fin hs
  · have hj : (i + (its.toArray.size : Int)).toNat = j := by
      rw [seqIndex_neg (by omega) h4] at h1
      rw [List.size_toArray, ← hl]
      exact Option.some.inj h1
    exact subscriptTail_builtinR (x := w) pl.isList.typeIs slot_list_getitem.lookup
      (wpAny_getItem_list_neg (Q := fun r s' => r = w ∧ EP X pins σ Q r s') pl.isList (by omega) (by rw [List.size_toArray] <;> omega) (by omega) (by rw [hj]; simpa using ew) ⟨rfl, fin⟩) hs
theorem ix_tup : IxR X (rIxT X.K) := by
  intro value slice pins s σ H x y v u Q I rx ry h hs
  obtain ⟨p, xs, i, z, rfl, rfl, hq, he, q⟩ := h
  cases rx
  obtain ⟨t, rfl⟩ := ry
  obtain ⟨its, r, pl, hz⟩ := I.tuple hq
  obtain ⟨j, h1, h2, h3, h4, h5⟩ := atI_get he
  obtain ⟨w, ew, rw'⟩ := r.get h2
  have hl := r.length
  have hn := line63
  have fin : EP X pins σ Q w s := ⟨z, H, I, rw', q⟩
  exact subscriptTail_builtinR (x := w) pl.typeIs slot_tuple_getitem.lookup
    (getItem_tuple (j := j) (Q := fun r s' => r = w ∧ EP X pins σ Q r s') pl (by omega) (by omega) (by rw [List.size_toArray, ← hl]; exact h1) (by simpa using ew) ⟨rfl, fin⟩) hs
theorem ix_str : IxR X rIxS := by
  intro value slice pins s σ H x y v u Q I rx ry h hs
  obtain ⟨z, i, c, rfl, rfl, hz, he, q⟩ := h
  obtain ⟨t, rfl⟩ := rx
  obtain ⟨t', rfl⟩ := ry
  obtain ⟨j, h1, h2, h3, h4, h5⟩ := atI_get he
  have hl : z.cps.toList.length = z.length := by simp [Str.length]
  rw [hl] at h1 h4 h5
  have hn := line63
  exact tail_any (typeIs_str s z t) slot_str_getitem.lookup (getItem_str (c := c) (by
    have e1 : decide (i < -(2 ^ 63 : Int)) = false := decide_eq_false (by omega)
    have e2 : decide (i ≥ 2 ^ 63) = false := decide_eq_false (by omega)
    rw [e1, e2, Bool.or_false]) (by rw [h1]; simpa using h2) ⟨.str ⟨#[c]⟩, H, I.tok _, ⟨_, rfl⟩, q⟩) hs
def rIx (K : PySem.W.Frag) : R2 := fun x y H Q => rIxL K x y H Q ∨ rIxT K x y H Q ∨ rIxS x y H Q
theorem ix_seq : IxR X (rIx X.K) := ix_list.or (ix_tup.or ix_str)
theorem Inv.lst {pins : List (Addr × Obj)} {σ : St} {H : Hp} {s : Shared} {p : Addr} {xs : List V} (I : Inv X pins σ H s) (h : H p = some (.lst xs)) :
    ∃ (its : List Value) (n : Nat), Vals xs its ∧ s.heap.get? p = some { cls := .type "list", data := .seq its.toArray n } ∧ xs.length ≤ sizeLine := by
  obtain ⟨z, its, n, r, e⟩ := I.hok p _ h
  exact ⟨its, n, r, e, z⟩
theorem slice_bounds (lo hi : Option Int) (n : Nat) : (sliceBounds lo hi none n).1 = ((HT.sIx n 0 lo : Nat) : Int) ∧ (sliceBounds lo hi none n).2.1 = ((HT.sIx n n hi : Nat) : Int) ∧ (sliceBounds lo hi none n).2.2 = 1 := by
  refine ⟨?_, ?_, rfl⟩
  · cases lo with
    | none => simp [sliceBounds, HT.sIx]
    | some i =>
      simp only [sliceBounds, HT.sIx, Option.getD_none, show (1 : Int) > 0 by decide, if_true]
      by_cases h : i < 0
      · simp only [h, if_true] <;> omega
      · simp only [h, if_false] <;> omega
  · cases hi with
    | none => simp [sliceBounds, HT.sIx]
    | some i =>
      simp only [sliceBounds, HT.sIx, Option.getD_none, show (1 : Int) > 0 by decide, if_true]
      by_cases h : i < 0
      · simp only [h, if_true] <;> omega
      · simp only [h, if_false] <;> omega
theorem slicePick_cut (its : List Value) (lo hi : Option Int) : slicePick its.toArray lo hi none = ((its.drop (HT.sIx its.length 0 lo)).take (HT.sIx its.length its.length hi - HT.sIx its.length 0 lo)).toArray := by
  obtain ⟨h1, h2, h3⟩ := slice_bounds lo hi its.toArray.size
  unfold slicePick
  rw [h1, h2, h3]
  simp only [sliceRange_one, pick_run, List.size_toArray] <;> rfl
def rSlL (K : PySem.W.Frag) : V → Option Int → Option Int → Hp → VK → Prop := fun x lo hi H Q => ∃ a xs, x = .ref a ∧ SqL K H a xs ∧ ∀ p, H p = none → Q (.ref p) (upd H p (.lst (cutV xs lo hi)))
theorem sl_list : SlR X (rSlL X.K) := by
  intro pins s σ H x v vl vu lo hi sl Q I rx hs pl pu h
  obtain ⟨a, xs, rfl, hx, q⟩ := h
  cases rx
  obtain ⟨its, r, ht, hz⟩ := I.list hx
  have hlen := r.length
  refine ⟨"list", _, slot_list_getitem.lookup, ht.isList.typeIs, ?_⟩
  refine wpAny_getItem_list_slice ht.isList hs pl pu .none (by simp) ?_ (by rw [List.size_toArray] <;> omega)
  rw [slicePick_cut, ← hlen]
  refine ⟨.ref s.heap.objs.size, _, I.laid (t' := s.toks) (o := .lst (cutV xs lo hi)) (fun b ob q => Heap.get?_push_of_some _ q) (Nat.le_refl _) ?_, rfl, q _ (I.hok.fresh (Nat.le_refl _))⟩
  exact ⟨Nat.le_trans (cutV_length xs lo hi) hz, _, 0, (r.drop (HT.sIx xs.length 0 lo)).take (HT.sIx xs.length xs.length hi - HT.sIx xs.length 0 lo), Heap.get?_push_size _ rfl⟩
theorem call_len_seq : CallR X (.builtin "len") (fun xs H Q => ∃ p ys, xs = [.ref p] ∧ (SqL X.K H p ys ∨ SqT X.K H p ys) ∧ Q (.int ys.length) H) := by
  intro pins s σ H xs us Q I r h
  obtain ⟨p, ys, rfl, hq, q⟩ := h
  obtain ⟨u, rfl, rx⟩ := vals1 r
  cases rx
  have hn := line63
  rcases hq with hq | hq
  · obtain ⟨its, r', pl, hz⟩ := I.list hq
    have hlen := r'.length
    exact Calls.call_len_list pl.isList (by simp only [List.size_toArray] <;> omega) ⟨.int ys.length, H, I.tok _, ⟨s.toks + 1, by rw [List.size_toArray, hlen]⟩, q⟩
  · obtain ⟨its, r', pl, hz⟩ := I.tuple hq
    have hlen := r'.length
    exact len_tuple pl (by simp only [List.size_toArray] <;> omega) ⟨.int ys.length, H, I.tok _, ⟨s.toks + 1, by rw [List.size_toArray, hlen]⟩, q⟩
theorem CallR.or {f : Value} {r r' : List V → Hp → VK → Prop} (h : CallR X f r) (h' : CallR X f r') : CallR X f (fun xs H Q => r xs H Q ∨ r' xs H Q) := by
  intro pins s σ H xs us Q I rs q
  rcases q with q | q
  · exact h pins s σ H xs us Q I rs q
  · exact h' pins s σ H xs us Q I rs q
theorem call_list_of : CallR X (.type "list") (fun xs H Q => ∃ p ys, xs = [.ref p] ∧ (SqL X.K H p ys ∨ SqT X.K H p ys) ∧ ∀ l, H l = none → Q (.ref l) (upd H l (.lst ys))) := by
  intro pins s σ H xs us Q I r h
  obtain ⟨p, ys, rfl, hq, q⟩ := h
  obtain ⟨u, rfl, rx⟩ := vals1 r
  cases rx
  have fin : ∀ (its : List Value), Vals ys its → ys.length ≤ sizeLine → ∀ (h' : Heap) (c' : Nat), (∀ b o', s.heap.get? b = some o' → h'.get? b = some o') →
      h'.get? s.heap.objs.size = some { cls := .type "list", dict := none, data := .seq its.toArray c', slots := #[] } → EP X pins σ Q (.ref s.heap.objs.size) { s with heap := h' } := fun its r' hz h' c' kp e =>
    ⟨.ref s.heap.objs.size, _, I.laid (t' := s.toks) kp (Nat.le_refl _) (show ObjOk X.prog X.w _ h' _ (.lst ys) from ⟨hz, its, c', r', e⟩), rfl, q _ (I.hok.fresh (Nat.le_refl _))⟩
  rcases hq with hq | hq
  · obtain ⟨its, r', pl, hz⟩ := I.list hq
    have hlen := r'.length
    obtain ⟨o, ho, hc, n, hd⟩ := pl.isList
    exact call_list_seq p (.inl rfl) ho hc hd (fun h' c' kp e => fin its r' hz h' c' kp e) (by simp only [List.size_toArray] <;> omega)
  · obtain ⟨its, r', pl, hz⟩ := I.tuple hq
    have hlen := r'.length
    obtain ⟨o, ho, hc, n, hd⟩ := pl
    exact call_list_seq p (.inr rfl) ho hc hd (fun h' c' kp e => fin its r' hz h' c' kp e) (by simp only [List.size_toArray] <;> omega)
def tyV (K : PySem.W.Frag) (T : String) (x : V) (H : Hp) : Prop := match x with
  | .str _ => T = "str"
  | .int _ => T = "int"
  | .ref p => (T = "list" ∧ ∃ xs, SqL K H p xs) ∨ (T = "tuple" ∧ ∃ o, K.lookup p = some o ∧ o.cls = .type "tuple" ∧ o.dict = none) ∨
      (T = "dict" ∧ ((∃ kvs, H p = some (.dK kvs)) ∨ ∃ kvs, H p = some (.dT kvs))) ∨ (T = "set" ∧ ∃ S n, H p = some (.set S n))
  | _ => False
theorem tyV_is {pins : List (Addr × Obj)} {σ : St} {H : Hp} {s : Shared} {T : String} {x : V} {v : Value} (I : Inv X pins σ H s) (r : RelV x v) (ty : tyV X.K T x H) :
    s.TypeIs v T ∧ ∀ a, v = .ref a → ∃ ob, s.heap.get? a = some ob ∧ ob.dict = none := by
  cases x with
  | str z =>
    obtain ⟨t, rfl⟩ := r
    cases (show T = "str" from ty)
    exact ⟨typeIs_str s z t, fun _ e => nomatch e⟩
  | int i =>
    obtain ⟨t, rfl⟩ := r
    cases (show T = "int" from ty)
    exact ⟨typeIs_int s i t, fun _ e => nomatch e⟩
  | ref p =>
    cases r
    rcases ty with ⟨rfl, xs, hq⟩ | ⟨rfl, o, hk, hc, hd⟩ | ⟨rfl, hk⟩ | ⟨rfl, S, n, hk⟩
    · obtain ⟨its, _, pl, _⟩ := I.list hq
      refine ⟨pl.isList.typeIs, fun a e => ?_⟩
      cases e
      obtain ⟨o, n, e, c, hd, _⟩ := pl
      exact ⟨o, e, hd⟩
    · refine ⟨⟨o, I.kIn p o hk, hc⟩, fun a e => ?_⟩
      cases e
      exact ⟨o, I.kIn _ o hk, hd⟩
    · have z : ∃ o, s.heap.get? p = some o ∧ o.ExactDict := by
        rcases hk with ⟨kvs, hk⟩ | ⟨kvs, hk⟩
        · obtain ⟨_, _, _, _, o, _, _, e, ex, _⟩ := I.hok p _ hk
          exact ⟨o, e, ex⟩
        · obtain ⟨_, _, _, _, o, _, _, e, ex, _⟩ := I.hok p _ hk
          exact ⟨o, e, ex⟩
      obtain ⟨o, e, ex⟩ := z
      refine ⟨⟨o, e, ex.1⟩, fun a e2 => ?_⟩
      cases e2
      exact ⟨o, e, ex.2.1⟩
    · obtain ⟨o, _, _, _, e, ex, _⟩ := I.hok p _ hk
      refine ⟨⟨o, e, ex.1⟩, fun a e2 => ?_⟩
      cases e2
      exact ⟨o, e, ex.2.1⟩
  | _ => exact False.elim ty
def tBM0 (K : PySem.W.Frag) (T : String) (r : V → List V → Hp → VK → Prop) (to : TE) : TE := fun σ H Q => to σ H fun x H1 => tyV K T x H1 ∧ r x [] H1 Q
def tBM (K : PySem.W.Frag) (T : String) (r : V → List V → Hp → VK → Prop) (to : TE) (t : TA) : TE := fun σ H Q => to σ H fun x H1 => tyV K T x H1 ∧ t σ H1 fun xs H2 => r x xs H2 Q
variable {o e : Expr} {es : List Expr} {to : TE} {t : TA} {name : Str} {apos cpos : Pos} {T id : String} {r : V → List V → Hp → VK → Prop}
theorem pe_bm0 (pa : PlainAttrs T) (slot : Slot T name id) (hty : typeOf (.builtin id) = pure (.type "method_descriptor")) (hm : MtR X id r) (ho : PE X o to)
    (hbase : attributeBase o name X.env (eval o X.env) = eval o X.env := by rfl) (hline : (apos.endLine == cpos.line) = true := by rfl) : PE X (.Call (.Attribute o name apos) [] [] cpos) (tBM0 X.K T r to) := by
  intro pins s σ H Q I h
  refine wpAny_Call_method0_late hbase hline (thn (ho pins s σ H _ I h) fun v s1 ⟨x, H1, I1, r1, ty, q1⟩ => ?_)
  obtain ⟨h1, h2⟩ := tyV_is I1 r1 ty
  exact ⟨T, id, pa, slot, hty, h1, h2, Calls.callWith_builtin rfl (PySem.evalArgs_none (hm pins s1 σ H1 x [] v [] Q I1 r1 .nil q1))⟩
theorem pe_bm (pa : PlainAttrs T) (slot : Slot T name id) (hty : typeOf (.builtin id) = pure (.type "method_descriptor")) (hm : MtR X id r) (ho : PE X o to) (ha : PA X (e :: es) t)
    (hbase : attributeBase o name X.env (eval o X.env) = eval o X.env := by rfl)
    (hfew : ((backTo cpos (starEach (e :: es) X.env)).all (fun x => !x.1) && (backToKw cpos (keywordEach [] X.env)).all (fun x => x.1.isSome)
      && decide ((e :: es).length + ([] : List Keyword).length + (if ([] : List Keyword).isEmpty then 0 else 1) < 30)) = true := by rfl)
    (hline : (apos.endLine == cpos.line) = true := by rfl) (hs : starEach (e :: es) X.env = (false, eval e X.env) :: starEach es X.env := by rfl) (hplain : (backTo cpos (starEach es X.env)).any (·.1) = false := by rfl) :
    PE X (.Call (.Attribute o name apos) (e :: es) [] cpos) (tBM X.K T r to t) := by
  intro pins s σ H Q I h
  refine wpAny_Call_method_late hbase hfew hline rfl (thn (ho pins s σ H _ I h) fun v s1 ⟨x, H1, I1, r1, ty, q1⟩ => ?_)
  obtain ⟨h1, h2⟩ := tyV_is I1 r1 ty
  refine ⟨T, id, pa, slot, hty, h1, h2, ?_⟩
  have hA := ha cpos pins s1 σ H1 _ I1 q1
  rw [hs] at hA ⊢
  refine Calls.callWith_builtin (by show (false || (backTo cpos (starEach es X.env)).any (·.1)) = false; rw [hplain] <;> rfl) (Calls.evalArgs_plain ?_)
  exact thn hA fun us s2 ⟨vs, H2, I2, r2, q2⟩ => hm pins s2 σ H2 x vs v us Q I2 r1 r2 q2
/- xs.append(e), list.index on a module's tuple .. are MtR facts of 06m -/
end
end L2
namespace L2
open PySem PySem.Spec PyProof.Rows
def MtM (X : Cx) (id : String) (r : V → List V → Hp → VK → Prop) : Prop :=
  ∀ (pins : List (Addr × Obj)) (s : Shared) (σ : St) (H : Hp) (x : V) (xs : List V) (v : Value) (us : List Value) (Q : VK), Inv X pins σ H s → RelV x v → Vals xs us → r x xs H Q →
    wpAny (model X.prog X.w) X.A (call (.builtin id) (v :: us)) (EP X pins σ Q) X.xe s
theorem Vals.one : ∀ {x : V} {us : List Value}, Vals [x] us → ∃ u, us = [u] ∧ RelV x u
  | _, _, .cons r .nil => ⟨_, rfl, r⟩
theorem Vals.two : ∀ {x y : V} {us : List Value}, Vals [x, y] us → ∃ u v, us = [u, v] ∧ RelV x u ∧ RelV y v
  | _, _, _, .cons r (.cons q .nil) => ⟨_, _, rfl, r, q⟩
theorem Vals.zero : ∀ {us : List Value}, Vals [] us → us = []
  | _, .nil => rfl
theorem Vals.dropLast {xs : List V} {us : List Value} (h : Vals xs us) : Vals xs.dropLast us.dropLast := by
  induction h with
  | nil => exact .nil
  | cons r t ih =>
    cases t with
    | nil => exact .nil
    | cons q t' => exact .cons r ih
theorem Vals.eraseIdx : ∀ {xs : List V} {us : List Value} (i : Nat), Vals xs us → Vals (xs.eraseIdx i) (us.eraseIdx i)
  | _, _, _, .nil => .nil
  | _, _, 0, .cons _ t => t
  | _, _, i + 1, .cons r t => .cons r (Vals.eraseIdx i t)
theorem Vals.reverse {xs : List V} {us : List Value} (h : Vals xs us) : Vals xs.reverse us.reverse := by
  induction h with
  | nil => exact .nil
  | cons r t ih => rw [List.reverse_cons, List.reverse_cons]; exact Vals.append ih (.cons r .nil)
theorem Vals.rep {xs : List V} {us : List Value} (h : Vals xs us) : ∀ k : Nat, Vals (List.replicate k xs).flatten (List.replicate k us).flatten
  | 0 => .nil
  | k + 1 => by
    rw [List.replicate_succ, List.replicate_succ, List.flatten_cons, List.flatten_cons]
    exact Vals.append h (Vals.rep h k)
theorem erase_last {α : Type} (l : List α) : l.eraseIdx (l.length - 1) = l.dropLast := by
  induction l with
  | nil => rfl
  | cons a r ih =>
    cases r with
    | nil => rfl
    | cons b r =>
      have e : (a :: b :: r).length - 1 = ((b :: r).length - 1) + 1 := by
        have h1 : (a :: b :: r).length = r.length + 2 := rfl
        have h2 : (b :: r).length = r.length + 1 := rfl
        omega
      rw [e, List.eraseIdx_cons_succ, ih]
      all_goals rfl
theorem len_erase {α : Type} : ∀ (l : List α) (i : Nat), (l.eraseIdx i).length ≤ l.length
  | [], _ => Nat.le_refl _
  | _ :: _, 0 => Nat.le_succ _
  | _ :: r, i + 1 => Nat.succ_le_succ (len_erase r i)
section
variable {X : Cx} {pins : List (Addr × Obj)} {σ : St} {H : Hp} {s : Shared} {l b : Addr} {xs ys zs : List V}
theorem Inv.lset {its its' : List Value} {n : Nat} {f : Array Value → Array Value} {t' : Nat} (I : Inv X pins σ H s) (hH : H l = some (.lst xs))
    (e : s.heap.get? l = some { cls := .type "list", data := .seq its.toArray n }) (hf : f its.toArray = its'.toArray) (hv : Vals ys its') (hz : ys.length ≤ sizeLine) :
    Inv X pins σ (upd H l (.lst ys)) { s with heap := s.heap.update l (Obj.mapSeq f), toks := t' } := by
  have q := PySem.IsL.update e f
  rw [hf] at q
  refine I.write (x := l) (e := l) (by rw [hH]; exact trivial) (.inl rfl) (fun b' u hb hu => (Heap.get?_update_other s.heap (Obj.mapSeq f) (Ne.symm hb)).trans hu) ⟨_, q⟩ ?_
  exact ⟨hz, its', _, hv, q⟩
theorem Inv.lnew {its : List Value} {t' : Nat} (I : Inv X pins σ H s) (hv : Vals ys its) (hz : ys.length ≤ sizeLine) :
    Inv X pins σ (upd H s.heap.objs.size (.lst ys)) { s with heap := s.heap.push { cls := .type "list", data := .seq its.toArray }, toks := t' } :=
  I.laid (fun _ _ q => Heap.get?_push_of_some _ q) (Nat.le_refl _) ⟨hz, its, 0, hv, Heap.get?_push_size _ rfl⟩
theorem Inv.fresh (I : Inv X pins σ H s) : H s.heap.objs.size = none := I.hok.fresh (Nat.le_refl _)
theorem Inv.lstM (I : Inv X pins σ H s) (hH : H l = some (.lst xs)) : xs.length ≤ sizeLine ∧ ∃ (its : List Value) (n : Nat), Vals xs its ∧ xs.length = its.length ∧ s.heap.get? l = some { cls := .type "list", data := .seq its.toArray n } := by
  obtain ⟨z, its, n, r, e⟩ := I.hok l _ hH
  exact ⟨z, its, n, r, r.length, e⟩
end
section
variable {X : Cx}
def rAppend : V → List V → Hp → VK → Prop := fun x vs H Q => ∃ l xs y, x = .ref l ∧ vs = [y] ∧ H l = some (.lst xs) ∧ xs.length < sizeLine ∧ Q .non (upd H l (.lst (xs ++ [y])))
theorem mt_append : MtM X "list.append" rAppend := by
  intro pins s σ H x vs v us Q I rx rv h
  obtain ⟨l, xs, y, rfl, rfl, hH, hz, q⟩ := h
  cases rx
  obtain ⟨u, rfl, ru⟩ := rv.one
  obtain ⟨z, its, n, r, hl, e⟩ := I.lstM hH
  refine call_meets F.slot_list_append ⟨_, e, rfl⟩ F.entry_list_append (F.args_list_append_2 _ _) (PySem.list_append l its.toArray n u (by rw [List.size_toArray]; omega)) ⟨e, ?_⟩
  refine ⟨.non, _, I.lset (its' := its ++ [u]) hH e (by simp) (r.append (.cons ru .nil)) ?_, rfl, q⟩
  rw [List.length_append, List.length_singleton]
  omega
def rPop : V → List V → Hp → VK → Prop := fun x vs H Q => ∃ l xs y, x = .ref l ∧ vs = [] ∧ H l = some (.lst xs) ∧ xs[xs.length - 1]? = some y ∧ Q y (upd H l (.lst xs.dropLast))
theorem mt_pop : MtM X "list.pop" rPop := by
  intro pins s σ H x vs v us Q I rx rv h
  obtain ⟨l, xs, y, rfl, rfl, hH, hy, q⟩ := h
  cases rx
  have hus := rv.zero
  subst hus
  obtain ⟨z, its, n, r, hl, e⟩ := I.lstM hH
  obtain ⟨u, hu, ru⟩ := r.get hy
  have hy' : its.toArray[its.toArray.size - 1]? = some u := by
    show its.toArray[its.length - 1]? = some u
    rw [← Array.getElem?_toList, ← hl]
    exact hu
  refine call_meets F.slot_list_pop ⟨_, e, rfl⟩ F.entry_list_pop (F.args_list_pop_1 _) (MeetsSeq.list_pop_last l its.toArray n u hy' (by rw [List.size_toArray]; omega)) ⟨e, ?_⟩
  refine ⟨y, _, I.lset (its' := its.dropLast) hH e ?_ r.dropLast ?_, ru, q⟩
  · show its.toArray.eraseIdxIfInBounds (its.toArray.size - 1) = its.dropLast.toArray
    rw [List.size_toArray, List.eraseIdxIfInBounds_toArray, erase_last]
  · rw [List.length_dropLast]
    omega
def rPopAt : V → List V → Hp → VK → Prop := fun x vs H Q => ∃ l xs i k y, x = .ref l ∧ vs = [.int i] ∧ H l = some (.lst xs) ∧ -(2 ^ 63) ≤ i ∧ i < 2 ^ 63 ∧ seqIndex? i xs.length = some k ∧ xs[k]? = some y ∧ Q y (upd H l (.lst (xs.eraseIdx k)))
theorem mt_popAt : MtM X "list.pop" rPopAt := by
  intro pins s σ H x vs v us Q I rx rv h
  obtain ⟨l, xs, i, k, y, rfl, rfl, hH, h1, h2, hk, hy, q⟩ := h
  cases rx
  obtain ⟨u, rfl, ru⟩ := rv.one
  obtain ⟨t, rfl⟩ := ru
  obtain ⟨z, its, n, r, hl, e⟩ := I.lstM hH
  obtain ⟨w, hw, rw'⟩ := r.get hy
  refine call_meets F.slot_list_pop ⟨_, e, rfl⟩ F.entry_list_pop (F.args_list_pop_2 _ _)
    (MeetsSeq.list_pop_at l its.toArray n i t k w (fitsIndex_both h1 h2) (by rw [List.size_toArray, ← hl]; exact hk) (by rw [← Array.getElem?_toList]; exact hw) (by rw [List.size_toArray]; omega)) ⟨e, ?_⟩
  refine ⟨y, _, I.lset (its' := its.eraseIdx k) hH e ?_ (r.eraseIdx k) ?_, rw', q⟩
  · show its.toArray.eraseIdxIfInBounds k = (its.eraseIdx k).toArray
    rw [List.eraseIdxIfInBounds_toArray]
  · have := len_erase xs k
    omega
def rCat : R2 := fun x y H Q => ∃ l b xs zs, x = .ref l ∧ y = .ref b ∧ H l = some (.lst xs) ∧ H b = some (.lst zs) ∧ xs.length + zs.length ≤ sizeLine ∧ ∀ p, H p = none → Q (.ref p) (upd H p (.lst (xs ++ zs)))
theorem op_cat : OpR X (binaryOp .Add) rCat := by
  intro pins s σ H x y v u Q I rx ry h
  obtain ⟨l, b, xs, zs, rfl, rfl, hH, hB, hz, q⟩ := h
  cases rx
  cases ry
  obtain ⟨z, its, n, r, hl, e⟩ := I.lstM hH
  obtain ⟨z2, its2, n2, r2, hl2, e2⟩ := I.lstM hB
  refine PySem.P.add_list e e2 ?_ (by rw [List.size_toArray, List.size_toArray]; omega)
  have ea : its.toArray ++ its2.toArray = (its ++ its2).toArray := by simp
  rw [ea]
  exact ⟨.ref _, _, I.lnew (t' := s.toks) (r.append r2) (by rw [List.length_append]; omega), rfl, q _ I.fresh⟩
end
section
variable {prog : Program} {w : World} {A : Around} {E : Value → Shared → Prop} {s : Shared}
end
section
variable {X : Cx}
end
end L2
namespace Att
open PySem PySem.W PySem.Calls PyProof.Rows
theorem ints_of_wellAll {P : Params} {h : Heap} : ∀ (ns : List Int) (vs : List Value), WellAll P h vs (ns.map WData.int) → IntsAre vs ns := by
  intro ns
  induction ns with
  | nil =>
    intro vs w
    rw [List.map_nil] at w
    cases w
    exact .nil
  | cons n ns ih =>
    intro vs w
    rw [List.map_cons] at w
    cases w with
    | cons a b =>
      cases a
      exact .cons _ _ (ih _ b)
theorem script_of {l : OpenLaw} {n : Nat} (hn : l.most = some n) {P : Params} {h : Heap} {args : List WData} {vals : List Value}
    (hpre : l.row.toRowW.claim.pre args = true) (hwl : WellAll P h vals args) :
    ∃ a vs ns, vals = [Value.ref a] ∧ args = [WData.list (ns.map WData.int)] ∧ h.get? a = some { cls := .type "list", data := .seq vs.toArray } ∧ IntsAre vs ns ∧ ns.length ≤ n := by
  have hsh : WShape.hasAll [] args [.list .int] = true := (pre_splitW hpre).1
  have hc : l.pre.holds [] { args := args } = true := (pre_splitW hpre).2
  obtain ⟨d, r, rfl, h1, h2⟩ := hasAllW_cons hsh
  obtain rfl := hasAllW_nil h2
  obtain ⟨xs, rfl, h3⟩ := hasW_list h1
  obtain ⟨ns, rfl⟩ := items_int h3
  have hlen : ns.length ≤ n := by
    unfold OpenLaw.pre at hc
    have h4 : (WTm.not (.lt (.lit (.int (n : Int))) (.len (.arg 0)))).holds [] { args := [.list (ns.map .int)] } = true := by
      have h4 := (holds_andW hc).1
      rw [hn] at h4
      exact h4
    have h5 := condW_of h4 (w_not (w_lt w_lit (w_len_list (w_arg rfl))))
    rw [List.length_map] at h5
    refine Nat.le_of_not_lt fun q => ?_
    have q' : (n : Int) < ((ns.length : Nat) : Int) := by omega
    first
      | (rw [decide_eq_true q'] at h5; exact absurd h5 (by decide))
      | (simp at h5; omega)
  cases hwl with
  | cons w1 w2 =>
    cases w2
    cases w1 with
    | list ho hall => exact ⟨_, _, ns, rfl, rfl, ho, ints_of_wellAll ns _ hall, hlen⟩
theorem post_true (l : OpenLaw) (args : List WData) : l.row.toRowW.claim.post args (.bool true) args = true :=
  postW_of (r := l.row.toRowW) (X := (true == true))
    (show WShape.has [] (.bool true) .bool = true by first | rfl | decide | simp [WShape.has, WShape.arms, WShape.armsAll])
    (show (WTm.eq .res (.lit (.bool true))).value [] { args := args, res := some (.bool true), after := args } = some (.bool (true == true)) from w_eq_bool (w_res rfl) w_lit) rfl
theorem attach_call {l : OpenLaw} {n : Nat} {q : Program} {loose : List Str} {XP : (Str → Option Value) → Heap → Prop} {YP : World → Heap → Prop} {d : DefRec}
    (hn : l.most = some n) (hdf : d.params.defaults = [])
    (call : ∀ (w : World) (s₀ s₁ : Shared) (mg mb : Str → Option Value) (fa : Addr) (o : Obj) (pm cd doc : Value) (a : Addr) (vs : List Value) (ns : List Int),
      Ground q loose [] XP w s₀ mg mb s₁.heap → YP w s₁.heap →
      s₁.heap.get? fa = some o → o.data = .func (docDef d.name d.params d.body d.scope pm cd doc) → s₁.heap.CodeRec cd d.name → mg d.name = some (.ref fa) →
      s₁.heap.get? a = some { cls := .type "list", data := .seq vs.toArray } → IntsAre vs ns → ns.length ≤ n → s₁.gens = #[] →
      codeAny (model l.prog w) callerA (.call (.ref fa) ⟨[.ref a], []⟩) (fun r s' => r = .ok (.ret (.bool true)) ∧ OldK s₁.heap s'.heap ∧ s'.os = s₁.os ∧ AllBare s'.gens) s₁) :
    WalkO q loose XP YP l.row.toRowW d [] (fun f vs => PySem.call f vs) := by
  intro w s₀ s₁ mg mb G Y fa o pm cd doc dV kV ho hd hcd hD hmg hg args vals as hpre hlay hrd hwl hlo
  obtain rfl : dV = .none := Dflts.none hD hdf
  obtain rfl : kV = .none := Dflts.noKw hD
  obtain ⟨a, vs, ns, rfl, rfl, hobj, hints, hlen⟩ := script_of hn hpre hwl
  refine enter_call (codeAny_mono (call w s₀ s₁ mg mb fa o pm cd doc a vs ns G Y ho (fd_plain hd) hcd hmg hobj hints hlen hg) fun r s' hq => ?_)
  obtain ⟨rfl, h2, h3, h4⟩ := hq
  exact ⟨.inl ⟨.bool true, .bool true, [], rfl, fun _ => rfl, .bool true, post_true l _, fun _ => ⟨List.Pairwise.nil, fun _ hm => (nomatch hm)⟩⟩, h2, h3, h4⟩
section
variable {prog : Program} {w : World} {A : Around} {E : Value → Shared → Prop} {s : Shared} {K : Frag}
def ledger (h : Heap) (L d : Addr) : List (Addr × Obj) := (List.range h.objs.size).filterMap fun a => if a = L ∨ a = d then none else (h.get? a).map fun o => (a, o)
end
end Att
namespace L2
open PySem PySem.Spec PyProof.Rows
theorem vals_ints : ∀ {vs : List Value} {ns : List Int}, IntsAre vs ns → Vals (ns.map V.int) vs
  | _, _, .nil => .nil
  | _, _, .cons n t h => .cons ⟨t, rfl⟩ (vals_ints h)
def Only (H : Hp) : Prop := ∀ b, H b = none ∨ ∃ o xs, H b = some (.frz o (.lst xs))
theorem law_call {P : Program} {w : World} {K : PySem.W.Frag} {mg mb : Str → Option Value} {CX : CXT} {k : Nat} {fa a : Addr} {fd : FuncData} {x : Str} {sp : Sp} {s₁ : Shared} {vs : List Value} {ns : List Int}
    (KX : K.In s₁.heap) (hns : s₁.heap.Ns mainGlobals mg) (hb : s₁.heap.Ns builtinsNs mb) (hbb : ∀ x : Str, x ≠ "__name__" → mb x = bootBuiltins x) (hlim : s₁.heap.NoLimit) (hg : s₁.gens = #[])
    (ha : s₁.heap.get? a = some { cls := .type "list", data := .seq vs.toArray }) (hi : IntsAre vs ns) (hl : ns.length ≤ sizeLine) (hr : Room k callerA)
    (F : ∀ base : Heap, K.In base → base.Ns mainGlobals mg → FnOk P w K mg base CX k fa fd [x] sp) (hbind : ∀ (s : Shared) (u : Value), BindsTo s fd ⟨[u], []⟩ [(x, u)])
    (hsp : ∀ H : Hp, Only H → SqL K H a (ns.map V.int) → sp [.ref a] H (fun v _ => v = .bl true) fun _ _ _ => False)
    (hCX : ∀ H e s', CX [] H s₁ (fun _ _ _ => False) e s' → False) :
    codeAny (model P w) callerA (.call (.ref fa) ⟨[.ref a], []⟩) (fun r s' => r = .ok (.ret (.bool true)) ∧ OldK s₁.heap s'.heap ∧ s'.os = s₁.os ∧ AllBare s'.gens) s₁ := by
  have rv := vals_ints hi
  have lenV := hi.length
  have core : ∀ H : Hp, Only H → SqL K H a (ns.map V.int) → HOk P w H s₁.heap → (∀ b, H b ≠ none → b = a) → (H a ≠ none → K.lookup a = none) →
      codeAny (model P w) callerA (.call (.ref fa) ⟨[.ref a], []⟩) (fun r s' => r = .ok (.ret (.bool true)) ∧ OldK s₁.heap s'.heap ∧ s'.os = s₁.os ∧ AllBare s'.gens) s₁ := by
    intro H hO hS hok hA hK
    have base_of : ∀ {b : Addr} {o : Obj}, s₁.heap.get? b = some o → H b = none → (hidT s₁.heap H).get? b = some o := fun e n => hidT_get e n
    have noA : ∀ {b : Addr} {o : Obj} {es : Array DictEntry} {ep : Nat}, s₁.heap.get? b = some o → o.data = .dict es ep → H b = none := fun {b o es ep} e d => by
      cases q : H b with
      | none => rfl
      | some u =>
        have e' : b = a := hA b (by rw [q]; simp)
        subst e'
        rw [ha] at e; cases e
        have d' : Data.seq vs.toArray _ = Data.dict es ep := d
        cases d'
    have nsK : ∀ {b : Addr} {m : Str → Option Value}, s₁.heap.Ns b m → (hidT s₁.heap H).Ns b m := fun {b m} ⟨o, es, ep, e, d, r⟩ => ⟨o, es, ep, base_of e (noA e d), d, r⟩
    have hKb : K.In (hidT s₁.heap H) := fun b o e => base_of (KX b o e) (by
      cases q : H b with
      | none => rfl
      | some u =>
        have e' : b = a := hA b (by rw [q]; simp)
        subst e'
        rw [hK (by rw [q]; simp)] at e; cases e)
    have hM : Mod K mg (hidT s₁.heap H) := ⟨hKb, nsK hns, ⟨mb, nsK hb, hbb⟩, let ⟨mc, h1, h2⟩ := hlim; ⟨mc, nsK h1, h2⟩⟩
    have e0 : Env0 P w K mg (hidT s₁.heap H) callerA [] s₁ H := ⟨rfl, hM, fun b o e => of_hidT e, Nat.le_of_eq (hidT_size _ _), trivial, fun b hb => absurd (show b ∈ ([] : List Addr) from hb) (by simp), hok, .of_eq hg⟩
    refine codeAny_mono ((F _ hKb (nsK hns)).run callerA [] s₁ H ⟨[.ref a], []⟩ [.ref a] [.ref a] _ _ hr e0 (hbind s₁ (.ref a)) (.cons rfl .nil) (hsp H hO hS)) fun r s' h => ?_
    cases r with
    | error e => exact (hCX H e s' h).elim
    | ok fl =>
      cases fl with
      | next => exact False.elim h
      | brk => exact False.elim h
      | cont => exact False.elim h
      | ret u =>
        obtain ⟨v, H', os, bare, un, hok', r', q⟩ := h
        have q' : v = .bl true := q
        subst q'
        obtain rfl : u = Value.bool true := r'
        refine ⟨rfl, OldK.of_keep fun b o e => ?_, os, bare⟩
        cases q : H b with
        | none => exact un.keep b o e q (by intro z; exact absurd (show b ∈ ([] : List Addr) from z) (by simp)) (by simp)
        | some u =>
          rcases hO b with z | ⟨ob, xs, z⟩
          · rw [q] at z; cases z
          · have z2 := un.frzs b ob _ z
            obtain ⟨e1, _⟩ := hok b _ z
            obtain ⟨e2, _⟩ := hok' b _ z2
            rw [e] at e1; cases e1
            exact e2
  cases hk : K.lookup a with
  | some o =>
    have e := KX a o hk
    rw [ha] at e
    cases e
    refine core (fun _ => none) (fun _ => .inl rfl) (.inr ⟨_, vs.toArray, _, hk, rfl, rfl, rfl, by rw [List.size_toArray, lenV]; exact hl, by simpa using rv⟩) (fun b u z => by have z' : (none : Option HO) = some u := z; cases z') (fun b z => absurd rfl z) fun z => absurd rfl z
  | none =>
    refine core (fun b => if b = a then some (.frz { cls := .type "list", data := .seq vs.toArray } (.lst (ns.map V.int))) else none) (fun b => ?_) (.inl (.inr ⟨{ cls := .type "list", data := .seq vs.toArray }, if_pos rfl⟩)) (fun b u z => ?_) (fun b z => ?_) fun _ => hk
    · by_cases hb : b = a
      · exact .inr ⟨_, _, if_pos hb⟩
      · exact .inl (if_neg hb)
    · by_cases hb : b = a
      · have z' := (if_pos hb).symm.trans z
        cases z'
        subst hb
        exact ⟨ha, by rw [List.length_map]; exact hl, vs, _, rv, ha⟩
      · have z' := (if_neg hb).symm.trans z
        cases z'
    · by_cases hb : b = a
      · exact hb
      · exact absurd (if_neg hb) z
end L2
namespace L2
open PySem PySem.Spec PyProof.Rows
abbrev KOf {K : PySem.W.Frag} {h : Heap} (_ : K.In h) : PySem.W.Frag := K
theorem walk_of {l : PySem.W.OpenLaw} {n k : Nat} {q : Program} {loose : List Str} {XP : (Str → Option Value) → Heap → Prop} {YP : World → Heap → Prop} {d : DefRec} {K : Params → PySem.W.Frag} {CX : World → CXT} {sp : World → Sp} {x : Str}
    (hn : l.most = some n) (hn2 : n ≤ sizeLine) (hdf : d.params.defaults = []) (hr : Room k callerA)
    (hY : ∀ (w : World) (h : Heap), YP w h → (K w.params).In h)
    (F : ∀ (w : World) (mg : Str → Option Value) (fa : Addr) (h : Heap), (K w.params).In h → h.Ns mainGlobals mg → mg d.name = some (.ref fa) →
      ∃ fd : FuncData, (∀ (s : Shared) (u : Value), BindsTo s fd ⟨[u], []⟩ [(x, u)]) ∧
        ∀ base : Heap, (K w.params).In base → base.Ns mainGlobals mg → FnOk l.prog w (K w.params) mg base (CX w) k fa fd [x] (sp w))
    (hsp : ∀ (w : World) (H : Hp) (a : Addr) (ns : List Int), ns.length ≤ n → Only H → SqL (K w.params) H a (ns.map V.int) → sp w [.ref a] H (fun v _ => v = .bl true) fun _ _ _ => False)
    (hCX : ∀ (w : World) (H : Hp) (s : Shared) (e : Value) (s' : Shared), CX w [] H s (fun _ _ _ => False) e s' → False) :
    PySem.W.WalkO q loose XP YP l.row.toRowW d [] (fun f vs => PySem.call f vs) := by
  refine Att.attach_call hn hdf fun w s₀ s₁ mg mb fa o pm cd doc a vs ns G Y ho hd hcd hmg hobj hints hlen hg => ?_
  have KX := hY w _ Y
  obtain ⟨fd, hb, hF⟩ := F w mg fa _ KX G.T.g hmg
  exact law_call KX G.T.g G.T.b G.T.builtins G.T.nolimit hg hobj hints (Nat.le_trans hlen hn2) hr hF hb (fun H hO hS => hsp w H a ns hlen hO hS) fun H e s' => hCX w H s₁ e s'
end L2
/- THE LAST THEOREM (shape; LID, My.* are yours):
   My.Adr: a structure of the addresses that your layer names (classes, functions); My.Txt K t: a structure (Prop) of the equations over K;
   My.txt_mk : {K} {implicit addresses ..} (e1 : nsIn K mainGlobals "law" = some (some (.ref f))) (e2 : K.lookup f = some ⟨oc, od, .func (fnOf "law" "law" params body scope dV kV doc pm an cdv ct), sl⟩) (e3 : codeIn K cdv "law" = true) .. : ∃ t, My.Txt K t
set_option maxRecDepth 100000 in
set_option maxHeartbeats 0 in
theorem PySem.Challenge.cw_LID_holds : PySem.Challenge.rw_LID.Holds := by
  w_on; o_law; k_head; (case hw => w_witness2)
  k_fill
  refine L2.walk_of (l := PySem.Challenge.rw_LID) (n := 63) (k := 40) (x := "script") (CX := fun w => ..) (sp := fun _ => My.sp_law) rfl (by decide) rfl ⟨rfl, by decide, by decide⟩ (fun w h Y => PySem.W.kIn_of Y) ?F ?S ?C
  case F =>
    intro w mg fa h KX G hmg
    have T : ∃ t, My.Txt (L2.KOf KX) t := by
      dsimp only [L2.KOf]                          -- K must stand as «<heap const> w.params» for k_is
      refine' My.txt_mk ?e1 ?e2 ?e3 ..
      (case e1 => PySem.W.k_is)                    -- in the order: a name -> its address -> its object -> its parts
      (case e2 => PySem.W.k_is)
      ..
    obtain ⟨t, T⟩ := T
    have e0 := hmg.symm.trans (PySem.W.mg_of KX G T.law)
    cases e0                                       -- fa is the law's own address
    exact ⟨_, fun s u => .of_eq rfl, fun base kb nb => My.law_fn T kb nb⟩     -- if «.of_eq rfl» comes too early: refine' ⟨_, ?b, fun base kb nb => My.law_fn T kb nb⟩; exact fun s u => .of_eq rfl
  case S => exact fun w H a ns hl hO hS => ..
  case C => exact ..
(the tactic k_is has no namespace: write k_is) -/
namespace L2
open PySem PySem.Spec PyProof.Rows
def defArgs (s : Stmt) : Arguments := match s with
  | .FunctionDef _ a _ _ _ _ _ _ _ _ => a
  | _ => { posonlyargs := [], args := [], vararg := none, kwonlyargs := [], kw_defaults := [], kwarg := none, defaults := [] }
def defBody (s : Stmt) : List Stmt := match s with
  | .FunctionDef _ _ b _ _ _ _ _ _ _ => b
  | _ => []
def defScope (s : Stmt) : Scope := match s with
  | .FunctionDef _ _ _ _ _ _ sc _ _ _ => sc
  | _ => { kind := .function, names := [], isGenerator := false, isCoroutine := false }
abbrev CX0 : CXT := fun _ _ _ _ _ _ => False
abbrev E0 : XK := fun _ _ _ => False
theorem pass0 {X : Cx} : Passes CX0 X E0 := fun _ _ _ _ _ _ _ h => h.elim
structure Fun (K : PySem.W.Frag) (x qual : Str) (st : Stmt) (f : Addr) (fd : FuncData) : Prop where
  ex : ∃ (oc : Value) (od : Option Addr) (kV doc pm : Value) (an : Option Addr) (cdv ct : Value) (osl : Array (Option Value)),
    fd = PySem.W.fnOf x qual (defArgs st) (defBody st) (defScope st) .none kV doc pm an cdv ct ∧ K.lookup f = some ⟨oc, od, .func fd, osl⟩ ∧ PySem.W.codeIn K cdv qual = true
  kp : PySem.W.keepIn K (.ref f) = true
section
variable {P : Program} {w : World} {K : PySem.W.Frag} {mg : Str → Option Value} {base : Heap}
theorem Fun.ok {x qual : Str} {st : Stmt} {f : Addr} {fd : FuncData} {N ps : List Str} {k : Nat} {sp : Sp} (F : Fun K x qual st f fd) (S : FnScope N ps (defScope st)) (len : ∀ vs H Q E, sp vs H Q E → vs.length = ps.length)
    (hbody : ∀ (cdv : Value) (A : Around) (outer : List Env) (s : Shared) (H : Hp) (vs : List V) (Q : VK) (E : XK), Room k (A.deeper (envOfC qual (defScope st) s.heap.objs.size f cdv)) → sp vs H Q E →
      ∃ t, PSs (cxOf CX0 P w K mg base N qual (defScope st) f cdv A outer s H E).nox (defBody st) t ∧ t { nx := fun _ H' => Q .non H', rt := Q } (start N vs) H) : FnOk P w K mg base CX0 (k + 1) f fd ps sp := by
  obtain ⟨oc, od, kV, doc, pm, an, cdv, ct, osl, rfl, lk, hcd⟩ := F.ex
  refine fn_of lk hcd S len fun A outer s H vs Q E hr hsp => ?_
  obtain ⟨t, h, q⟩ := hbody cdv A outer s H vs Q E hr hsp
  exact ⟨t, h.nox, q⟩
theorem Fun.binds {x qual : Str} {st : Stmt} {f : Addr} {fd : FuncData} {ps : List Str} (F : Fun K x qual st f fd)
    (h : ∀ (kV doc pm : Value) (an : Option Addr) (cdv ct : Value) (us : List Value), us.length = ps.length → bindArgs (PySem.W.fnOf x qual (defArgs st) (defBody st) (defScope st) .none kV doc pm an cdv ct) ⟨us, []⟩ = pure (ps.zip us)) : Binds K fd ps [] := by
  obtain ⟨oc, od, kV, doc, pm, an, cdv, ct, osl, rfl, lk, hcd⟩ := F.ex
  exact .all (h kV doc pm an cdv ct)
theorem fun_mk {x qual : Str} {st : Stmt} {f : Addr} {oc : Value} {od an : Option Addr} {osl : Array (Option Value)} {kV doc pm cdv ct : Value} (l : K.lookup f = some ⟨oc, od, .func (PySem.W.fnOf x qual (defArgs st) (defBody st) (defScope st) .none kV doc pm an cdv ct), osl⟩)
    (c : PySem.W.codeIn K cdv qual = true) (k : PySem.W.keepIn K (.ref f) = true) : Fun K x qual st f (PySem.W.fnOf x qual (defArgs st) (defBody st) (defScope st) .none kV doc pm an cdv ct) := ⟨⟨oc, od, kV, doc, pm, an, cdv, ct, osl, rfl, l, c⟩, k⟩
end
theorem small1000 {n : Nat} (h : n ≤ 1000) : n < sizeLine := Nat.lt_of_le_of_lt h (by decide)
section
variable {X : Cx}
theorem pv (i : Nat) {x : Str} {pos : Pos} (hN : X.N[i]? = some x := by rfl) (hv : Vis X.env.scope x := by first | exact Or.inl rfl | exact Or.inr (Or.inl rfl) | exact Or.inr (Or.inr rfl)) (hd : (x == ("__debug__" : Str)) = false := by decide)
    (hcd : (x == ("__classdict__" : Str)) = false := by decide) : PE X (.Name x pos) (tVar i) := pe_var hN hv hd hcd
end
def Same (H H' : Hp) : Prop := ∀ b o, H b = some o → H' b = some o
theorem Same.refl (H : Hp) : Same H H := fun _ _ h => h
theorem Same.trans {H H1 H2 : Hp} (a : Same H H1) (b : Same H1 H2) : Same H H2 := fun c o h => b c o (a c o h)
theorem Same.free {H H' : Hp} (e : Same H H') {l : Addr} (h : H' l = Option.none) : H l = Option.none := by
  cases q : H l with
  | none => rfl
  | some o =>
    rw [e l o q] at h
    cases h
theorem Same.seq {K : PySem.W.Frag} {H H' : Hp} {a : Addr} {xs : List V} (e : Same H H') (h : SqL K H a xs) : SqL K H' a xs := by
  rcases h with (h | ⟨o, h⟩) | h
  · exact .inl (.inl (e _ _ h))
  · exact .inl (.inr ⟨o, e _ _ h⟩)
  · exact .inr h
end L2
namespace Hk
open PySem
def Rise (xs : Array Nat) : Prop := xs.toList.Pairwise (· < ·)
structure Tb (t : SetTable) (n : Nat) : Prop where
  fits : t.fits n = true
  rise : Rise t.place
  dum : t.dummies = #[]
end Hk
set_option maxRecDepth 100000
namespace Hk
open PySem PySem.Spec PyProof.Rows
def vI : Value → Int
  | .int i _ => i
  | _ => 0
def GoodE (e : Int × Value) : Prop := ∃ x t, e = (hashInt x, Value.int x t)
def SetI (h : Heap) (a : Addr) (led : Bool) (xs : List Int) : Prop := ∃ o es ep t, h.get? a = some o ∧ o.ExactSet ∧ o.data = .set es ep t ∧ Tb t es.size ∧ t.led = led ∧ es.size < scanBound ∧
  (∀ e ∈ es.toList, GoodE e) ∧ es.toList.map (fun e => vI e.2) = xs ∧ xs.Nodup
theorem SetI.len {h : Heap} {a : Addr} {led : Bool} {xs : List Int} (S : SetI h a led xs) : xs.length < scanBound := by
  obtain ⟨o, es, ep, t, _, _, _, _, _, z, _, e, _⟩ := S
  rw [← e, List.length_map, Array.length_toList]; exact z
theorem SetI.at {h h' : Heap} {a : Addr} {led : Bool} {xs : List Int} (S : SetI h a led xs) (k : ∀ o, h.get? a = some o → h'.get? a = some o) : SetI h' a led xs := by
  obtain ⟨o, es, ep, t, e, r⟩ := S
  exact ⟨o, es, ep, t, k o e, r⟩
section
variable {prog : Program} {w : World} {A : Around} {E : Value → Shared → Prop} {s : Shared}
end
def SetV (h : Heap) (S : Addr) (led : Bool) (val : Nat → Int) (m : Nat) : Prop := ∃ xs, SetI h S led xs ∧ xs.length ≤ m ∧ ∀ x, x ∈ xs ↔ ∃ i, i < m ∧ val i = x
theorem SetV.at {h h' : Heap} {a : Addr} {led : Bool} {val : Nat → Int} {m : Nat} (S : SetV h a led val m) (k : ∀ o, h.get? a = some o → h'.get? a = some o) : SetV h' a led val m := by
  obtain ⟨xs, q, r⟩ := S
  exact ⟨xs, q.at k, r⟩
section
variable {prog : Program} {w : World} {A : Around} {R : Result → Shared → Prop} {I : Addr} {fp wr : List Addr} {G : Array GenState → Array GenState → Prop} {n : Nat} {P : Nat → Value → Prop} {St : Nat → Shared → Prop}
end
end Hk
set_option maxRecDepth 100000
namespace Hk
open PySem PySem.Spec PyProof.Rows
section
variable {prog : Program} {w : World} {A : Around} {E : Value → Shared → Prop} {s : Shared}
end
end Hk
set_option maxRecDepth 100000
namespace PySem.F
end PySem.F
namespace Hk
open PySem PySem.Spec PyProof.Rows
section
variable {prog : Program} {w : World} {A : Around} {E : Value → Shared → Prop} {s : Shared}
end
end Hk
set_option maxRecDepth 100000
namespace Hk
open PySem PySem.Spec PyProof.Rows
section
variable {prog : Program} {w : World} {A : Around} {E : Value → Shared → Prop} {s : Shared}
end
end Hk
set_option maxRecDepth 100000
namespace Hk
open PySem PySem.Spec PyProof.Rows
section
variable {prog : Program} {w : World} {A : Around} {E : Value → Shared → Prop} {s : Shared}
end
end Hk
set_option maxRecDepth 100000
namespace PySem.F
end PySem.F
namespace Hk
open PySem PySem.Spec PyProof.Rows
section
variable {prog : Program} {w : World} {A : Around} {E : Value → Shared → Prop} {s : Shared}
end
end Hk
set_option maxRecDepth 100000
namespace Hk
open PySem PySem.Spec PyProof.Rows
section
variable {prog : Program} {w : World} {A : Around} {E : Value → Shared → Prop} {s : Shared}
end
end Hk
set_option maxRecDepth 100000
namespace L2
open PySem PySem.Spec PyProof.Rows
def closL (names : List (Str × NameKind)) (cells : List (Str × Addr)) (cs : List (Str × Addr)) : List (Str × Addr) :=
  match names with
  | [] => cs
  | p :: r => closL r cells (if p.2 == .free then (p.1, (cells.lookup p.1).getD 0) :: cs else cs)
theorem closureFor_is {scope : Scope} {env : Env} (h : ∀ p ∈ scope.names, p.2 = NameKind.free → (env.cells.lookup p.1).isSome = true) :
    closureFor scope env = pure (closL scope.names env.cells []) := by
  simp only [closureFor]
  generalize scope.names = l at h ⊢
  have key : ∀ (l : List (Str × NameKind)) (cs : List (Str × Addr)), (∀ p ∈ l, p.2 = NameKind.free → (env.cells.lookup p.1).isSome = true) →
      (forIn l cs (fun (p : Str × NameKind) (r : List (Str × Addr)) => if (p.2 == NameKind.free) = true then (do let a ← cellOf env p.1; pure (ForInStep.yield ((p.1, a) :: r))) else pure (ForInStep.yield r)) : Sem _) = pure (closL l env.cells cs) := by
    intro l
    induction l with
    | nil => intro cs _; rfl
    | cons p r ih =>
      intro cs hp
      rw [List.forIn_cons]
      have hr := fun q hq => hp q (List.mem_cons_of_mem _ hq)
      by_cases hf : p.2 = NameKind.free
      · have hs := hp p List.mem_cons_self hf
        obtain ⟨a, ha⟩ := Option.isSome_iff_exists.mp hs
        have e : cellOf env p.1 = pure a := by unfold cellOf; rw [ha]
        have hb : (p.2 == NameKind.free) = true := by rw [hf]; rfl
        rw [if_pos hb, e, pure_bind, pure_bind]
        show forIn r _ _ = _
        rw [ih _ hr]
        show _ = pure (closL r env.cells (if p.2 == .free then _ else _))
        rw [if_pos hb, ha]; rfl
      · have hb : ¬ (p.2 == NameKind.free) = true := by intro z; exact hf (by cases hk : p.2 <;> simp_all)
        rw [if_neg hb, pure_bind]
        show forIn r _ _ = _
        rw [ih _ hr]
        show _ = pure (closL r env.cells (if p.2 == .free then _ else _))
        rw [if_neg hb]
  rw [key l [] h]
  rfl
theorem free_eq {k : NameKind} (h : (k == NameKind.free) = true) : k = NameKind.free := by cases k <;> first | rfl | cases h
theorem closL_sub {cells : List (Str × Addr)} : ∀ (l : List (Str × NameKind)) (cs : List (Str × Addr)), (∀ p ∈ l, p.2 = NameKind.free → (cells.lookup p.1).isSome = true) →
    (∀ x c, cs.lookup x = some c → cells.lookup x = some c) → ∀ x c, (closL l cells cs).lookup x = some c → cells.lookup x = some c
  | [], cs, _, h, x, c, e => h x c e
  | p :: r, cs, hp, h, x, c, e => by
    refine closL_sub r _ (fun q hq => hp q (List.mem_cons_of_mem _ hq)) (fun y d hy => ?_) x c e
    by_cases hb : (p.2 == NameKind.free) = true
    · rw [if_pos hb, List.lookup_cons] at hy
      cases hyp : y == p.1 with
      | true =>
        rw [hyp] at hy
        have hy' : (cells.lookup p.1).getD 0 = d := Option.some.inj hy
        obtain ⟨a, ha⟩ := Option.isSome_iff_exists.mp (hp p List.mem_cons_self (free_eq hb))
        rw [ha] at hy'
        rw [eq_of_beq hyp, ha, ← hy']; rfl
      | false => rw [hyp] at hy; exact h y d hy
    · rw [if_neg hb] at hy; exact h y d hy
theorem closL_has {cells : List (Str × Addr)} : ∀ (l : List (Str × NameKind)) (cs : List (Str × Addr)) (x : Str), ((x, NameKind.free) ∈ l ∨ (cs.lookup x).isSome = true) → ((closL l cells cs).lookup x).isSome = true
  | [], cs, x, h => by
    rcases h with h | h
    · cases h
    · exact h
  | p :: r, cs, x, h => by
    refine closL_has r _ x ?_
    rcases h with h | h
    · rcases List.mem_cons.mp h with rfl | h
      · right
        show (List.lookup x (if (NameKind.free == NameKind.free) = true then _ else _)).isSome = true
        rw [if_pos (by rfl), List.lookup_cons, beq_self_eq_true]
        rfl
      · exact .inl h
    · right
      by_cases hb : (p.2 == NameKind.free) = true
      · rw [if_pos hb, List.lookup_cons]
        cases hx : x == p.1 with
        | true => rfl
        | false => exact h
      · rw [if_neg hb]; exact h
def cxIn (X : Cx) (N : List Str) (scope : Scope) (C : Addr) (s : Shared) (H : Hp) (fp : List Addr) : Cx :=
  { X with N := N, s₀ := s, H₀ := H, env := compEnvC scope (closL scope.names X.env.cells []) C X.env, outer := X.stack, stack := X.stack, ex := fp, fn := fun _ => false, pn := [], xe := fun _ _ => False }
def sgIn (M : Nat) (frees : List Nat) (σ : St) : St := List.replicate M none ++ frees.map fun j => (σ[j]?).getD none
structure BlkOk (X : Cx) (N : List Str) (M : Nat) (frees : List Nat) (scope : Scope) : Prop where
  kind : scope.kind = .function
  nocell : ∀ y ∈ scope.names, y.2 ≠ .cell
  own : ∀ y ∈ scope.names, y.2 = .local → scope.names.lookup y.1 = some .local
  cells : ∀ p ∈ scope.names, p.2 = NameKind.free → (X.env.cells.lookup p.1).isSome = true
  fr : ∀ (k : Nat) (x : Str), N[M + k]? = some x → ∃ j, frees[k]? = some j ∧ X.N[j]? = some x ∧ (X.env.kindOf x = some .cell ∨ X.env.kindOf x = some .free) ∧ scope.names.lookup x = some .free
  len : N.length = M + frees.length
theorem relabel_free {env : Env} {x : Str} : ∀ {names : List (Str × NameKind)} {k : NameKind}, (∀ y ∈ names, y.2 ≠ .cell) → (k = .cell ∨ k = .free) →
    (names.map fun (n, k) => if (k == NameKind.free && env.scope.kind == .function && env.kindOf n == some .cell) then (n, NameKind.cell) else (n, k)).lookup x = some k → (x, NameKind.free) ∈ names
  | [], _, _, _, h => by cases h
  | (n, k0) :: r, k, hc, hk, h => by
    have ih := @relabel_free env x r k (fun y hy => hc y (List.mem_cons_of_mem _ hy)) hk
    rw [List.map_cons] at h
    by_cases hb : (k0 == NameKind.free && env.scope.kind == .function && env.kindOf n == some .cell) = true
    · have hf : k0 = NameKind.free := free_eq (by rw [Bool.and_eq_true, Bool.and_eq_true] at hb; exact hb.1.1)
      dsimp only at h
      rw [if_pos hb, List.lookup_cons] at h
      cases hx : x == n with
      | true => rw [eq_of_beq hx, hf]; exact List.mem_cons_self
      | false => rw [hx] at h; exact List.mem_cons_of_mem _ (ih h)
    · dsimp only at h
      rw [if_neg hb, List.lookup_cons] at h
      cases hx : x == n with
      | true =>
        rw [hx] at h
        have e : k0 = k := Option.some.inj h
        have z := hc (n, k0) List.mem_cons_self
        rw [eq_of_beq hx]
        rcases hk with rfl | rfl
        · exact absurd e z
        · rw [e]; exact List.mem_cons_self
      | false => rw [hx] at h; exact List.mem_cons_of_mem _ (ih h)
theorem relabel_look {env : Env} {x : Str} : ∀ {names : List (Str × NameKind)}, names.lookup x = some .free →
    (names.map fun (n, k) => if (k == NameKind.free && env.scope.kind == .function && env.kindOf n == some .cell) then (n, NameKind.cell) else (n, k)).lookup x = some .cell ∨
    (names.map fun (n, k) => if (k == NameKind.free && env.scope.kind == .function && env.kindOf n == some .cell) then (n, NameKind.cell) else (n, k)).lookup x = some .free
  | [], h => by cases h
  | (n, k0) :: r, h => by
    have ih := @relabel_look env x r
    rw [List.map_cons]
    dsimp only
    rw [List.lookup_cons] at h
    by_cases hb : (k0 == NameKind.free && env.scope.kind == .function && env.kindOf n == some .cell) = true
    · rw [if_pos hb, List.lookup_cons]
      cases hx : x == n with
      | true => exact .inl rfl
      | false => rw [hx] at h; exact ih h
    · rw [if_neg hb, List.lookup_cons]
      cases hx : x == n with
      | true => rw [hx] at h; exact .inr h
      | false => rw [hx] at h; exact ih h
section
variable {X : Cx} {pins : List (Addr × Obj)} {σ : St} {H : Hp} {s : Shared} {N : List Str} {M : Nat} {frees : List Nat} {scope : Scope} {fp : List Addr}
theorem Inv.enter {h1 : Heap} {C D tk : Nat} {m1 : Str → Option Value} (I : Inv X pins σ H s) (B : BlkOk X N M frees scope) (f : ∀ b ∈ fp, FpOk X pins H b) (lt : ∀ b ∈ fp, b < s.heap.objs.size)
    (hC : s.heap.objs.size < C) (hD : s.heap.objs.size ≤ D) (hDC : C ≠ D) (k : ∀ b u, s.heap.get? b = some u → h1.get? b = some u) (hns : h1.Ns C m1)
    (hl : h1.get? D = some { cls := .type "list", data := .seq ([] : List Value).toArray }) :
    Inv (cxIn X N scope C s H fp) [] (sgIn M frees σ) (upd H D (.lst [])) { s with heap := h1, toks := tk } := by
  have sub := closL_sub (cells := X.env.cells) scope.names [] B.cells (fun x c e => by cases e)
  have hfr : H D = none := I.hok.fresh hD
  have hfc : H C = none := I.hok.fresh (Nat.le_of_lt hC)
  have clt : ∀ x c, (closL scope.names X.env.cells []).lookup x = some c → c < s.heap.objs.size := fun x c e => by
    obtain ⟨v, q⟩ := I.cell x c (sub x c e)
    exact q.lt
  refine ⟨⟨I.ok.mod, B.kind, I.ok.glob, I.ok.blt, Nat.le_of_lt hC, fun x y c e1 e2 => I.ok.inj x y c (sub x c e1) (sub y c e2), fun x hx => ?_, fun x c e => absurd e (by intro z; cases z), I.ok.hd, I.ok.frames, .inl rfl, fun b hb => ?_, I.bs, Nat.le_trans I.ok.bsz I.sz, fun b o e hb => ?_,
    fun b hb hf => ?_, I.stack, I.stkFree⟩, rfl, I.bare, Un.laid k hD hfr, ⟨m1, hns, fun i x v e1 e2 e3 => ?_⟩, fun x c e => ?_, ?_, fun x c e => ?_, fun p hp => absurd (show p ∈ ([] : List (Addr × Obj)) from hp) (by simp), I.hok.laid k hD ⟨Nat.zero_le _, [], 0, .nil, hl⟩, ?_⟩
  · have hm : (x, NameKind.free) ∈ scope.names := by
      rcases hx with hx | hx
      · exact relabel_free B.nocell (.inl rfl) hx
      · exact relabel_free B.nocell (.inr rfl) hx
    exact Option.isSome_iff_exists.mp (closL_has scope.names [] x (.inl hm))
  · exact ⟨Nat.ne_of_lt (Nat.lt_trans (lt b hb) hC), fun x c e => (f b hb).2.2.2.2.1 x c (sub x c e)⟩
  · rcases (f b hb).2.2.2.1 with z | z
    · exact I.ok.noex b o e z
    · exact absurd (Nat.lt_of_lt_of_le (Heap.lt_size e) (Nat.le_trans I.ok.bsz z)) (Nat.lt_irrefl _)
  · rcases List.mem_cons.mp (I.stkSub b hf) with z | z
    · exact (f b hb).2.1 z
    · exact (f b hb).2.2.1 z
  · have hi : M ≤ i := by
      rcases Nat.lt_or_ge i M with z | z
      · unfold sgIn at e2
        rw [List.getElem?_append_left (by simpa using z), List.getElem?_replicate, if_pos z] at e2
        cases e2
      · exact z
    obtain ⟨q, rfl⟩ : ∃ q, i = M + q := ⟨i - M, by omega⟩
    obtain ⟨j, h1', h2', h3', h4'⟩ := B.fr q x e1
    have ev : σ[j]? = some (some v) := by
      unfold sgIn at e2
      rw [List.getElem?_append_right (by simp), List.length_replicate, Nat.add_sub_cancel_left, List.getElem?_map, h1'] at e2
      cases e : σ[j]? with
      | none => rw [Option.map_some, e] at e2; cases e2
      | some o => rw [Option.map_some, e] at e2; exact e2
    obtain ⟨m, hn, hl'⟩ := I.loc
    have vis : Vis X.env.scope x := by
      rcases h3' with z | z
      · exact .inr (.inl z)
      · exact .inr (.inr z)
    obtain ⟨u, ru, lk⟩ := hl' j x v h2' ev vis
    refine ⟨u, ru, .inr ?_⟩
    rcases lk with ⟨z, _⟩ | ⟨_, c, ec, ic⟩
    · rcases h3' with y | y <;> (rw [z] at y; cases y)
    · obtain ⟨c', ec'⟩ := Option.isSome_iff_exists.mp (closL_has (cells := X.env.cells) scope.names [] x (.inl (PySem.mem_of_lookup h4')))
      have : c' = c := Option.some.inj ((sub x c' ec').symm.trans ec)
      subst this
      exact ⟨relabel_look h4', c', ec', ic.keeps k⟩
  · obtain ⟨v, q⟩ := I.cell x c (sub x c e)
    exact ⟨v, q.keeps k⟩
  · show upd H D (.lst []) C = none
    rw [upd_ne hDC]; exact hfc
  · show upd H D (.lst []) c = none
    rw [upd_ne (Nat.ne_of_lt (Nat.lt_of_lt_of_le (clt x c e) hD))]
    exact I.freeC x c (sub x c e)
  · show (sgIn M frees σ).length = N.length
    unfold sgIn
    rw [List.length_append, List.length_replicate, List.length_map, B.len]
end
end L2
namespace L2
open PySem PySem.Spec PyProof.Rows
section
variable {prog : Program} {w : World} {A : Around} {R : Result → Shared → Prop} {s : Shared}
theorem compLoop_by {elt target iter : Expr} {ifs : List Expr} {scope : Scope} {pos : Pos} {it acc : Value} {env : Env} (J : Nat → Shared → Prop)
    (turn : ∀ n s, J n s → wpAny (model prog w) A (pyNext it) (fun r s1 => match r with
      | none => R (.ok .next) s1
      | some v => wpAny (model prog w) A (letOwnedTupleGo target it v) (fun _ s2 => wpAny (model prog w) A (assign target env v) (fun _ s3 =>
          wpAny (model prog w) A (forIn ifs true fun c r => if r = true then do let ok ← isTrue c env (eval c env); pure (ForInStep.yield ok) else pure (ForInStep.yield r)) (fun ok s4 =>
            if ok = true then wpAny (model prog w) A (eval elt env) (fun x s5 => wpAny (model prog w) A (call (.builtin "list.append") [acc, x]) (fun _ s6 => ∃ m, m < n ∧ J m s6) (fun _ _ => False) s5) (fun _ _ => False) s4
            else ∃ m, m < n ∧ J m s4) (fun _ _ => False) s3) (fun _ _ => False) s2) (fun _ _ => False) s1) (fun _ _ => False) s)
    (n : Nat) (h : J n s) : codeAny (model prog w) A (.compLoop (.ListComp elt [⟨target, iter, ifs, 0⟩] scope pos) 0 it acc env) R s := by
  refine codeAny_loop rfl J (fun n s hJ => ?_) n h
  show wpAny _ A ((compTurn (.ListComp elt [⟨target, iter, ifs, 0⟩] scope pos) 0 it acc env).onRaise (fun x => do noteFrame x env; theTreesLotGoes x)) _ _ s
  refine wpAny_noted (wpAny_mono (Q := fun fin s' => match fin with | .done f => R (.ok f) s' | .again c' => c' = .compLoop (.ListComp elt [⟨target, iter, ifs, 0⟩] scope pos) 0 it acc env ∧ ∃ m, m < n ∧ J m s') ?_ (fun _ _ q => q) fun _ _ (z : False) => z.elim)
  rw [compTurn_list]
  refine wpAny_bind (wpAny_standAt (wpAny_bind (wpAny_mono (turn n s hJ) (fun r s1 h1 => ?_) fun _ _ q => q)))
  cases r with
  | none => exact wpAny_pure h1
  | some v =>
    refine wpAny_bind (wpAny_mono h1 (fun _ s2 h2 => wpAny_bind (wpAny_mono h2 (fun _ s3 h3 => wpAny_bind (wpAny_mono h3 (fun ok s4 h4 => ?_) fun _ _ q => q)) fun _ _ q => q)) fun _ _ q => q)
    cases ok with
    | false => exact wpAny_pure ⟨rfl, h4⟩
    | true => exact wpAny_bind (wpAny_bind (wpAny_mono h4 (fun x s5 h5 => wpAny_bind (wpAny_mono h5 (fun _ s6 h6 => wpAny_pure (wpAny_pure ⟨rfl, h6⟩)) fun _ _ q => q)) fun _ _ q => q))
end
def PTs (X : Cx) (ifs : List Expr) (t : TT) : Prop :=
  ∀ (pins : List (Addr × Obj)) (s : Shared) (σ : St) (H : Hp) (Q : Bool → Hp → Prop), Inv X pins σ H s → t σ H Q →
    wpAny (model X.prog X.w) X.A (forIn ifs true fun c r => if r = true then do let ok ← isTrue c X.env (eval c X.env); pure (ForInStep.yield ok) else pure (ForInStep.yield r)) (TP X pins σ Q) X.xe s
theorem pts_nil {X : Cx} : PTs X [] (fun _ H Q => Q true H) := fun _ _ _ H _ I q => wpAny_tests_nil ⟨H, I, q⟩
def tComp (M : Nat) (frees : List Nat) (wi : TI) (g : TG) (tc : TT) (te : TE) : TE := fun σ H Q => wi σ H fun J H1 => ∀ D, H1 D = none →
  ∃ W : Nat → Nat → St → Hp → Prop, (∃ m, W 0 m (sgIn M frees σ) (upd H1 D (.lst []))) ∧ ∀ i m σ' H', W i m σ' H' →
    (J.stop i H' ∧ Q (.ref D) H') ∨ (J.go i H' ∧ ∀ x H2, J.yld i H' x H2 → g x σ' H2 fun σ2 H3 => tc σ2 H3 fun b H4 =>
      if b = true then te σ2 H4 fun v H5 => ∃ acc, H5 D = some (.lst acc) ∧ acc.length < sizeLine ∧ ∃ m', m' < m ∧ W (i + 1) m' σ2 (upd H5 D (.lst (acc ++ [v])))
      else ∃ m', m' < m ∧ W (i + 1) m' σ2 H4)
section
variable {X : Cx} {N : List Str} {M : Nat} {frees : List Nat} {scope : Scope} {tg iter elt : Expr} {ifs : List Expr} {pos : Pos} {wi : TI} {g : TG} {tc : TT} {te : TE}
theorem comp_blk (hc : X.calm = true) (B : BlkOk X N M frees scope)
    (hb : ∀ C s H fp, PG (cxIn X N scope C s H fp) tg g ∧ PTs (cxIn X N scope C s H fp) ifs tc ∧ PE (cxIn X N scope C s H fp) elt te)
    {pins : List (Addr × Obj)} {σ : St} {Q : VK} {s2 : Shared} {itv : Value} {E : Value → Shared → Prop} {RR : Value → Addr → Result → Shared → Prop}
    (h2 : PIE X pins σ tg (fun J H1 => ∀ D, H1 D = none →
      ∃ W : Nat → Nat → St → Hp → Prop, (∃ m, W 0 m (sgIn M frees σ) (upd H1 D (.lst []))) ∧ ∀ i m σ' H', W i m σ' H' →
        (J.stop i H' ∧ Q (.ref D) H') ∨ (J.go i H' ∧ ∀ x H2, J.yld i H' x H2 → g x σ' H2 fun σ2 H3 => tc σ2 H3 fun b H4 =>
          if b = true then te σ2 H4 fun v H5 => ∃ acc, H5 D = some (.lst acc) ∧ acc.length < sizeLine ∧ ∃ m', m' < m ∧ W (i + 1) m' σ2 (upd H5 D (.lst (acc ++ [v])))
          else ∃ m', m' < m ∧ W (i + 1) m' σ2 H4)) itv s2)
    (hR : ∀ D C s' H' m, Inv X pins σ H' s' → Q (.ref D) H' → s'.heap.Ns C m → H' C = none → C ≠ X.env.locals → X.s₀.heap.objs.size ≤ C → (∀ x c, X.env.cells.lookup x = some c → c ≠ C) → (∀ p ∈ X.pn ++ pins, p.1 ≠ C) → RR (.ref D) C (.ok .next) s') :
    wpAny (model X.prog X.w) X.A (newList []) (fun acc s3 => wpAny (model X.prog X.w) X.A (newFunctionEnv scope X.env.globals (closL scope.names X.env.cells []) [] X.env.qual none .none (some X.env)) (fun cenv s4 =>
      codeAny (model X.prog X.w) X.A (.compStart (.ListComp elt [⟨tg, iter, ifs, 0⟩] scope pos) 0 itv acc { cenv with scope := relabel scope X.env }) (RR acc cenv.locals) s4) E s3) E s2 := by
  obtain ⟨it, fp, tn, J, H2, e, I2, T, st2, f2, q⟩ := h2
  subst e
  refine wpAny_newObj_type (wpAny_newFunctionEnv B.nocell (by intro y hy; simp at hy) (fun h1 hns hsb => ?_) B.kind)
  dsimp only at hns hsb ⊢
  generalize hP : s2.heap.push { cls := .type "list", dict := none, data := .seq ([] : List Value).toArray } = P1 at hns hsb ⊢
  have hsz : P1.objs.size = s2.heap.objs.size + 1 := by rw [← hP, Heap.size_push]
  have below : ∀ b, b < s2.heap.objs.size → b ≠ P1.objs.size := fun b z => by rw [hsz]; exact Nat.ne_of_lt (Nat.lt_succ_of_lt z)
  have keep : ∀ b u, s2.heap.get? b = some u → h1.get? b = some u := fun b u z => hsb.extBut b u (below b (Heap.lt_size z)) (Heap.get?_push_of_some _ (hP ▸ Heap.get?_push_of_some _ z))
  have hne : s2.heap.objs.size ≠ P1.objs.size := by rw [hsz]; exact Nat.ne_of_lt (Nat.lt_succ_self _)
  have hl : h1.get? s2.heap.objs.size = some { cls := .type "list", data := .seq ([] : List Value).toArray } := hsb.extBut _ _ hne (Heap.get?_push_of_some _ (hP ▸ Heap.get?_push_size _ rfl))
  have lt2 : ∀ b ∈ fp, b < s2.heap.objs.size := fun b z => by
    obtain ⟨o, eo, _⟩ := T.obj _ _ st2 b z
    exact Heap.lt_size eo
  have hD0 : H2 s2.heap.objs.size = none := I2.hok.fresh (Nat.le_refl _)
  obtain ⟨W, ⟨m0, w0⟩, turn⟩ := q s2.heap.objs.size hD0
  have I4 := I2.enter (N := N) (M := M) (frees := frees) (scope := scope) (fp := fp) (h1 := h1) (C := P1.objs.size) (D := s2.heap.objs.size) (tk := s2.toks + ([] : List (Str × Value)).length) B f2 lt2 (by rw [hsz]; exact Nat.lt_succ_self _) (Nat.le_refl _) (Ne.symm hne) keep hns hl
  have hcx : ∀ (C : Addr), (cxIn X N scope C s2 H2 fp).calm = true := fun _ => hc
  have stat : ∀ {H' : Hp}, (∀ b ∈ fp, H' b = none) → ∀ b ∈ fp, FpOk (cxIn X N scope P1.objs.size s2 H2 fp) [] H' b := fun {H'} hn b z => by
    refine ⟨hn b z, below b (lt2 b z), fun y => ?_, .inl z, fun x c y => ?_, fun p y => absurd (show p ∈ ([] : List (Addr × Obj)) from y) (by simp)⟩
    · rcases List.mem_cons.mp (I2.stkSub b y) with u | u
      · exact (f2 b z).2.1 u
      · exact (f2 b z).2.2.1 u
    · exact (f2 b z).2.2.2.2.1 x c (closL_sub (cells := X.env.cells) scope.names [] B.cells (fun x c e => by cases e) x c y)
  have fr4 : ∀ b ∈ fp, (upd H2 s2.heap.objs.size (HO.lst [])) b = none := fun b z => by
    rw [upd_ne (Nat.ne_of_lt (lt2 b z))]; exact (f2 b z).1
  have st4 : tn 0 h1 := T.keep _ _ _ st2 fun b _ o z => keep b o z
  have fin : ∀ (s' : Shared) (σ' : St) (H' : Hp), Inv (cxIn X N scope P1.objs.size s2 H2 fp) [] σ' H' s' → Q (.ref s2.heap.objs.size) H' → RR (.ref s2.heap.objs.size) P1.objs.size (.ok .next) s' := fun s' σ' H' I' q' => by
    obtain ⟨m, hm, _⟩ := I'.loc
    have u' : Un (frs X.stack) fp H2 H' s2.heap s'.heap := I'.base
    have I0 : Inv X pins σ H' s' := I2.call' (ch := fp) I'.os u' I'.hok I'.bare fun b z => ⟨(f2 b z).2.2.2.1, (f2 b z).2.1, (f2 b z).2.2.2.2.1, (f2 b z).2.2.2.2.2⟩
    refine hR _ _ s' H' m I0 q' hm I'.free (Nat.ne_of_gt (Nat.lt_of_lt_of_le I2.lt (by rw [hsz]; exact Nat.le_succ _))) (Nat.le_trans I2.sz (by rw [hsz]; exact Nat.le_succ _)) (fun x c z => ?_) fun p z => ?_
    · obtain ⟨v, y⟩ := I2.cell x c z
      exact below c y.lt
    · exact below p.1 (Heap.lt_size (I2.pin p z).1)
  have loop : ∀ s4 : Shared, s4 = { s2 with heap := h1, toks := s2.toks + ([] : List (Str × Value)).length } →
      codeAny (model X.prog X.w) X.A (.compLoop (.ListComp elt [⟨tg, iter, ifs, 0⟩] scope pos) 0 (.ref it) (.ref s2.heap.objs.size) (compEnvC scope (closL scope.names X.env.cells []) P1.objs.size X.env)) (RR (.ref s2.heap.objs.size) P1.objs.size) s4 := by
    rintro s4 rfl
    refine compLoop_by (fun n s' => ∃ i σ' H', Inv (cxIn X N scope P1.objs.size s2 H2 fp) [] σ' H' s' ∧ tn i s'.heap ∧ (∀ b ∈ fp, H' b = none) ∧ W i n σ' H') ?_ m0 ⟨0, _, _, I4, st4, fr4, w0⟩
    rintro n s5 ⟨i, σ5, H5, I5, st5, fr5, w5⟩
    rcases turn i n σ5 H5 w5 with ⟨stop, qn⟩ | ⟨go, step⟩
    · refine thn (T.done (cxIn X N scope P1.objs.size s2 H2 fp) rfl rfl rfl hc i [] s5 σ5 H5 _ I5 (stat fr5) st5 stop) fun r s6 ⟨hr, I6⟩ => ?_
      subst hr
      exact fin s6 σ5 H5 I6 qn
    · refine thn (T.item (cxIn X N scope P1.objs.size s2 H2 fp) rfl rfl rfl hc i [] s5 σ5 H5 _ I5 (stat fr5) st5 go) fun r s6 ⟨u, hr, h6⟩ => ?_
      subst hr
      refine thn h6 fun _ s7 ⟨x, H7, I7, r7, y7, st7, fr7⟩ => ?_
      have I7' := I7.pinned (stat fr7) (T.obj _ _ st7)
      have B7 := hb P1.objs.size s2 H2 fp
      refine thn (B7.1 _ s7 σ5 H7 x u _ I7' r7 (step x H7 y7)) fun _ s8 ⟨σ8, H8, I8, q8⟩ => ?_
      refine thn (B7.2.1 _ s8 σ8 H8 _ I8 q8) fun ok s9 ⟨H9, I9, q9⟩ => ?_
      have again : ∀ {σa : St} {Ha : Hp} {sa : Shared}, Inv (cxIn X N scope P1.objs.size s2 H2 fp) ([] ++ pinsAt fp s7.heap) σa Ha sa → (∃ m', m' < n ∧ W (i + 1) m' σa Ha) →
          ∃ m, m < n ∧ ∃ i σ' H', Inv (cxIn X N scope P1.objs.size s2 H2 fp) [] σ' H' sa ∧ tn i sa.heap ∧ (∀ b ∈ fp, H' b = none) ∧ W i m σ' H' := fun {σa Ha sa} Ia ⟨m', hm, wa⟩ => by
        refine ⟨m', hm, i + 1, σa, Ha, Ia.unpinned, T.keep _ _ _ st7 fun b z o eo => (Ia.pin (b, o) (List.mem_append_right _ (List.mem_append_right _ (mem_pinsAt z eo)))).1, fun b z => ?_, wa⟩
        obtain ⟨o, eo, d⟩ := T.obj _ _ st7 b z
        exact (Ia.pin (b, o) (List.mem_append_right _ (List.mem_append_right _ (mem_pinsAt z eo)))).2.1
      cases ok with
      | false => exact again I9 q9
      | true =>
        rw [if_pos rfl]
        refine thn (B7.2.2 _ s9 σ8 H9 _ I9 q9) fun y s10 ⟨v, H10, I10, r10, acc, ha, hz, m', hm, wn⟩ => ?_
        refine thn (mt_append (X := cxIn X N scope P1.objs.size s2 H2 fp) _ s10 σ8 H10 (.ref s2.heap.objs.size) [v] (.ref s2.heap.objs.size) [y] (fun _ Hn => ∃ m', m' < n ∧ W (i + 1) m' σ8 Hn) I10 rfl (.cons r10 .nil) ⟨_, acc, v, rfl, rfl, ha, hz, m', hm, wn⟩) fun _ s11 ⟨_, H11, I11, _, q11⟩ => ?_
        exact again I11 q11
  exact codeAny_compStart_list (loop _ rfl) (T.self _ 0 _ _ _ st4 (loop _ rfl))
theorem pe_comp (hc : X.calm = true) (B : BlkOk X N M frees scope) (hi : PI X tg iter wi)
    (hb : ∀ C s H fp, PG (cxIn X N scope C s H fp) tg g ∧ PTs (cxIn X N scope C s H fp) ifs tc ∧ PE (cxIn X N scope C s H fp) elt te)
    (hs : ∀ x, foldedSetIterable iter X.env x = pure x := by intro _; rfl) : PE X (.ListComp elt [⟨tg, iter, ifs, 0⟩] scope pos) (tComp M frees wi g tc te) := by
  intro pins s σ H Q I h
  rw [eval_ListComp]
  refine wpAny_comprehension_free (use := none) rfl hs (closureFor_is B.cells) B.kind B.own (wpAny_mono (hi pins s σ H _ I h) (fun v s1 h1 => wpAny_mono h1 (fun itv s2 h2 => ?_) fun _ _ q => q) fun _ _ q => q)
  refine comp_blk (RR := fun acc C => compPost (model X.prog X.w) X.A X.xe none (EP X pins σ Q) acc C) hc B hb h2 fun D C s' H' m I' q' hm hC h1 h3 h4 h5 => ?_
  exact ⟨m, hm, fun h' hs' => ⟨.ref D, H', I'.turned (t' := s'.toks) (fun b o z y => hs'.extBut b o z y) hC h1 (.inr h3) h4 h5, rfl, q'⟩⟩
theorem ps_setc {i : Nat} {x : Str} {pos' spos : Pos} (hc : X.calm = true) (hN : X.N.Nodup) (hi' : X.N[i]? = some x) (hx : X.env.scope.names.lookup x = some .local) (B : BlkOk X N M frees scope) (hi : PI X tg iter wi)
    (hb : ∀ C s H fp, PG (cxIn X N scope C s H fp) tg g ∧ PTs (cxIn X N scope C s H fp) ifs tc ∧ PE (cxIn X N scope C s H fp) elt te)
    (hsw : swapsWith (.ListComp elt [⟨tg, iter, ifs, 0⟩] scope pos) (some (.Name x pos')) spos.line X.env = pure true := by rfl)
    (hs : ∀ x, foldedSetIterable iter X.env x = pure x := by intro _; rfl) : PS X (.Assign [.Name x pos'] (.ListComp elt [⟨tg, iter, ifs, 0⟩] scope pos) spos) (tAsg (tComp M frees wi g tc te) (gName i)) := by
  intro pins s σ H D I h
  rw [exec_Assign_Name_used _ _ _ _ hsw]
  refine wpAny_bind (wpAny_standAt (wpAny_bind ?_))
  show wpAny _ X.A (do let _ ← comprehension (.ListComp elt [⟨tg, iter, ifs, 0⟩] scope pos) scope X.env _ (newList []) false (eval iter X.env) (some (assign (.Name x pos') X.env))) _ _ s
  refine wpAny_bind (wpAny_mono (wpAny_comprehension_free (use := some (assign (.Name x pos') X.env)) (Q := fun _ s' => SP X pins D .next s') rfl hs (closureFor_is B.cells) B.kind B.own
    (wpAny_mono (hi pins s σ H _ I h) (fun v s1 h1 => wpAny_mono h1 (fun itv s2 h2 => ?_) fun _ _ q => q) fun _ _ q => q)) (fun _ s' hq => wpAny_pure (wpAny_pure hq)) fun _ _ q => q)
  refine comp_blk (Q := fun y H1 => gName i y σ H1 D.nx) (RR := fun acc C => compPost (model X.prog X.w) X.A X.xe (some (assign (.Name x pos') X.env)) (fun _ s' => SP X pins D .next s') acc C) hc B hb h2 fun Dd C s' H' m I' q' hm hC h1 h3 h4 h5 => ?_
  show wpAny _ X.A (assign (.Name x pos') X.env (.ref Dd)) _ _ _
  refine wpAny_assign_Name (store_ok2 I' hN hi' (.inl hx) (v := .ref Dd) (u := .ref Dd) rfl (fun s'' I'' ⟨a, hsb, ha⟩ => ?_) (.inr hx))
  have hCa : C ≠ a := by
    rcases ha with rfl | ha
    · exact h1
    · exact Ne.symm (h4 x a ha)
  refine ⟨m, hm.sameBut hsb hCa, fun h' hs' => ⟨_, H', I''.turned (t' := s''.toks) (fun b o z y => hs'.extBut b o z y) hC h1 (.inr h3) h4 h5, q'⟩⟩
end
end L2
set_option maxRecDepth 100000
namespace Hk
open PySem L2
inductive D where
  | non | bl (b : Bool) | int (i : Int) | str (x : Str) | lst (xs : List D) | tup (xs : List D) | scr (ns : List Int) | exc (c : Str) | dic (ks : List Int) (xs : List D)
def kvsOf : List Int → List V → List (Key × V)
  | k :: ks, v :: vs => (.inl k, v) :: kvsOf ks vs
  | _, _ => []
def excP (a C : Addr) (h : Heap) : Prop := ∃ o, h.get? a = some o ∧ o.cls = .ref C
mutual
def Rep (K : PySem.W.Frag) (H : Hp) : D → V → Prop
  | .non, v => v = .non
  | .bl b, v => v = .bl b
  | .int i, v => v = .int i
  | .str x, v => v = .str x
  | .lst ds, v => ∃ a vs, v = .ref a ∧ H a = some (.lst vs) ∧ Reps K H ds vs
  | .tup ds, v => ∃ a vs, v = .ref a ∧ H a = some (.tup vs) ∧ Reps K H ds vs
  | .scr ns, v => ∃ a, v = .ref a ∧ SqL K H a (ns.map V.int)
  | .exc c, v => ∃ a C, v = .ref a ∧ PySem.W.nsIn K mainGlobals c = some (some (.ref C)) ∧ H a = some (.ext (excP a C))
  | .dic ks ds, v => ∃ a vs, v = .ref a ∧ (∃ o, H a = some (.frz o (.dK (kvsOf ks vs)))) ∧ ks.length = ds.length ∧ Reps K H ds vs
def Reps (K : PySem.W.Frag) (H : Hp) : List D → List V → Prop
  | [], vs => vs = []
  | d :: ds, vs => ∃ v r, vs = v :: r ∧ Rep K H d v ∧ Reps K H ds r
end
mutual
theorem Rep.mono {K : PySem.W.Frag} {H H' : Hp} (e : Same H H') : ∀ {d : D} {v : V}, Rep K H d v → Rep K H' d v
  | .non, _, h => h
  | .bl _, _, h => h
  | .int _, _, h => h
  | .str _, _, h => h
  | .lst _, _, ⟨a, vs, h1, h2, h3⟩ => ⟨a, vs, h1, e _ _ h2, Reps.mono e h3⟩
  | .tup _, _, ⟨a, vs, h1, h2, h3⟩ => ⟨a, vs, h1, e _ _ h2, Reps.mono e h3⟩
  | .scr _, _, ⟨a, h1, h2⟩ => ⟨a, h1, e.seq h2⟩
  | .exc _, _, ⟨a, C, h1, h2, h3⟩ => ⟨a, C, h1, h2, e _ _ h3⟩
  | .dic _ _, _, ⟨a, vs, h1, ⟨o, h2⟩, h4, h3⟩ => ⟨a, vs, h1, ⟨o, e _ _ h2⟩, h4, Reps.mono e h3⟩
theorem Reps.mono {K : PySem.W.Frag} {H H' : Hp} (e : Same H H') : ∀ {ds : List D} {vs : List V}, Reps K H ds vs → Reps K H' ds vs
  | [], _, h => h
  | _ :: _, _, ⟨v, r, h1, h2, h3⟩ => ⟨v, r, h1, Rep.mono e h2, Reps.mono e h3⟩
end
section
variable {K : PySem.W.Frag} {H : Hp}
theorem Reps.nil : Reps K H [] [] := rfl
theorem Reps.cons {d : D} {ds : List D} {v : V} {vs : List V} (h : Rep K H d v) (t : Reps K H ds vs) : Reps K H (d :: ds) (v :: vs) := ⟨v, vs, rfl, h, t⟩
theorem Reps.len : ∀ {ds : List D} {vs : List V}, Reps K H ds vs → ds.length = vs.length
  | [], _, h => by cases (show _ = _ from h); rfl
  | _ :: _, _, ⟨v, r, h1, _, h3⟩ => by rw [h1, List.length_cons, List.length_cons, Reps.len h3]
theorem Reps.app : ∀ {ds es : List D} {vs us : List V}, Reps K H ds vs → Reps K H es us → Reps K H (ds ++ es) (vs ++ us)
  | [], _, _, _, h, t => by cases (show _ = _ from h); exact t
  | _ :: _, _, _, _, ⟨v, r, h1, h2, h3⟩, t => by rw [h1]; exact ⟨v, _, rfl, h2, Reps.app h3 t⟩
theorem Reps.get : ∀ {ds : List D} {vs : List V} {i : Nat} {d : D}, Reps K H ds vs → ds[i]? = some d → ∃ v, vs[i]? = some v ∧ Rep K H d v
  | [], _, _, _, _, e => by simp at e
  | _ :: _, _, 0, _, ⟨v, r, h1, h2, h3⟩, e => by simp at e; subst e; rw [h1]; exact ⟨v, rfl, h2⟩
  | _ :: _, _, i + 1, d, ⟨v, r, h1, h2, h3⟩, e => by
    obtain ⟨u, e1, e2⟩ := Reps.get (i := i) (d := d) h3 (by simpa using e)
    exact ⟨u, by rw [h1]; simpa using e1, e2⟩
theorem Reps.take : ∀ {ds : List D} {vs : List V} (n : Nat), Reps K H ds vs → Reps K H (ds.take n) (vs.take n)
  | _, _, 0, _ => rfl
  | [], _, _ + 1, h => by cases (show _ = _ from h); rfl
  | _ :: _, _, n + 1, ⟨v, r, h1, h2, h3⟩ => by rw [h1]; exact ⟨v, _, rfl, h2, Reps.take n h3⟩
theorem Reps.drop : ∀ {ds : List D} {vs : List V} (n : Nat), Reps K H ds vs → Reps K H (ds.drop n) (vs.drop n)
  | _, _, 0, h => h
  | [], _, _ + 1, h => by cases (show _ = _ from h); rfl
  | _ :: _, _, n + 1, ⟨v, r, h1, h2, h3⟩ => by rw [h1]; exact Reps.drop n h3
theorem Reps.ints : ∀ (ns : List Int), Reps K H (ns.map D.int) (ns.map V.int)
  | [] => rfl
  | n :: r => ⟨.int n, _, rfl, rfl, Reps.ints r⟩
theorem Reps.of_ints : ∀ {ns : List Int} {vs : List V}, Reps K H (ns.map D.int) vs → vs = ns.map V.int
  | [], _, h => h
  | n :: r, _, ⟨v, vs, h1, h2, h3⟩ => by
    have := Reps.of_ints h3
    have e : v = .int n := h2
    rw [h1, this, e]; rfl
theorem Reps.one {d : D} {vs : List V} (h : Reps K H [d] vs) : ∃ v, vs = [v] ∧ Rep K H d v := by
  obtain ⟨v, r, h1, h2, h3⟩ := h
  cases (show r = [] from h3)
  exact ⟨v, h1, h2⟩
theorem Reps.two {d e : D} {vs : List V} (h : Reps K H [d, e] vs) : ∃ v u, vs = [v, u] ∧ Rep K H d v ∧ Rep K H e u := by
  obtain ⟨v, r, h1, h2, h3⟩ := h
  obtain ⟨u, rfl, h4⟩ := Reps.one h3
  exact ⟨v, u, h1, h2, h4⟩
end
structure Ext (G H G' H' : Hp) : Prop where
  gg : Same G G'
  gh : Same G' H'
  hh : Same H H'
  new : ∀ b, G b = none → H b ≠ none → G' b = none
theorem Ext.refl {G H : Hp} (h : Same G H) : Ext G H G H := ⟨Same.refl _, h, Same.refl _, fun _ e _ => e⟩
theorem Ext.trans {G H G1 H1 G2 H2 : Hp} (a : Ext G H G1 H1) (b : Ext G1 H1 G2 H2) : Ext G H G2 H2 := by
  refine ⟨a.gg.trans b.gg, b.gh, a.hh.trans b.hh, fun c h1 h2 => ?_⟩
  have e1 := a.new c h1 h2
  refine b.new c e1 fun z => h2 ?_
  exact a.hh.free z
theorem same_upd {H : Hp} {p : Addr} (h : H p = none) (o : HO) : Same H (upd H p o) := fun b u q => by rw [upd_ne (ne_of_none q h)]; exact q
theorem same_upd2 {G H : Hp} {p : Addr} (e : Same G H) (o : HO) : Same (upd G p o) (upd H p o) := fun b u q => by
  by_cases z : b = p
  · subst z; rw [upd_same] at q ⊢; exact q
  · rw [upd_ne z] at q ⊢; exact e b u q
theorem same_updR {G H : Hp} {p : Addr} (e : Same G H) (h : G p = none) (o : HO) : Same G (upd H p o) := fun b u q => by rw [upd_ne (ne_of_none q h)]; exact e b u q
theorem Ext.lay {G H : Hp} {p : Addr} (e : Same G H) (h : H p = none) (o : HO) : Ext G H (upd G p o) (upd H p o) := by
  have g : G p = none := e.free h
  refine ⟨same_upd g o, same_upd2 e o, same_upd h o, fun b h1 h2 => ?_⟩
  by_cases z : b = p
  · subst z; exact absurd h h2
  · rw [upd_ne z]; exact h1
theorem Ext.hide {G H : Hp} {p : Addr} (e : Same G H) (h : H p = none) (o : HO) : Ext G H G (upd H p o) :=
  ⟨Same.refl _, same_updR e (e.free h) o, same_upd h o, fun _ z _ => z⟩
inductive W where
  | sh (d : D) | ow (ds : List D) | od (ks : List Int) (ds : List D) | pw (ds : List D)
abbrev WSt := List (Option W)
structure Fr where
  hp : Hp
  pin : Nat → Addr
instance : CoeFun Fr fun _ => Hp := ⟨Fr.hp⟩
instance : Coe Fr Hp := ⟨Fr.hp⟩
def fr (H : Hp) : Fr := ⟨H, fun _ => 0⟩
def PwOk (K : PySem.W.Frag) (F : Fr) (G : Hp) (ω : WSt) (σ : St) (H : Hp) : Prop := ∀ (i : Nat) ds, ω[i]? = some (some (.pw ds)) → ∃ vs, σ[i]? = some (some (.ref (F.pin i))) ∧ H (F.pin i) = some (.lst vs) ∧ G (F.pin i) = none ∧ F.hp (F.pin i) = none ∧ Reps K G ds vs ∧
  (∀ (j : Nat) es, ω[j]? = some (some (.pw es)) → F.pin j = F.pin i → j = i) ∧ ∀ (j : Nat) es, ω[j]? = some (some (.ow es)) → σ[j]? ≠ some (some (.ref (F.pin i)))
theorem PwOk.keep {K : PySem.W.Frag} {F : Fr} {G G' : Hp} {ω : WSt} {σ : St} {H H' : Hp} (o : PwOk K F G ω σ H) (e : Ext G H G' H') : PwOk K F G' ω σ H' := fun i ds h => by
  obtain ⟨vs, h1, h2, h3, h4, h5, h6⟩ := o i ds h
  exact ⟨vs, h1, e.hh _ _ h2, e.new _ h3 (by rw [h2]; exact fun z => by cases z), h4, h5.mono e.gg, h6⟩
theorem PwOk.no {K : PySem.W.Frag} {F : Fr} {G : Hp} {ω : WSt} {σ : St} {H : Hp} (h : ∀ (i : Nat) ds, ω[i]? ≠ some (some (.pw ds))) : PwOk K F G ω σ H := fun i ds e => absurd e (h i ds)
structure Own (K : PySem.W.Frag) (G0 : Hp) (H0 : Fr) (G : Hp) (ω : WSt) (σ : St) (H : Hp) : Prop where
  ext : Ext G0 H0.hp G H
  len : ω.length = σ.length
  sh : ∀ (i : Nat) d, ω[i]? = some (some (.sh d)) → ∃ v, σ[i]? = some (some v) ∧ Rep K G d v
  ow : ∀ (i : Nat) ds, ω[i]? = some (some (.ow ds)) → ∃ l vs, σ[i]? = some (some (.ref l)) ∧ H l = some (.lst vs) ∧ G l = none ∧ H0 l = none ∧ Reps K G ds vs
  nd : ∀ (i j : Nat) ds es l, ω[i]? = some (some (.ow ds)) → ω[j]? = some (some (.ow es)) → σ[i]? = some (some (.ref l)) → σ[j]? = some (some (.ref l)) → i = j
  od : ∀ (i : Nat) ks ds, ω[i]? = some (some (.od ks ds)) → ∃ p vs, σ[i]? = some (some (.ref p)) ∧ H p = some (.dK (kvsOf ks vs)) ∧ G p = none ∧ H0 p = none ∧ ks.length = ds.length ∧ Reps K G ds vs ∧
    ∀ (j : Nat) ks' es, ω[j]? = some (some (.od ks' es)) → σ[j]? = some (some (.ref p)) → i = j
  pw : PwOk K H0 G ω σ H
inductive R where
  | sh (d : D) | fr (ds : List D) | vw (ds : List D)
def R.d : R → D
  | .sh d => d
  | .fr ds => .lst ds
  | .vw ds => .lst ds
def RepR (K : PySem.W.Frag) (H G' H' : Hp) : R → V → Prop
  | .sh d, v => Rep K G' d v
  | .fr ds, v => ∃ l vs, v = .ref l ∧ H l = none ∧ G' l = none ∧ H' l = some (.lst vs) ∧ Reps K G' ds vs
  | .vw ds, v => ∃ l vs, v = .ref l ∧ H' l = some (.lst vs) ∧ Reps K G' ds vs
def Vw (K : PySem.W.Frag) (G H : Hp) (d : D) (v : V) : Prop := Rep K G d v ∨ ∃ ds l vs, d = .lst ds ∧ v = .ref l ∧ H l = some (.lst vs) ∧ Reps K G ds vs
theorem Own.keep {K : PySem.W.Frag} {G0 : Hp} {H0 : Fr} {G G' : Hp} {ω : WSt} {σ : St} {H H' : Hp} (o : Own K G0 H0 G ω σ H) (e : Ext G H G' H') : Own K G0 H0 G' ω σ H' := by
  refine ⟨o.ext.trans e, o.len, fun i d h => ?_, fun i ds h => ?_, o.nd, fun i ks ds h => ?_, o.pw.keep e⟩
  · obtain ⟨v, h1, h2⟩ := o.sh i d h
    exact ⟨v, h1, h2.mono e.gg⟩
  · obtain ⟨l, vs, h1, h2, h3, h4, h5⟩ := o.ow i ds h
    exact ⟨l, vs, h1, e.hh _ _ h2, e.new l h3 (by rw [h2]; exact fun z => by cases z), h4, h5.mono e.gg⟩
  · obtain ⟨l, vs, h1, h2, h3, h4, h6, h5, h7⟩ := o.od i ks ds h
    exact ⟨l, vs, h1, e.hh _ _ h2, e.new l h3 (by rw [h2]; exact fun z => by cases z), h4, h6, h5.mono e.gg, h7⟩
theorem Own.gh {K : PySem.W.Frag} {G0 : Hp} {H0 : Fr} {G : Hp} {ω : WSt} {σ : St} {H : Hp} (o : Own K G0 H0 G ω σ H) : Same G H := o.ext.gh
abbrev FE := WSt → Option R
abbrev FD := WSt → Option D
abbrev FT := WSt → Option Bool
abbrev FA := WSt → Option (List D)
def SimE (K : PySem.W.Frag) (t : TE) (f : FE) : Prop := ∀ G0 H0 G ω σ H r (Q : VK), Own K G0 H0 G ω σ H → f ω = some r →
  (∀ v G' H', Ext G H G' H' → RepR K H G' H' r v → Q v H') → t σ H Q
def SimD (K : PySem.W.Frag) (t : TE) (f : FD) : Prop := ∀ G0 H0 G ω σ H d (Q : VK), Own K G0 H0 G ω σ H → f ω = some d →
  (∀ v G' H', Ext G H G' H' → Rep K G' d v → Q v H') → t σ H Q
def SimV (K : PySem.W.Frag) (t : TE) (f : FD) : Prop := ∀ G0 H0 G ω σ H d (Q : VK), Own K G0 H0 G ω σ H → f ω = some d →
  (∀ v G' H', Ext G H G' H' → Vw K G' H' d v → Q v H') → t σ H Q
def SimT (K : PySem.W.Frag) (t : TT) (f : FT) : Prop := ∀ G0 H0 G ω σ H b (Q : Bool → Hp → Prop), Own K G0 H0 G ω σ H → f ω = some b →
  (∀ G' H', Ext G H G' H' → Q b H') → t σ H Q
def SimA (K : PySem.W.Frag) (t : TA) (f : FA) : Prop := ∀ G0 H0 G ω σ H ds (Q : List V → Hp → Prop), Own K G0 H0 G ω σ H → f ω = some ds →
  (∀ vs G' H', Ext G H G' H' → Reps K G' ds vs → Q vs H') → t σ H Q
def XE (X : Cx) (e : Expr) (f : FE) : Prop := ∃ t, PE X e t ∧ SimE X.K t f
def XD (X : Cx) (e : Expr) (f : FD) : Prop := ∃ t, PE X e t ∧ SimD X.K t f
def XV (X : Cx) (e : Expr) (f : FD) : Prop := ∃ t, PE X e t ∧ SimV X.K t f
def XT (X : Cx) (e : Expr) (f : FT) : Prop := ∃ t, PT X e t ∧ SimT X.K t f
def XW (X : Cx) (e : Expr) (f : FT) : Prop := ∃ t, PW X e t ∧ SimT X.K t f
def XA (X : Cx) (es : List Expr) (f : FA) : Prop := (∃ t, PA X es t ∧ SimA X.K t f) ∧ ∀ ω ds, f ω = some ds → ds.length = es.length
def eOf (f : FD) : FE := fun ω => (f ω).map R.sh
def dOf (f : FE) : FD := fun ω => match f ω with
  | some (.sh d) => some d
  | some (.fr ds) => some (.lst ds)
  | _ => none
def vOf (f : FE) : FD := fun ω => (f ω).map R.d
section
variable {X : Cx} {e : Expr}
theorem XD.toE {f : FD} (h : XD X e f) : XE X e (eOf f) := by
  obtain ⟨t, h1, h2⟩ := h
  refine ⟨t, h1, fun G0 H0 G ω σ H r Q o e k => ?_⟩
  unfold eOf at e
  cases q : f ω with
  | none => rw [q] at e; cases e
  | some d => rw [q] at e; cases e; exact h2 G0 H0 G ω σ H d Q o q k
theorem XE.toD {f : FE} (h : XE X e f) : XD X e (dOf f) := by
  obtain ⟨t, h1, h2⟩ := h
  refine ⟨t, h1, fun G0 H0 G ω σ H d Q o e k => ?_⟩
  unfold dOf at e
  cases q : f ω with
  | none => rw [q] at e; cases e
  | some r =>
    rw [q] at e
    cases r with
    | sh d' => cases e; exact h2 G0 H0 G ω σ H _ Q o q k
    | fr ds =>
      cases e
      refine h2 G0 H0 G ω σ H _ Q o q fun v G' H' x ⟨l, vs, e1, e2, e3, e4, e5⟩ => ?_
      have s1 : Same G' (upd G' l (.lst vs)) := same_upd e3 _
      refine k v (upd G' l (.lst vs)) H' ⟨x.gg.trans s1, fun b u z => ?_, x.hh, fun b z1 z2 => ?_⟩ ⟨l, vs, e1, upd_same, e5.mono s1⟩
      · by_cases hb : b = l
        · subst hb; rw [upd_same] at z; rw [e4]; exact z
        · rw [upd_ne hb] at z; exact x.gh b u z
      · rw [upd_ne (fun hb => z2 (by rw [hb]; exact e2))]; exact x.new b z1 z2
    | vw ds => cases e
theorem XE.toV {f : FE} (h : XE X e f) : XV X e (vOf f) := by
  obtain ⟨t, h1, h2⟩ := h
  refine ⟨t, h1, fun G0 H0 G ω σ H d Q o e k => ?_⟩
  unfold vOf at e
  cases q : f ω with
  | none => rw [q] at e; cases e
  | some r =>
    rw [q] at e
    have e' : r.d = d := Option.some.inj e
    subst e'
    refine h2 G0 H0 G ω σ H r Q o q fun v G' H' x y => k v G' H' x ?_
    cases r with
    | sh d' => exact .inl y
    | fr ds => obtain ⟨l, vs, e1, e2, e3, e4, e5⟩ := y; exact .inr ⟨ds, l, vs, rfl, e1, e4, e5⟩
    | vw ds => obtain ⟨l, vs, e1, e2, e3⟩ := y; exact .inr ⟨ds, l, vs, rfl, e1, e2, e3⟩
theorem XD.toV {f : FD} (h : XD X e f) : XV X e f := by
  obtain ⟨t, h1, h2⟩ := h
  exact ⟨t, h1, fun G0 H0 G ω σ H d Q o e k => h2 G0 H0 G ω σ H d Q o e fun v G' H' x y => k v G' H' x (.inl y)⟩
end
def fVar (i : Nat) : FE := fun ω => match ω[i]? with
  | some (some (.sh d)) => some (.sh d)
  | some (some (.ow ds)) => some (.vw ds)
  | some (some (.pw ds)) => some (.vw ds)
  | _ => none
def fC (d : D) : FD := fun _ => some d
section
variable {X : Cx}
theorem xe_var {e : Expr} (i : Nat) (h : PE X e (tVar i)) : XE X e (fVar i) := by
  refine ⟨_, h, fun G0 H0 G ω σ H r Q o e k => ?_⟩
  unfold fVar at e
  cases q : ω[i]? with
  | none => rw [q] at e; cases e
  | some w =>
    rw [q] at e
    cases w with
    | none => cases e
    | some w =>
      cases w with
      | sh d =>
        cases e
        obtain ⟨v, h1, h2⟩ := o.sh i d q
        exact ⟨v, h1, k v G H (Ext.refl o.gh) h2⟩
      | ow ds =>
        cases e
        obtain ⟨l, vs, h1, h2, h3, h4, h5⟩ := o.ow i ds q
        exact ⟨_, h1, k _ G H (Ext.refl o.gh) ⟨l, vs, rfl, h2, h5⟩⟩
      | od ks ds => cases e
      | pw ds =>
        cases e
        obtain ⟨vs, h1, h2, h3, h4, h5, _⟩ := o.pw i ds q
        exact ⟨_, h1, k _ G H (Ext.refl o.gh) ⟨_, vs, rfl, h2, h5⟩⟩
theorem xd_c {e : Expr} {v : V} {d : D} (h : PE X e (tC v)) (hr : ∀ K H, Rep K H d v) : XD X e (fC d) := by
  refine ⟨_, h, fun G0 H0 G ω σ H r Q o e k => ?_⟩
  cases e
  exact k v G H (Ext.refl o.gh) (hr _ _)
theorem xd_int {i j pos} : XD X (.Constant (.int i) j pos) (fC (.int i)) := xd_c pe_int fun _ _ => rfl
theorem xd_bl {b j pos} : XD X (.Constant (.bool b) j pos) (fC (.bl b)) := xd_c pe_bl fun _ _ => rfl
end
theorem bnd {α β : Type} {o : Option α} {f : α → Option β} {r : β} (h : o.bind f = some r) : ∃ a, o = some a ∧ f a = some r := Option.bind_eq_some_iff.mp h
theorem mpd {α β : Type} {o : Option α} {f : α → β} {r : β} (h : o.map f = some r) : ∃ a, o = some a ∧ f a = r := Option.map_eq_some_iff.mp h
def aNil : FA := fun _ => some []
def aCons (f : FD) (g : FA) : FA := fun ω => (f ω).bind fun d => (g ω).map fun ds => d :: ds
section
variable {X : Cx} {e : Expr} {es : List Expr}
theorem xa_nil : XA X [] aNil := ⟨⟨_, pa_nil, fun G0 H0 G ω σ H ds Q o e k => by cases e; exact k [] G H (Ext.refl o.gh) rfl⟩, fun ω ds e => by cases e; rfl⟩
theorem xa_cons {f : FD} {g : FA} (h : XD X e f) (hr : XA X es g) (hs : starEach (e :: es) X.env = (false, eval e X.env) :: starEach es X.env := by rfl) : XA X (e :: es) (aCons f g) := by
  obtain ⟨t, h1, h2⟩ := h
  obtain ⟨⟨u, h3, h4⟩, h5⟩ := hr
  refine ⟨⟨_, pa_cons h1 h3 hs, fun G0 H0 G ω σ H ds Q o e k => ?_⟩, fun ω ds e => ?_⟩
  · obtain ⟨d, q, e⟩ := bnd e
    obtain ⟨r, q2, e⟩ := mpd e
    subst e
    refine h2 G0 H0 G ω σ H d _ o q fun v G1 H1 x1 y1 => ?_
    refine h4 G0 H0 G1 ω σ H1 r _ (o.keep x1) q2 fun vs G2 H2 x2 y2 => ?_
    exact k _ G2 H2 (x1.trans x2) (Reps.cons (y1.mono x2.gg) y2)
  · obtain ⟨d, q, e⟩ := bnd e
    obtain ⟨r, q2, e⟩ := mpd e
    subst e
    rw [List.length_cons, List.length_cons, h5 ω r q2]
def fTup (g : FA) : FD := fun ω => (g ω).map D.tup
def fLst (g : FA) : FE := fun ω => (g ω).map R.fr
theorem le_line {n : Nat} (h : n ≤ 1000) : n ≤ sizeLine := Nat.le_of_lt (small1000 h)
theorem xd_tup {x1 pos} {g : FA} (h : XA X es g) (hl : es.length ≤ 1000 := by decide) : XD X (.Tuple es x1 pos) (fTup g) := by
  obtain ⟨⟨t, h1, h2⟩, h5⟩ := h
  refine ⟨_, pe_tup h1, fun G0 H0 G ω σ H d Q o e k => ?_⟩
  obtain ⟨ds, q, e⟩ := mpd e
  subst e
  refine h2 G0 H0 G ω σ H ds _ o q fun vs G1 H1 x1 y1 => ⟨le_line (by rw [← y1.len, h5 ω ds q]; exact hl), fun p hp => ?_⟩
  have x2 := Ext.lay x1.gh hp (.tup vs)
  exact k _ _ _ (x1.trans x2) ⟨p, vs, rfl, upd_same, y1.mono x2.gg⟩
theorem xe_lst {pos} {g : FA} (h : XA X es g) (hl : es.length ≤ 1000 := by decide) : XE X (.List es pos) (fLst g) := by
  obtain ⟨⟨t, h1, h2⟩, h5⟩ := h
  refine ⟨_, pe_lst h1, fun G0 H0 G ω σ H d Q o e k => ?_⟩
  obtain ⟨ds, q, e⟩ := mpd e
  subst e
  refine h2 G0 H0 G ω σ H ds _ o q fun vs G1 H1 x1 y1 => ⟨le_line (by rw [← y1.len, h5 ω ds q]; exact hl), fun p hp => ?_⟩
  have x2 := Ext.hide x1.gh hp (.lst vs)
  exact k _ _ _ (x1.trans x2) ⟨p, vs, rfl, x1.hh.free hp, x1.gh.free hp, upd_same, y1⟩
inductive O where
  | sh (d : D) | fr (ds : List D)
def O.r : O → R
  | .sh d => .sh d
  | .fr ds => .fr ds
def spD (K : PySem.W.Frag) (n : Nat) (m : List D → Option O) : Sp := fun vs H Q _ => ∃ G ds r, m ds = some r ∧ ds.length = n ∧ Same G H ∧ Reps K G ds vs ∧ ∀ v G' H', Ext G H G' H' → RepR K H G' H' r.r v → Q v H'
def fCall (m : List D → Option O) (g : FA) : FE := fun ω => (g ω).bind fun ds => (m ds).map O.r
theorem xe_call {CX : CXT} {k : Nat} {f : Addr} {fd : FuncData} {ps : List Str} {m : List D → Option O} {E : XK} {x : Str} {p pos : Pos} {g : FA}
    (F : FnOk X.prog X.w X.K X.mg X.base CX k f fd ps (spD X.K (e :: es).length m)) (hr : Room k X.A) (hg : Gl X x) (hm : X.mg x = some (.ref f)) (hk : PySem.W.keepIn X.K (.ref f) = true) (hb : Binds X.K fd ps []) (hx : Passes CX X E)
    (ha : XA X (e :: es) g) (hdb : (x == ("__debug__" : Str)) = false := by decide) (he : starEach (e :: es) X.env = (false, eval e X.env) :: starEach es X.env := by rfl) (hpl : (backTo pos (starEach es X.env)).any (·.1) = false := by rfl) :
    XE X (.Call (.Name x p) (e :: es) [] pos) (fCall m g) := by
  obtain ⟨⟨t, h1, h2⟩, h5⟩ := ha
  refine ⟨_, pe_call F hr hg hm hk hb .nil hx h1 hdb he hpl, fun G0 H0 G ω σ H r Q o e k => ?_⟩
  obtain ⟨ds, q, e⟩ := bnd e
  obtain ⟨r', q2, e⟩ := mpd e
  subst e
  refine h2 G0 H0 G ω σ H ds _ o q fun vs G1 H1 x1 y1 => ?_
  refine ⟨G1, ds, r', q2, h5 ω ds q, x1.gh, by rw [List.append_nil]; exact y1, fun v G2 H2 x2 y2 => k v G2 H2 (x1.trans x2) ?_⟩
  cases r' with
  | sh d => exact y2
  | fr ds => obtain ⟨l, vs, e1, e2, e3⟩ := y2; exact ⟨l, vs, e1, x1.hh.free e2, e3⟩
end
end Hk
set_option maxRecDepth 100000
namespace Hk
open PySem L2
open PySem.Spec PyProof.Rows PySem.SeqAt PySem.MeetsSeq PySem.MeetsSeq2 PySem.MeetsSeq3 in
theorem getItem_whole {prog : Program} {w : World} {A : Around} {E : Value → Shared → Prop} {s : Shared} {t sl : Addr} {items : Array Value} {vl vu : Value} {lo hi : Option Int} {Q : Value → Shared → Prop} (ht : IsTup s.heap t items) (hs : s.heap.IsSliceOf sl vl vu .none) (pl : IsPart vl lo) (pu : IsPart vu hi)
    (hw : HT.sIx items.size 0 lo = 0 ∧ HT.sIx items.size items.size hi = items.size) (h : Q (.ref t) s) : wpAny (model prog w) A (getItem (.ref t) (.ref sl)) Q E s := by
  obtain ⟨os, hos, hcs, hds⟩ := id hs
  have hTs : s.TypeIs (.ref sl) "slice" := ⟨os, hos, hcs⟩
  unfold getItem
  try with_reducible refine wpAny_holding ?_
  first | refine wpAny_bind (wpAny_pure ?_) | skip
  refine wpAny_bind (wpAny_sequenceKey ht.typeIs (by decide) ?_)
  refine wpAny_bind (wpAny_callSpecial?_slot (name := Str.ofString "__getitem__") ht.typeIs PyProof.Rows.slot_tuple_getitem
    (wpAny_call_entry PyProof.Rows.slot_tuple_getitem ht.typeIs entry_tuple_getitem ?_ (args_tuple_getitem _ _)))
  show wpAny _ _ (Builtin.Tuple.tupleItemsOf (.ref t) >>= _) _ _ s
  refine wpAny_bind (tupleItemsOf_ ht ?_)
  refine wpAny_bind (wpAny_typeOf hTs ?_)
  rw [if_pos (by decide)]
  refine wpAny_bind (HT.sliceApplied_gen hs pl pu ?_)
  have hy : (((HT.sIx items.size 0 lo : Nat) : Int) == 0 && (1 : Int) == 1 && (HT.sIx items.size items.size hi - HT.sIx items.size 0 lo) == items.size) = true := by
    rw [hw.1, hw.2]; simp
  show wpAny _ _ (if (((HT.sIx items.size 0 lo : Nat) : Int) == 0 && (1 : Int) == 1 && (HT.sIx items.size items.size hi - HT.sIx items.size 0 lo) == items.size) = true then _ else _) _ _ s
  rw [if_pos hy]
  have hb : ∀ {R : Bool → Shared → Prop}, R true s → wpAny (model prog w) A.in1 (Builtin.Tuple.tupleIsExact (.ref t)) R E s := fun r => by
    unfold Builtin.Tuple.tupleIsExact
    refine wpAny_bind (wpAny_typeOf ht.typeIs ?_)
    exact wpAny_pure r
  refine wpAny_bind (hb ?_)
  rw [if_pos rfl]
  refine wpAny_bind (wpAny_rule ?_)
  exact wpAny_pure ⟨_, rfl, wpAny_pure h⟩
section
variable {X : Cx}
def rSlW (K : PySem.W.Frag) : V → Option Int → Option Int → Hp → VK → Prop := fun x lo hi H Q => ∃ a xs, x = .ref a ∧ SqT K H a xs ∧
  (HT.sIx xs.length 0 lo = 0 ∧ HT.sIx xs.length xs.length hi = xs.length) ∧ Q (.ref a) H
theorem sl_whole : SlR X (rSlW X.K) := by
  intro pins s σ H x v vl vu lo hi sl Q I rx hs pl pu h
  obtain ⟨a, xs, rfl, hx, hw, q⟩ := h
  cases rx
  obtain ⟨its, r, ht, hz⟩ := I.tuple hx
  have hlen : its.toArray.size = xs.length := by rw [List.size_toArray]; exact r.length.symm
  refine ⟨"tuple", _, PyProof.Rows.slot_tuple_getitem.lookup, ht.typeIs, ?_⟩
  exact getItem_whole ht hs pl pu (by rw [hlen]; exact hw) ⟨.ref a, H, I, rfl, q⟩
end
theorem Vw.rep {K : PySem.W.Frag} {G H : Hp} {d : D} {v : V} (h : Vw K G H d v) (e : Same G H) : Rep K H d v := by
  rcases h with h | ⟨ds, l, vs, rfl, rfl, h1, h2⟩
  · exact h.mono e
  · exact ⟨l, vs, rfl, h1, h2.mono e⟩
theorem Vw.keep {K : PySem.W.Frag} {G H G' H' : Hp} {d : D} {v : V} (h : Vw K G H d v) (e : Ext G H G' H') : Vw K G' H' d v := by
  rcases h with h | ⟨ds, l, vs, h0, h1, h2, h3⟩
  · exact .inl (h.mono e.gg)
  · exact .inr ⟨ds, l, vs, h0, h1, e.hh _ _ h2, h3.mono e.gg⟩
theorem Vw.lst {K : PySem.W.Frag} {G H : Hp} {ds : List D} {v : V} (h : Vw K G H (.lst ds) v) (e : Same G H) : ∃ a vs, v = .ref a ∧ H a = some (.lst vs) ∧ Reps K G ds vs := by
  rcases h with ⟨a, vs, h1, h2, h3⟩ | ⟨ds', l, vs, h0, h1, h2, h3⟩
  · exact ⟨a, vs, h1, e _ _ h2, h3⟩
  · cases h0; exact ⟨l, vs, h1, h2, h3⟩
theorem Vw.of_ne {K : PySem.W.Frag} {G H : Hp} {d : D} {v : V} (h : Vw K G H d v) (n : ∀ ds, d ≠ .lst ds) : Rep K G d v := by
  rcases h with h | ⟨ds', l, vs, h0, h1, h2, h3⟩
  · exact h
  · exact absurd h0 (n _)
def VwA (K : PySem.W.Frag) (G H : Hp) : List D → List V → Prop
  | [], vs => vs = []
  | d :: ds, vs => ∃ v r, vs = v :: r ∧ Vw K G H d v ∧ VwA K G H ds r
theorem VwA.keep {K : PySem.W.Frag} {G H G' H' : Hp} (e : Ext G H G' H') : ∀ {ds : List D} {vs : List V}, VwA K G H ds vs → VwA K G' H' ds vs
  | [], _, h => h
  | _ :: _, _, ⟨v, r, h1, h2, h3⟩ => ⟨v, r, h1, h2.keep e, VwA.keep e h3⟩
def SimVA (K : PySem.W.Frag) (t : TA) (f : FA) : Prop := ∀ G0 H0 G ω σ H ds (Q : List V → Hp → Prop), Own K G0 H0 G ω σ H → f ω = some ds →
  (∀ vs G' H', Ext G H G' H' → VwA K G' H' ds vs → Q vs H') → t σ H Q
def XVA (X : Cx) (es : List Expr) (f : FA) : Prop := ∃ t, PA X es t ∧ SimVA X.K t f
section
variable {X : Cx} {e : Expr} {es : List Expr}
theorem xva_nil : XVA X [] aNil := ⟨_, pa_nil, fun G0 H0 G ω σ H ds Q o e k => by cases e; exact k [] G H (Ext.refl o.gh) rfl⟩
theorem xva_cons {f : FD} {g : FA} (h : XV X e f) (hr : XVA X es g) (hs : starEach (e :: es) X.env = (false, eval e X.env) :: starEach es X.env := by rfl) : XVA X (e :: es) (aCons f g) := by
  obtain ⟨t, h1, h2⟩ := h
  obtain ⟨u, h3, h4⟩ := hr
  refine ⟨_, pa_cons h1 h3 hs, fun G0 H0 G ω σ H ds Q o e k => ?_⟩
  obtain ⟨d, q, e⟩ := bnd e
  obtain ⟨r, q2, e⟩ := mpd e
  subst e
  refine h2 G0 H0 G ω σ H d _ o q fun v G1 H1 x1 y1 => ?_
  refine h4 G0 H0 G1 ω σ H1 r _ (o.keep x1) q2 fun vs G2 H2 x2 y2 => ?_
  exact k _ G2 H2 (x1.trans x2) ⟨v, vs, rfl, y1.keep x2, y2⟩
def fOpE (op : D → D → Option R) (f g : FD) : FE := fun ω => (f ω).bind fun x => (g ω).bind fun y => op x y
def OpV (K : PySem.W.Frag) (r : R2) (op : D → D → Option R) : Prop := ∀ G H x y d v u (Q : VK), Same G H → op x y = some d → Vw K G H x v → Vw K G H y u →
  (∀ w G' H', Ext G H G' H' → RepR K H G' H' d w → Q w H') → r v u H Q
theorem simV_op {r : R2} {o : D → D → Option R} {f g : FD} {t u : TE} (hd : OpV X.K r o) (h2 : SimV X.K t f) (h4 : SimV X.K u g) : SimE X.K (tOp r t u) (fOpE o f g) := by
  intro G0 H0 G ω σ H d Q ow e k
  obtain ⟨x, q, e⟩ := bnd e
  obtain ⟨y, q2, e⟩ := bnd e
  refine h2 G0 H0 G ω σ H x _ ow q fun v G1 H1 x1 y1 => ?_
  refine h4 G0 H0 G1 ω σ H1 y _ (ow.keep x1) q2 fun v2 G2 H2 x2 y2 => ?_
  refine hd G2 H2 x y d v v2 Q x2.gh e (y1.keep x2) y2 fun w G3 H3 x3 z => k w G3 H3 ((x1.trans x2).trans x3) ?_
  cases d with
  | sh d => exact z
  | fr ds => obtain ⟨l, vs, e1, e2, e3⟩ := z; exact ⟨l, vs, e1, (x1.trans x2).hh.free e2, e3⟩
  | vw ds => exact z
variable {a b : Expr} {pos : Pos} {f g : FD}
theorem xe_bin {op : Operator} {r : R2} {o : D → D → Option R} (ho : OpR X (binaryOp op) r) (hd : OpV X.K r o) (ha : XV X a f) (hb : XV X b g) : XE X (.BinOp a op b pos) (fOpE o f g) := by
  obtain ⟨t, h1, h2⟩ := ha
  obtain ⟨u, h3, h4⟩ := hb
  exact ⟨_, pe_op ho h1 h3, simV_op hd h2 h4⟩
theorem xe_cmp {op : CmpOp} {r : R2} {o : D → D → Option R} (ho : OpR X (compareOp op) r) (hd : OpV X.K r o) (ha : XV X a f) (hb : XV X b g) (hm : behindInMarks op b = false) : XE X (.Compare a [op] [b] pos) (fOpE o f g) := by
  obtain ⟨t, h1, h2⟩ := ha
  obtain ⟨u, h3, h4⟩ := hb
  exact ⟨_, pe_cmpR ho h1 h3 hm, simV_op hd h2 h4⟩
theorem xe_ix {r : R2} {o : D → D → Option R} (ho : IxR X r) (hd : OpV X.K r o) (ha : XV X a f) (hb : XV X b g) (hs : PlainIx b) : XE X (.Subscript a b pos) (fOpE o f g) := by
  obtain ⟨t, h1, h2⟩ := ha
  obtain ⟨u, h3, h4⟩ := hb
  exact ⟨_, pe_ix ho h1 h3 hs, simV_op hd h2 h4⟩
def tOf (f : FE) : FT := fun ω => match f ω with
  | some (.sh (.bl k)) => some k
  | _ => none
theorem simT_test {t : TE} {f : FE} (h : SimE X.K t f) : SimT X.K (tTest t) (tOf f) := by
  intro G0 H0 G ω σ H b Q o e k
  unfold tOf at e
  cases q : f ω with
  | none => rw [q] at e; cases e
  | some r =>
    rw [q] at e
    cases r with
    | sh d =>
      cases d with
      | bl c =>
        cases e
        refine h G0 H0 G ω σ H _ _ o q fun v G' H' x y => ?_
        cases (show v = V.bl b from y)
        exact ⟨b, rfl, k G' H' x⟩
      | _ => cases e
    | _ => cases e
theorem xt_cmp {op : CmpOp} {r : R2} {o : D → D → Option R} (ho : OpR X (compareOp op) r) (hd : OpV X.K r o) (ha : XV X a f) (hb : XV X b g) (hm : behindInMarks op b = false) : XT X (.Compare a [op] [b] pos) (tOf (fOpE o f g)) := by
  obtain ⟨t, h1, h2⟩ := ha
  obtain ⟨u, h3, h4⟩ := hb
  exact ⟨_, pt_cmpR ho h1 h3 hm, simT_test (simV_op hd h2 h4)⟩
def oInt (c : Int → Int → Bool) (g : Int → Int → D) : D → D → Option R
  | .int i, .int j => if c i j = true then some (.sh (g i j)) else none
  | _, _ => none
theorem Vw.int {K : PySem.W.Frag} {G H : Hp} {i : Int} {v : V} (h : Vw K G H (.int i) v) : v = .int i := h.of_ne (fun _ z => by cases z)
theorem Vw.bl {K : PySem.W.Frag} {G H : Hp} {i : Bool} {v : V} (h : Vw K G H (.bl i) v) : v = .bl i := h.of_ne (fun _ z => by cases z)
theorem Vw.str {K : PySem.W.Frag} {G H : Hp} {i : Str} {v : V} (h : Vw K G H (.str i) v) : v = .str i := h.of_ne (fun _ z => by cases z)
theorem Vw.non {K : PySem.W.Frag} {G H : Hp} {v : V} (h : Vw K G H .non v) : v = .non := h.of_ne (fun _ z => by cases z)
theorem Vw.tup {K : PySem.W.Frag} {G H : Hp} {ds : List D} {v : V} (h : Vw K G H (.tup ds) v) : ∃ a vs, v = .ref a ∧ G a = some (.tup vs) ∧ Reps K G ds vs := h.of_ne (fun _ z => by cases z)
theorem Vw.scr {K : PySem.W.Frag} {G H : Hp} {ns : List Int} {v : V} (h : Vw K G H (.scr ns) v) : ∃ a, v = .ref a ∧ SqL K G a (ns.map V.int) := h.of_ne (fun _ z => by cases z)
theorem opv_int {K : PySem.W.Frag} {C : Int → Int → Prop} {c : Int → Int → Bool} {gV : Int → Int → V} {g : Int → Int → D} (hc : ∀ i j, c i j = true → C i j) (hg : ∀ H i j, Rep K H (g i j) (gV i j)) : OpV K (rI C gV) (oInt c g) := by
  intro G H x y d v u Q s e hx hy k
  cases x with
  | int i =>
    cases y with
    | int j =>
      cases hx.int
      cases hy.int
      unfold oInt at e
      dsimp only at e
      by_cases z : c i j = true
      · rw [if_pos z] at e
        cases e
        exact ⟨i, j, rfl, rfl, hc i j z, k _ G H (Ext.refl s) (hg _ i j)⟩
      · rw [if_neg z] at e; cases e
    | _ => cases e
  | _ => cases e
theorem opv_int0 {K : PySem.W.Frag} {gV : Int → Int → V} {g : Int → Int → D} (hg : ∀ H i j, Rep K H (g i j) (gV i j)) : OpV K (rI0 gV) (oInt (fun _ _ => true) g) := by
  intro G H x y d v u Q s e hx hy k
  cases x with
  | int i =>
    cases y with
    | int j =>
      cases hx.int
      cases hy.int
      cases e
      exact ⟨i, j, rfl, rfl, k _ G H (Ext.refl s) (hg _ i j)⟩
    | _ => cases e
  | _ => cases e
def cMul (i j : Int) : Bool := (decide (-(2 ^ 64) < i) && decide (i < 2 ^ 64)) || (decide (-(2 ^ 64) < j) && decide (j < 2 ^ 64))
def cDiv (_ j : Int) : Bool := decide (0 < j) && decide (j < 1073741824)
def cMod (_ j : Int) : Bool := decide (0 < j)
def cPow (i j : Int) : Bool := decide (0 ≤ j) && decide (j ≤ 1000000) && decide (i.natAbs < 2 ^ 64)
abbrev oSub : D → D → Option R := oInt (fun _ _ => true) fun i j => .int (i - j)
abbrev oMul : D → D → Option R := oInt cMul fun i j => .int (i * j)
abbrev oDiv : D → D → Option R := oInt cDiv fun i j => .int (i / j)
abbrev oMod : D → D → Option R := oInt cMod fun i j => .int (i % j)
abbrev oPow : D → D → Option R := oInt cPow fun i j => .int (i ^ j.toNat)
abbrev oLt : D → D → Option R := oInt (fun _ _ => true) fun i j => .bl (decide (i < j))
abbrev oLe : D → D → Option R := oInt (fun _ _ => true) fun i j => .bl (decide (i ≤ j))
abbrev oGt : D → D → Option R := oInt (fun _ _ => true) fun i j => .bl (decide (j < i))
abbrev oGe : D → D → Option R := oInt (fun _ _ => true) fun i j => .bl (decide (j ≤ i))
def oAdd : D → D → Option R
  | .int i, .int j => some (.sh (.int (i + j)))
  | .lst xs, .lst ys => if xs.length + ys.length ≤ 1000000 then some (.fr (xs ++ ys)) else none
  | .tup [], .tup ys => some (.sh (.tup ys))
  | .tup (x :: xs), .tup ys => if (x :: xs).length + ys.length ≤ 1000000 then some (.sh (.tup ((x :: xs) ++ ys))) else none
  | _, _ => none
theorem le_line6 {n : Nat} (h : n ≤ 1000000) : n ≤ sizeLine := by rw [sizeLine_eq]; omega
def rCat0 (K : PySem.W.Frag) : R2 := fun x y H Q => ∃ a b ys, x = .ref a ∧ y = .ref b ∧ SqT K H a [] ∧ SqT K H b ys ∧ Q (.ref b) H
theorem op_cat0 : OpR X (binaryOp .Add) (rCat0 X.K) := by
  intro pins s σ H x y v u Q I rx ry h
  obtain ⟨a, b, ys, rfl, rfl, ha, hb, q⟩ := h
  cases rx
  cases ry
  obtain ⟨its, r1, p1, _⟩ := I.tuple ha
  obtain ⟨its2, r2, p2, _⟩ := I.tuple hb
  have e0 : its = [] := r1.nil_iff.mpr rfl
  subst e0
  obtain ⟨⟨cls, dd, data, sl⟩, ho, hc, n, hd⟩ := id p1
  obtain ⟨⟨cls2, dd2, data2, sl2⟩, ho2, hc2, n2, hd2⟩ := id p2
  simp only at hc hd hc2 hd2
  subst hc hd hc2 hd2
  exact PySem.concat_meets ⟨_, ho, rfl⟩ ⟨_, ho2, rfl⟩ PySem.noFill_tuple_add PySem.seq_tuple_add PySem.F.slot_tuple_add PySem.F.entry_tuple_add (PySem.F.args_tuple_add_2 _ _)
    (PyProof.Rows.tuple_addW0 a b _ its2.toArray n n2 dd dd2 sl sl2 (by simp)) ⟨ho, ho2, ⟨.ref b, H, I, rfl, q⟩⟩
def rAddAll (K : PySem.W.Frag) : R2 := fun x y H Q => rI0 (fun i j => .int (i + j)) x y H Q ∨ rCat x y H Q ∨ rCatT K x y H Q ∨ rCat0 K x y H Q
theorem op_addAll : OpR X (binaryOp .Add) (rAddAll X.K) := op_add.or (op_cat.or (op_catT.or op_cat0))
theorem opv_add {K : PySem.W.Frag} : OpV K (rAddAll K) oAdd := by
  intro G H x y d v u Q s e hx hy k
  cases x with
  | int i =>
    cases y with
    | int j =>
      cases hx.int
      cases hy.int
      cases e
      exact .inl ⟨i, j, rfl, rfl, k _ G H (Ext.refl s) rfl⟩
    | _ => cases e
  | lst xs =>
    cases y with
    | lst ys =>
      unfold oAdd at e
      dsimp only at e
      by_cases z : xs.length + ys.length ≤ 1000000
      · rw [if_pos z] at e
        cases e
        obtain ⟨a, vs, rfl, h1, h2⟩ := hx.lst s
        obtain ⟨b, us, rfl, h3, h4⟩ := hy.lst s
        refine .inr (.inl ⟨a, b, vs, us, rfl, rfl, h1, h3, le_line6 (by rw [← h2.len, ← h4.len]; exact z), fun p hp => ?_⟩)
        exact k _ G _ (Ext.hide s hp _) ⟨p, _, rfl, hp, s.free hp, upd_same, h2.app h4⟩
      · rw [if_neg z] at e; cases e
    | _ => cases e
  | tup xs =>
    cases y with
    | tup ys =>
      obtain ⟨a, vs, rfl, h1, h2⟩ := hx.tup
      obtain ⟨b, us, rfl, h3, h4⟩ := hy.tup
      cases xs with
      | nil =>
        cases e
        have ev : vs = [] := List.eq_nil_of_length_eq_zero h2.len.symm
        subst ev
        exact .inr (.inr (.inr ⟨a, b, us, rfl, rfl, SqT.of (s _ _ h1), SqT.of (s _ _ h3), k _ G H (Ext.refl s) ⟨b, us, rfl, h3, h4⟩⟩))
      | cons x0 xs =>
        unfold oAdd at e
        dsimp only at e
        by_cases z : (x0 :: xs).length + ys.length ≤ 1000000
        · rw [if_pos z] at e
          cases e
          refine .inr (.inr (.inl ⟨a, b, vs, us, rfl, rfl, SqT.of (s _ _ h1), SqT.of (s _ _ h3), fun w => ?_, le_line6 (by rw [← h2.len, ← h4.len]; exact z), fun w => ?_, fun _ p hp => ?_⟩))
          · have := h2.len
            rw [w] at this
            cases this
          · have := h4.len
            rw [w] at this
            have ey : ys = [] := List.eq_nil_of_length_eq_zero this
            subst ey
            rw [List.append_nil] at k
            exact k _ G H (Ext.refl s) ⟨a, vs, rfl, h1, h2⟩
          · have x2 := Ext.lay s hp (.tup (vs ++ us))
            exact k _ _ _ x2 ⟨p, _, rfl, upd_same, (h2.app h4).mono x2.gg⟩
        · rw [if_neg z] at e; cases e
    | _ => cases xs <;> cases e
  | _ => cases e
theorem xe_add (ha : XV X a f) (hb : XV X b g) : XE X (.BinOp a .Add b pos) (fOpE oAdd f g) := xe_bin op_addAll opv_add ha hb
theorem xe_sub (ha : XV X a f) (hb : XV X b g) : XE X (.BinOp a .Sub b pos) (fOpE oSub f g) := xe_bin op_sub (opv_int0 fun _ _ _ => rfl) ha hb
theorem mulOk {i j : Int} (h : cMul i j = true) : CMul i j := by
  unfold cMul at h
  rw [Bool.or_eq_true, Bool.and_eq_true, Bool.and_eq_true, decide_eq_true_iff, decide_eq_true_iff, decide_eq_true_iff, decide_eq_true_iff] at h
  exact h
theorem divOk {i j : Int} (h : cDiv i j = true) : CDiv i j := by
  unfold cDiv at h
  rw [Bool.and_eq_true, decide_eq_true_iff, decide_eq_true_iff] at h
  exact h
theorem powOk {i j : Int} (h : cPow i j = true) : CPow i j := by
  unfold cPow at h
  rw [Bool.and_eq_true, Bool.and_eq_true, decide_eq_true_iff, decide_eq_true_iff, decide_eq_true_iff] at h
  exact ⟨h.1.1, h.1.2, h.2⟩
theorem xe_mul (ha : XV X a f) (hb : XV X b g) : XE X (.BinOp a .Mult b pos) (fOpE oMul f g) := xe_bin op_mul (opv_int (fun _ _ h => mulOk h) fun _ _ _ => rfl) ha hb
theorem xe_fdiv (ha : XV X a f) (hb : XV X b g) : XE X (.BinOp a .FloorDiv b pos) (fOpE oDiv f g) := xe_bin op_fdiv (opv_int (fun _ _ h => divOk h) fun _ _ _ => rfl) ha hb
theorem xe_mod (ha : XV X a f) (hb : XV X b g) : XE X (.BinOp a .Mod b pos) (fOpE oMod f g) := xe_bin op_mod (opv_int (fun _ _ h => of_decide_eq_true h) fun _ _ _ => rfl) ha hb
theorem xe_pow (ha : XV X a f) (hb : XV X b g) : XE X (.BinOp a .Pow b pos) (fOpE oPow f g) := xe_bin op_pow (opv_int (fun _ _ h => powOk h) fun _ _ _ => rfl) ha hb
def oNeg : D → Option R
  | .int i => some (.sh (.int (-i)))
  | _ => none
def fNeg (f : FD) : FE := fun ω => (f ω).bind oNeg
theorem xe_neg (ha : XV X a f) : XE X (.UnaryOp .USub a pos) (fNeg f) := by
  obtain ⟨t, h1, h2⟩ := ha
  refine ⟨_, pe_un un_neg h1, fun G0 H0 G ω σ H d Q ow e k => ?_⟩
  obtain ⟨x, q, e⟩ := bnd e
  refine h2 G0 H0 G ω σ H x _ ow q fun v G1 H1 x1 y1 => ?_
  cases x with
  | int i => cases e; cases y1.int; exact ⟨i, rfl, k _ G1 H1 x1 rfl⟩
  | _ => cases e
theorem xt_lt (ha : XV X a f) (hb : XV X b g) : XT X (.Compare a [.Lt] [b] pos) (tOf (fOpE oLt f g)) := xt_cmp op_lt (opv_int0 fun _ _ _ => rfl) ha hb (nomark _)
end
mutual
def D.py : D → PyData
  | .non => .none
  | .bl b => .bool b
  | .int i => .int i
  | .str x => .str x
  | .lst xs => .list (D.pys xs)
  | .tup xs => .tuple (D.pys xs)
  | .scr ns => .list (ns.map PyData.int)
  | .exc _ => .dict []
  | .dic _ _ => .dict []
def D.pys : List D → List PyData
  | [] => []
  | d :: ds => d.py :: D.pys ds
end
section
variable {X : Cx} {pins : List (Addr × Obj)} {σ : St} {H : Hp} {s : Shared}
theorem reads_ints {h : Heap} : ∀ {ns : List Int} {us : List Value}, Vals (ns.map V.int) us → ∃ as, ReadsAll h us (ns.map PyData.int) as
  | [], _, r => by cases r; exact ⟨_, .nil⟩
  | n :: ns, _, r => by
    rw [List.map_cons] at r
    cases r with
    | cons r1 r2 =>
      obtain ⟨t, rfl⟩ := r1
      obtain ⟨as, q⟩ := reads_ints (h := h) r2
      exact ⟨_, .cons (.int n t) q⟩
mutual
theorem reads_of (I : Inv X pins σ H s) : ∀ {d : D} {v : V} {u : Value}, d.py.canLay0 = true → Rep X.K H d v → RelV v u → ∃ as, Reads s.heap u d.py as
  | .non, _, _, _, h, r => by cases (show _ = V.non from h); cases r; exact ⟨_, .none⟩
  | .bl b, _, _, _, h, r => by cases (show _ = V.bl b from h); cases r; exact ⟨_, .bool b⟩
  | .int i, _, _, _, h, r => by cases (show _ = V.int i from h); obtain ⟨t, rfl⟩ := r; exact ⟨_, .int i t⟩
  | .str x, _, _, _, h, r => by cases (show _ = V.str x from h); obtain ⟨t, rfl⟩ := r; exact ⟨_, .str x t⟩
  | .lst ds, _, _, hc, ⟨a, vs, rfl, h2, h3⟩, r => by
    cases r
    obtain ⟨its, n, rv, e, _⟩ := I.lst h2
    obtain ⟨as, q⟩ := reads_all I (show PyData.canLayAll0 (D.pys ds) = true from hc) h3 rv
    exact ⟨_, .list e rfl rfl (by simpa using q)⟩
  | .tup ds, _, _, hc, ⟨a, vs, rfl, h2, h3⟩, r => by
    cases r
    obtain ⟨its, rv, ⟨o, e, c, n, dd⟩, _⟩ := I.tuple (SqT.of h2)
    obtain ⟨as, q⟩ := reads_all I (show PyData.canLayAll0 (D.pys ds) = true from hc) h3 rv
    exact ⟨_, .tuple e c dd (by simpa using q)⟩
  | .exc _, _, _, hc, _, _ => by cases hc
  | .dic _ _, _, _, hc, _, _ => by cases hc
  | .scr ns, _, _, _, ⟨a, rfl, h2⟩, r => by
    cases r
    obtain ⟨its, rv, pl, _⟩ := I.list h2
    obtain ⟨o, e, c, n, dd⟩ := pl.isList
    obtain ⟨as, q⟩ := reads_ints (h := s.heap) rv
    exact ⟨_, .list e c dd (by simpa using q)⟩
theorem reads_all (I : Inv X pins σ H s) : ∀ {ds : List D} {vs : List V} {us : List Value}, PyData.canLayAll0 (D.pys ds) = true → Reps X.K H ds vs → Vals vs us → ∃ as, ReadsAll s.heap us (D.pys ds) as
  | [], _, _, _, h, r => by cases (show _ = [] from h); cases r; exact ⟨_, .nil⟩
  | d :: ds, _, _, hc, ⟨v, vr, h1, h2, h3⟩, r => by
    have hc' := Bool.and_eq_true_iff.mp (show (d.py.canLay0 && PyData.canLayAll0 (D.pys ds)) = true from hc)
    subst h1
    cases r with
    | cons r1 r2 =>
      obtain ⟨as, q1⟩ := reads_of I hc'.1 h2 r1
      obtain ⟨bs, q2⟩ := reads_all I hc'.2 h3 r2
      exact ⟨_, .cons q1 q2⟩
end
end
def shp (d : D) : Bool := SeqAt.shaped d.py
def eqD (x y : D) : Bool := PyData.eqv x.py y.py
def rEqD (K : PySem.W.Frag) (neg : Bool) : R2 := fun x y H Q => ∃ d e, Rep K H d x ∧ Rep K H e y ∧ shp d = true ∧ shp e = true ∧ Q (.bl (if neg then !eqD d e else eqD d e)) H
def oEq (neg : Bool) : D → D → Option R := fun x y => if shp x && shp y then some (.sh (.bl (if neg then !eqD x y else eqD x y))) else none
section
variable {X : Cx} {a b : Expr} {pos : Pos} {f g : FD}
theorem op_eqD (hu : X.A.units + 64 < cLine) : OpR X (compareOp .Eq) (rEqD X.K false) := by
  intro pins s σ H x y v u Q I rx ry h
  obtain ⟨d, e, h1, h2, h3, h4, q⟩ := h
  obtain ⟨as, ra⟩ := reads_of I (SeqAt.canLay_of_shaped h3) h1 rx
  obtain ⟨bs, rb⟩ := reads_of I (SeqAt.canLay_of_shaped h4) h2 ry
  exact SeqAt.compareEq_shaped ra rb h3 h4 hu ⟨.bl _, H, I, rfl, q⟩
theorem op_neD (hu : X.A.units + 64 < cLine) : OpR X (compareOp .NotEq) (rEqD X.K true) := by
  intro pins s σ H x y v u Q I rx ry h
  obtain ⟨d, e, h1, h2, h3, h4, q⟩ := h
  obtain ⟨as, ra⟩ := reads_of I (SeqAt.canLay_of_shaped h3) h1 rx
  obtain ⟨bs, rb⟩ := reads_of I (SeqAt.canLay_of_shaped h4) h2 ry
  exact SeqAt.compareNe_shaped ra rb h3 h4 hu ⟨.bl _, H, I, rfl, q⟩
theorem opv_eq {K : PySem.W.Frag} {neg : Bool} : OpV K (rEqD K neg) (oEq neg) := by
  intro G H x y d v u Q s e hx hy k
  unfold oEq at e
  by_cases z : (shp x && shp y) = true
  · rw [if_pos z] at e
    cases e
    rw [Bool.and_eq_true] at z
    exact ⟨x, y, hx.rep s, hy.rep s, z.1, z.2, k _ G H (Ext.refl s) rfl⟩
  · rw [if_neg z] at e; cases e
theorem xe_eq (hu : X.A.units + 64 < cLine) (ha : XV X a f) (hb : XV X b g) : XE X (.Compare a [.Eq] [b] pos) (fOpE (oEq false) f g) := xe_cmp (op_eqD hu) opv_eq ha hb (nomark _)
theorem xt_eq (hu : X.A.units + 64 < cLine) (ha : XV X a f) (hb : XV X b g) : XT X (.Compare a [.Eq] [b] pos) (tOf (fOpE (oEq false) f g)) := xt_cmp (op_eqD hu) opv_eq ha hb (nomark _)
theorem xt_ne (hu : X.A.units + 64 < cLine) (ha : XV X a f) (hb : XV X b g) : XT X (.Compare a [.NotEq] [b] pos) (tOf (fOpE (oEq true) f g)) := xt_cmp (op_neD hu) opv_eq ha hb (nomark _)
def isN : D → Bool
  | .non => true
  | _ => false
def oIs (neg : Bool) : D → D → Option R
  | x, .non => some (.sh (.bl (if neg then !isN x else isN x)))
  | .bl i, .bl j => some (.sh (.bl (if neg then !(i == j) else i == j)))
  | _, _ => none
def D.v : D → V
  | .bl b => .bl b
  | .int i => .int i
  | .str x => .str x
  | _ => .non
def oIx : D → D → Option R
  | .lst ds, .int i => (atI ds i).map R.sh
  | .tup ds, .int i => (atI ds i).map R.sh
  | .scr ns, .int i => (atI ns i).map fun n => .sh (.int n)
  | _, _ => none
theorem atI_reps {K : PySem.W.Frag} {H : Hp} {ds : List D} {vs : List V} {i : Int} {d : D} (h : Reps K H ds vs) (e : atI ds i = some d) : ∃ v, atI vs i = some v ∧ Rep K H d v := by
  unfold atI at e ⊢
  rw [← h.len]
  cases q : ixN ds.length i with
  | none => rw [q] at e; cases e
  | some j =>
    rw [q] at e
    obtain ⟨v, e1, e2⟩ := h.get e
    exact ⟨v, e1, e2⟩
theorem atI_ints {ns : List Int} {i n : Int} (e : atI ns i = some n) : atI (ns.map V.int) i = some (.int n) := by
  unfold atI at e ⊢
  rw [List.length_map]
  cases q : ixN ns.length i with
  | none => rw [q] at e; cases e
  | some j =>
    rw [q] at e
    have e' : ns[j]? = some n := e
    show (ns.map V.int)[j]? = _
    rw [List.getElem?_map, e']; rfl
theorem opv_ix {K : PySem.W.Frag} : OpV K (rIx K) oIx := by
  intro G H x y d v u Q s e hx hy k
  cases y with
  | int i =>
    cases hy.int
    cases x with
    | lst ds =>
      obtain ⟨d', q, e'⟩ := mpd e
      subst e'
      obtain ⟨p, vs, rfl, h1, h2⟩ := hx.lst s
      obtain ⟨w, e1, e2⟩ := atI_reps h2 q
      exact .inl ⟨p, vs, i, w, rfl, rfl, SqL.of h1, e1, k _ G H (Ext.refl s) e2⟩
    | tup ds =>
      obtain ⟨d', q, e'⟩ := mpd e
      subst e'
      obtain ⟨p, vs, rfl, h1, h2⟩ := hx.tup
      obtain ⟨w, e1, e2⟩ := atI_reps h2 q
      exact .inr (.inl ⟨p, vs, i, w, rfl, rfl, SqT.of (s _ _ h1), e1, k _ G H (Ext.refl s) e2⟩)
    | scr ns =>
      obtain ⟨n, q, e'⟩ := mpd e
      subst e'
      obtain ⟨p, rfl, h1⟩ := hx.scr
      exact .inl ⟨p, _, i, .int n, rfl, rfl, s.seq h1, atI_ints q, k _ G H (Ext.refl s) rfl⟩
    | _ => cases e
  | _ => cases x <;> cases e
theorem xe_item (ha : XV X a f) (hb : XV X b g) (hs : PlainIx b := by exact fun _ _ => rfl) : XE X (.Subscript a b pos) (fOpE oIx f g) := xe_ix ix_seq opv_ix ha hb hs
abbrev FO := WSt → Option (Option Int)
def SimO (K : PySem.W.Frag) (t : TO) (f : FO) : Prop := ∀ G0 H0 G ω σ H o (Q : Option Int → Hp → Prop), Own K G0 H0 G ω σ H → f ω = some o → (∀ G' H', Ext G H G' H' → Q o H') → t σ H Q
def XO (X : Cx) (e : Option Expr) (f : FO) : Prop := ∃ t, PO X e t ∧ SimO X.K t f
def pNo : FO := fun _ => some none
def pAt (f : FD) : FO := fun ω => (f ω).bind fun d => match d with | .int i => some (some i) | _ => none
theorem xo_none : XO X none pNo := ⟨_, po_none, fun G0 H0 G ω σ H o Q ow e k => by cases e; exact k G H (Ext.refl ow.gh)⟩
theorem xo_some (h : XV X a f) : XO X (some a) (pAt f) := by
  obtain ⟨t, h1, h2⟩ := h
  refine ⟨_, po_some h1, fun G0 H0 G ω σ H o Q ow e k => ?_⟩
  obtain ⟨d, q, e⟩ := bnd e
  refine h2 G0 H0 G ω σ H d _ ow q fun v G1 H1 x1 y1 => ?_
  cases d with
  | int i => cases e; cases y1.int; exact ⟨i, rfl, k G1 H1 x1⟩
  | _ => cases e
def cutD {α : Type} (xs : List α) (lo hi : Option Int) : List α := (xs.drop (HT.sIx xs.length 0 lo)).take (HT.sIx xs.length xs.length hi - HT.sIx xs.length 0 lo)
theorem cut_reps {K : PySem.W.Frag} {H : Hp} {ds : List D} {vs : List V} (h : Reps K H ds vs) (lo hi : Option Int) : Reps K H (cutD ds lo hi) (cutV vs lo hi) := by
  unfold cutD cutV
  rw [h.len]
  exact (h.drop _).take _
theorem cut_ints (ns : List Int) (lo hi : Option Int) : cutV (ns.map V.int) lo hi = (cutD ns lo hi).map V.int := by
  unfold cutD cutV
  rw [List.length_map, List.map_take, List.map_drop]
def oSl : D → Option Int → Option Int → Option R
  | .lst ds, lo, hi => some (.fr (cutD ds lo hi))
  | .scr ns, lo, hi => some (.fr ((cutD ns lo hi).map D.int))
  | .tup ds, lo, hi => if HT.sIx ds.length 0 lo = 0 ∧ HT.sIx ds.length ds.length hi = ds.length then some (.sh (.tup ds)) else some (.sh (.tup (cutD ds lo hi)))
  | _, _, _ => none
def fSl (f : FD) (l h : FO) : FE := fun ω => (f ω).bind fun d => (l ω).bind fun lo => (h ω).bind fun hi => oSl d lo hi
theorem xe_slice {lo hi : Option Expr} {l h : FO} {p2 : Pos} (ha : XV X a f) (hl : XO X lo l) (hh : XO X hi h) : XE X (.Subscript a (.Slice lo hi none p2) pos) (fSl f l h) := by
  obtain ⟨t, h1, h2⟩ := ha
  obtain ⟨tl, h3, h4⟩ := hl
  obtain ⟨th, h5, h6⟩ := hh
  refine ⟨_, pe_slice (sl_list.or (sl_tup.or sl_whole)) h1 h3 h5, fun G0 H0 G ω σ H r Q ow e k => ?_⟩
  obtain ⟨d, q, e⟩ := bnd e
  obtain ⟨lo', q2, e⟩ := bnd e
  obtain ⟨hi', q3, e⟩ := bnd e
  refine h2 G0 H0 G ω σ H d _ ow q fun v G1 H1 x1 y1 => ?_
  refine h4 G0 H0 G1 ω σ H1 lo' _ (ow.keep x1) q2 fun G2 H2 x2 => ?_
  refine h6 G0 H0 G2 ω σ H2 hi' _ ((ow.keep x1).keep x2) q3 fun G3 H3 x3 => ?_
  have y3 := (y1.keep x2).keep x3
  have x13 := (x1.trans x2).trans x3
  cases d with
  | lst ds =>
    cases e
    obtain ⟨p, vs, rfl, h1, h2⟩ := y3.lst x3.gh
    refine .inl ⟨p, vs, rfl, SqL.of h1, fun n hn => ?_⟩
    exact k _ G3 _ (x13.trans (Ext.hide x3.gh hn _)) ⟨n, _, rfl, x13.hh.free hn, x3.gh.free hn, upd_same, cut_reps h2 _ _⟩
  | scr ns =>
    cases e
    obtain ⟨p, rfl, h1⟩ := y3.scr
    refine .inl ⟨p, _, rfl, x3.gh.seq h1, fun n hn => ?_⟩
    refine k _ G3 _ (x13.trans (Ext.hide x3.gh hn _)) ⟨n, _, rfl, x13.hh.free hn, x3.gh.free hn, upd_same, ?_⟩
    rw [cut_ints]
    exact Reps.ints _
  | tup ds =>
    unfold oSl at e
    dsimp only at e
    obtain ⟨p, vs, rfl, h1, h2⟩ := y3.tup
    by_cases z : HT.sIx ds.length 0 lo' = 0 ∧ HT.sIx ds.length ds.length hi' = ds.length
    · rw [if_pos z] at e
      cases e
      exact .inr (.inr ⟨p, vs, rfl, SqT.of (x3.gh _ _ h1), by rw [← h2.len]; exact z, k _ G3 H3 x13 ⟨p, vs, rfl, h1, h2⟩⟩)
    · rw [if_neg z] at e
      cases e
      refine .inr (.inl ⟨p, vs, rfl, SqT.of (x3.gh _ _ h1), by rw [← h2.len]; exact z, fun n hn => ?_⟩)
      have x4 := Ext.lay x3.gh hn (.tup (cutV vs lo' hi'))
      exact k _ _ _ (x13.trans x4) ⟨n, _, rfl, upd_same, (cut_reps h2 _ _).mono x4.gg⟩
  | _ => cases e
end
end Hk
set_option maxRecDepth 100000
namespace Hk
open PySem L2
section
variable {X : Cx} {a b c : Expr} {pos : Pos} {rest : List Expr} {f g : FT}
def tAndF (f g : FT) : FT := fun ω => (f ω).bind fun c => if c = true then g ω else some false
def tOrF (f g : FT) : FT := fun ω => (f ω).bind fun c => if c = true then some true else g ω
def tNotF (f : FT) : FT := fun ω => (f ω).map (!·)
theorem simT_or {t u : TT} (h : SimT X.K t f) (h' : SimT X.K u g) : SimT X.K (tOr t u) (tOrF f g) := by
  intro G0 H0 G ω σ H b Q o e k
  obtain ⟨c, q, e⟩ := bnd e
  refine h G0 H0 G ω σ H c _ o q fun G1 H1 x1 => ?_
  cases c with
  | true => cases e; exact k G1 H1 x1
  | false => exact h' G0 H0 G1 ω σ H1 b Q (o.keep x1) e fun G2 H2 x2 => k G2 H2 (x1.trans x2)
theorem xw_or1 (h : XT X a f) : XW X (.BoolOp .Or [a] pos) f := let ⟨t, h1, h2⟩ := h; ⟨t, pw_or1 h1, h2⟩
theorem xw_or (h : XT X a f) (h' : XW X (.BoolOp .Or (b :: rest) pos) g) : XW X (.BoolOp .Or (a :: b :: rest) pos) (tOrF f g) := let ⟨_, h1, h2⟩ := h; let ⟨_, h3, h4⟩ := h'; ⟨_, pw_or h1 h3, simT_or h2 h4⟩
theorem XW.toT (h : XW X a f) : XT X a f := let ⟨t, h1, h2⟩ := h; ⟨t, h1.pt, h2⟩
theorem xt_not (h : XT X a f) : XT X (.UnaryOp .Not a pos) (tNotF f) := by
  obtain ⟨t, h1, h2⟩ := h
  refine ⟨_, pt_not h1, fun G0 H0 G ω σ H b Q o e k => ?_⟩
  obtain ⟨c, q, e⟩ := mpd e
  subst e
  exact h2 G0 H0 G ω σ H c _ o q k
def truD : D → Option Bool
  | .non => some false
  | .bl b => some b
  | .int i => some (i != 0)
  | .lst xs => some (!xs.isEmpty)
  | .tup xs => some (!xs.isEmpty)
  | _ => none
def tTru (f : FD) : FT := fun ω => (f ω).bind truD
theorem isEmpty_len {α β : Type} {xs : List α} {ys : List β} (h : xs.length = ys.length) : xs.isEmpty = ys.isEmpty := by
  cases xs <;> cases ys <;> first | rfl | cases h
theorem xt_val {f : FD} (h : XV X a f) (he : ∀ whole, isTrue a X.env whole = (do let v ← whole; standAt a.pos; holding [v] (truthy v)) := by intro _; rfl) : XT X a (tTru f) := by
  obtain ⟨t, h1, h2⟩ := h
  refine ⟨_, pt_truth h1 he, fun G0 H0 G ω σ H b Q o e k => ?_⟩
  obtain ⟨d, q, e⟩ := bnd e
  refine h2 G0 H0 G ω σ H d _ o q fun v G1 H1 x1 y1 => ⟨b, ?_, k G1 H1 x1⟩
  cases d with
  | non => cases e; cases y1.non; rfl
  | bl c => cases e; cases y1.bl; rfl
  | int i => cases e; cases y1.int; rfl
  | lst xs =>
    cases e
    obtain ⟨p, vs, rfl, h1, h2⟩ := y1.lst x1.gh
    exact .inl ⟨vs, SqL.of h1, by rw [isEmpty_len h2.len]⟩
  | tup xs =>
    cases e
    obtain ⟨p, vs, rfl, h1, h2⟩ := y1.tup
    exact .inr (.inl ⟨vs, SqT.of (x1.gh _ _ h1), by rw [isEmpty_len h2.len]⟩)
  | _ => cases e
def blOf : D → Option Bool
  | .bl b => some b
  | _ => none
def vAnd (f g : FD) : FD := fun ω => (f ω).bind fun d => (blOf d).bind fun c => if c = true then g ω else some (.bl false)
def vOr (f g : FD) : FD := fun ω => (f ω).bind fun d => (blOf d).bind fun c => if c = true then some (.bl true) else g ω
def vNot (f : FD) : FD := fun ω => (f ω).bind fun d => (blOf d).map fun c => .bl (!c)
def fIte (c : FT) (f g : FE) : FE := fun ω => (c ω).bind fun k => if k = true then f ω else g ω
variable {fa fb : FD}
theorem xd_one {op} (h : XD X a fa) : XD X (.BoolOp op [a] pos) fa := let ⟨t, h1, h2⟩ := h; ⟨t, pe_one h1, h2⟩
theorem xd_and (h : XD X a fa) (h' : XD X (.BoolOp .And (b :: rest) pos) fb) : XD X (.BoolOp .And (a :: b :: rest) pos) (vAnd fa fb) := by
  obtain ⟨t, h1, h2⟩ := h
  obtain ⟨u, h3, h4⟩ := h'
  refine ⟨_, pe_and h1 h3, fun G0 H0 G ω σ H d Q o e k => ?_⟩
  obtain ⟨x, q, e⟩ := bnd e
  obtain ⟨c, q2, e2⟩ := bnd e
  clear e
  refine h2 G0 H0 G ω σ H x _ o q fun v G1 H1 x1 y1 => ?_
  cases x with
  | bl z =>
    cases q2
    cases (show v = V.bl c from y1)
    refine ⟨c, rfl, ?_⟩
    cases c with
    | true => rw [if_pos rfl] at e2 ⊢; exact h4 G0 H0 G1 ω σ H1 d Q (o.keep x1) e2 fun v G2 H2 x2 y2 => k v G2 H2 (x1.trans x2) y2
    | false => cases e2; exact k _ G1 H1 x1 rfl
  | _ => cases q2
theorem xd_not (h : XD X a fa) : XD X (.UnaryOp .Not a pos) (vNot fa) := by
  obtain ⟨t, h1, h2⟩ := h
  refine ⟨_, pe_not h1, fun G0 H0 G ω σ H d Q o e k => ?_⟩
  obtain ⟨x, q, e⟩ := bnd e
  obtain ⟨c, q2, e⟩ := mpd e
  subst e
  refine h2 G0 H0 G ω σ H x _ o q fun v G1 H1 x1 y1 => ?_
  cases x with
  | bl z => cases q2; cases (show v = V.bl c from y1); exact ⟨c, rfl, k _ G1 H1 x1 rfl⟩
  | _ => cases q2
theorem RepR.after {K : PySem.W.Frag} {G H G1 H1 G2 H2 : Hp} {r : R} {v : V} (x : Ext G H G1 H1) (y : RepR K H1 G2 H2 r v) : RepR K H G2 H2 r v := by
  cases r with
  | sh d => exact y
  | fr ds => obtain ⟨l, vs, e1, e2, e3⟩ := y; exact ⟨l, vs, e1, x.hh.free e2, e3⟩
  | vw ds => exact y
end
def CallD (K : PySem.W.Frag) (r : List V → Hp → VK → Prop) (op : List D → Option R) : Prop := ∀ G H ds vs d (Q : VK), Same G H → op ds = some d → VwA K G H ds vs →
  (∀ w G' H', Ext G H G' H' → RepR K H G' H' d w → Q w H') → r vs H Q
def fBlt (op : List D → Option R) (g : FA) : FE := fun ω => (g ω).bind op
section
variable {X : Cx} {e : Expr} {es : List Expr} {x : Str} {p pos : Pos} {r : List V → Hp → VK → Prop} {op : List D → Option R} {g : FA} {id T : String}
theorem sim_blt {t : TA} (hd : CallD X.K r op) (h : SimVA X.K t g) : SimE X.K (tCB r t) (fBlt op g) := by
  intro G0 H0 G ω σ H d Q o e k
  obtain ⟨ds, q, e⟩ := bnd e
  refine h G0 H0 G ω σ H ds _ o q fun vs G1 H1 x1 y1 => ?_
  exact hd G1 H1 ds vs d Q x1.gh e y1 fun w G2 H2 x2 y2 => k w G2 H2 (x1.trans x2) (y2.after x1)
theorem xe_blt (hc : CallR X (.builtin id) r) (hd : CallD X.K r op) (hg : Gl X x) (hm : X.mg x = none) (hv : bootBuiltins x = some (.builtin id)) (ha : XVA X (e :: es) g) (hn : x ≠ "__name__" := by decide) (hdb : (x == ("__debug__" : Str)) = false := by decide)
    (he : starEach (e :: es) X.env = (false, eval e X.env) :: starEach es X.env := by rfl) (hpl : (backTo pos (starEach es X.env)).any (·.1) = false := by rfl) : XE X (.Call (.Name x p) (e :: es) [] pos) (fBlt op g) := by
  obtain ⟨t, h1, h2⟩ := ha
  exact ⟨_, pe_callB hc hg hm hv h1 hn hdb he hpl, sim_blt hd h2⟩
theorem xe_ty (hc : CallR X (.type T) r) (hd : CallD X.K r op) (hg : Gl X x) (hm : X.mg x = none) (hv : bootBuiltins x = some (.type T)) (ha : XVA X (e :: es) g) (hn : x ≠ "__name__" := by decide) (hdb : (x == ("__debug__" : Str)) = false := by decide)
    (he : starEach (e :: es) X.env = (false, eval e X.env) :: starEach es X.env := by rfl) (hpl : (backTo pos (starEach es X.env)).any (·.1) = false := by rfl) : XE X (.Call (.Name x p) (e :: es) [] pos) (fBlt op g) := by
  obtain ⟨t, h1, h2⟩ := ha
  exact ⟨_, pe_callTy hc hg hm hv h1 hn hdb he hpl, sim_blt hd h2⟩
theorem VwA.one {K : PySem.W.Frag} {G H : Hp} {d : D} {vs : List V} (h : VwA K G H [d] vs) : ∃ v, vs = [v] ∧ Vw K G H d v := by
  obtain ⟨v, r, h1, h2, h3⟩ := h
  cases (show r = [] from h3)
  exact ⟨v, h1, h2⟩
theorem VwA.two {K : PySem.W.Frag} {G H : Hp} {d e : D} {vs : List V} (h : VwA K G H [d, e] vs) : ∃ v u, vs = [v, u] ∧ Vw K G H d v ∧ Vw K G H e u := by
  obtain ⟨v, r, h1, h2, h3⟩ := h
  obtain ⟨u, rfl, h4⟩ := VwA.one h3
  exact ⟨v, u, h1, h2, h4⟩
def bLen : List D → Option R
  | [.lst ds] => some (.sh (.int ds.length))
  | [.tup ds] => some (.sh (.int ds.length))
  | [.scr ns] => some (.sh (.int ns.length))
  | _ => none
theorem cd_len {K : PySem.W.Frag} : CallD K (fun xs H Q => ∃ p ys, xs = [.ref p] ∧ (SqL K H p ys ∨ SqT K H p ys) ∧ Q (.int ys.length) H) bLen := by
  intro G H ds vs d Q s e hv k
  match ds, e with
  | [.lst ds], e =>
    cases e
    obtain ⟨v, rfl, h⟩ := hv.one
    obtain ⟨p, us, rfl, h1, h2⟩ := h.lst s
    exact ⟨p, us, rfl, .inl (SqL.of h1), k _ G H (Ext.refl s) (by show V.int _ = V.int _; rw [h2.len])⟩
  | [.tup ds], e =>
    cases e
    obtain ⟨v, rfl, h⟩ := hv.one
    obtain ⟨p, us, rfl, h1, h2⟩ := h.tup
    exact ⟨p, us, rfl, .inr (SqT.of (s _ _ h1)), k _ G H (Ext.refl s) (by show V.int _ = V.int _; rw [h2.len])⟩
  | [.scr ns], e =>
    cases e
    obtain ⟨v, rfl, h⟩ := hv.one
    obtain ⟨p, rfl, h1⟩ := h.scr
    exact ⟨p, _, rfl, .inl (s.seq h1), k _ G H (Ext.refl s) (by show V.int _ = V.int _; rw [List.length_map])⟩
def bList : List D → Option R
  | [.lst ds] => some (.fr ds)
  | [.tup ds] => some (.fr ds)
  | _ => none
theorem cd_list {K : PySem.W.Frag} : CallD K (fun xs H Q => ∃ p ys, xs = [.ref p] ∧ (SqL K H p ys ∨ SqT K H p ys) ∧ ∀ l, H l = none → Q (.ref l) (upd H l (.lst ys))) bList := by
  intro G H ds vs d Q s e hv k
  match ds, e with
  | [.lst ds], e =>
    cases e
    obtain ⟨v, rfl, h⟩ := hv.one
    obtain ⟨p, us, rfl, h1, h2⟩ := h.lst s
    exact ⟨p, us, rfl, .inl (SqL.of h1), fun l hl => k _ G _ (Ext.hide s hl _) ⟨l, us, rfl, hl, s.free hl, upd_same, h2⟩⟩
  | [.tup ds], e =>
    cases e
    obtain ⟨v, rfl, h⟩ := hv.one
    obtain ⟨p, us, rfl, h1, h2⟩ := h.tup
    exact ⟨p, us, rfl, .inr (SqT.of (s _ _ h1)), fun l hl => k _ G _ (Ext.hide s hl _) ⟨l, us, rfl, hl, s.free hl, upd_same, h2⟩⟩
def bTuple : List D → Option R
  | [.lst ds] => some (.sh (.tup ds))
  | [.tup ds] => some (.sh (.tup ds))
  | _ => none
end
section
variable {X : Cx}
end
inductive Ty where
  | non | bl | int | str | lst | tup | dic
def Ty.n : Ty → String
  | .non => "NoneType"
  | .bl => "bool"
  | .int => "int"
  | .str => "str"
  | .lst => "list"
  | .tup => "tuple"
  | .dic => "dict"
def tyD : D → Ty
  | .non => .non
  | .bl _ => .bl
  | .int _ => .int
  | .str _ => .str
  | .lst _ => .lst
  | .tup _ => .tup
  | .scr _ => .lst
  | .exc _ => .non
  | .dic _ _ => .non
def subT : Ty → Ty → Bool
  | .non, .non => true
  | .bl, .bl => true
  | .bl, .int => true
  | .int, .int => true
  | .str, .str => true
  | .lst, .lst => true
  | .tup, .tup => true
  | _, _ => false
def fIsi (c : Ty) (f : FD) : FE := fun ω => (f ω).bind fun d => match d with
  | .scr _ => none
  | .exc _ => none
  | .dic _ _ => none
  | d => some (.sh (.bl (subT (tyD d) c)))
def IsT (K : PySem.W.Frag) (c : Ty) : Prop := ∀ t : Ty, t ≠ .dic → PySem.W.kitOne K (.type t.n) (.type c.n) = some (subT t c)
def rIsi (K : PySem.W.Frag) : List V → Hp → VK → Prop := fun xs H Q => ∃ x c T b, xs = [x, .ty c] ∧ TyOf K H x (.type T) ∧ PySem.W.kitOne K (.type T) (.type c) = some b ∧ Q (.bl b) H
section
variable {X : Cx} {a : Expr} {f : FD}
theorem call_isi : CallR X (.builtin "isinstance") (rIsi X.K) := by
  intro pins s σ H xs us Q I r h
  obtain ⟨x, c, T, b, rfl, ty, e, q⟩ := h
  obtain ⟨u1, u2, rfl, r2, r3⟩ := vals2 r
  cases (show u2 = Value.type c from r3)
  exact isinst_ok I r2 ty e fun tk => ⟨.bl b, H, I.tok tk, rfl, q⟩
theorem tyOf_vw {K : PySem.W.Frag} {G H : Hp} {d : D} {v : V} (h : Vw K G H d v) (s : Same G H) (n : ∀ ns, d ≠ .scr ns) (n' : ∀ c, d ≠ .exc c) (n'' : ∀ ks ds, d ≠ .dic ks ds) : TyOf K H v (.type (tyD d).n) := by
  cases d with
  | non => cases h.non; exact .non
  | bl b => cases h.bl; exact .bl b
  | int i => cases h.int; exact .int i
  | str x => cases h.str; exact .str x
  | lst ds => obtain ⟨p, us, rfl, h1, _⟩ := h.lst s; exact .lst h1
  | tup ds => obtain ⟨p, us, rfl, h1, _⟩ := h.tup; exact .tup (s _ _ h1)
  | scr ns => exact absurd rfl (n ns)
  | exc c => exact absurd rfl (n' c)
  | dic ks ds => exact absurd rfl (n'' ks ds)
theorem tyD_in (d : D) : tyD d ≠ .dic := by cases d <;> exact fun z => nomatch z
theorem xe_isi {c : Ty} {x : Str} {p q pos : Pos} (ha : XV X a f) (hk : IsT X.K c) (hg : Gl X "isinstance") (hm : X.mg "isinstance" = none) (hgc : Gl X x) (hmc : X.mg x = none) (hvc : bootBuiltins x = some (.type c.n)) (hnx : x ≠ "__name__" := by decide) (hdx : (x == ("__debug__" : Str)) = false := by decide)
    (he : starEach [a, .Name x q] X.env = (false, eval a X.env) :: starEach [.Name x q] X.env := by rfl) (he2 : starEach [.Name x q] X.env = (false, eval (.Name x q) X.env) :: starEach [] X.env := by rfl) (hpl : (backTo pos (starEach [.Name x q] X.env)).any (·.1) = false := by rfl) :
    XE X (.Call (.Name "isinstance" p) [a, .Name x q] [] pos) (fIsi c f) := by
  obtain ⟨t, h1, h2⟩ := ha
  refine ⟨_, pe_callB call_isi hg hm PyProof.Rows.boot_isinstance (pa_cons h1 (pa_cons (pe_bltn hgc hmc hvc (v := .ty c.n) rfl hnx hdx) pa_nil he2) he) (by decide) (by decide) he hpl, fun G0 H0 G ω σ H r Q o e k => ?_⟩
  obtain ⟨d, q, e⟩ := bnd e
  refine h2 G0 H0 G ω σ H d _ o q fun v G1 H1 x1 y1 => ?_
  have n : ∀ ns, d ≠ .scr ns := fun ns z => by subst z; cases e
  have n' : ∀ c, d ≠ .exc c := fun ns z => by subst z; cases e
  have n'' : ∀ ks ds, d ≠ .dic ks ds := fun ks ds z => by subst z; cases e
  have e' : r = .sh (.bl (subT (tyD d) c)) := by
    cases d <;> first | (cases e; rfl) | cases e
  subst e'
  exact ⟨v, c.n, (tyD d).n, subT (tyD d) c, rfl, tyOf_vw y1 x1.gh n n' n'', hk _ (tyD_in d), k _ G1 H1 x1 rfl⟩
end
end Hk
set_option maxRecDepth 100000
namespace Hk
open PySem L2
inductive Out where
  | nx | bk | ct | rt (r : O)
abbrev FS := WSt → Option (Out × WSt)
def Post (K : PySem.W.Frag) (H0 G' : Hp) (E : Ends) : Out → St → Hp → Prop
  | .nx, σ, H => E.nx σ H
  | .bk, σ, H => E.bk σ H
  | .ct, σ, H => E.ct σ H
  | .rt r, _, H => ∀ v, RepR K H0 G' H r.r v → E.rt v H
def SimS (K : PySem.W.Frag) (t : TS) (f : FS) : Prop := ∀ G0 H0 G ω σ H out ω' (E : Ends), Own K G0 H0 G ω σ H → f ω = some (out, ω') →
  (∀ G' σ' H', Own K G0 H0 G' ω' σ' H' → Same G G' → Post K H0.hp G' E out σ' H') → t E σ H
def XS (X : Cx) (st : Stmt) (f : FS) : Prop := ∃ t, PS X st t ∧ SimS X.K t f
def XSs (X : Cx) (st : List Stmt) (f : FS) : Prop := ∃ t, PSs X st t ∧ SimS X.K t f
def sNil : FS := fun ω => some (.nx, ω)
def sSeq (f g : FS) : FS := fun ω => (f ω).bind fun p => match p.1 with
  | .nx => g p.2
  | o => some (o, p.2)
section
variable {X : Cx} {st : Stmt} {rest : List Stmt} {f g : FS}
theorem xss_nil : XSs X [] sNil := ⟨_, pss_nil, fun G0 H0 G ω σ H out ω' E o e k => by cases e; exact k G σ H o (Same.refl _)⟩
theorem xss_one (h : XS X st f) : XSs X [st] f := let ⟨t, h1, h2⟩ := h; ⟨t, pss_one h1, h2⟩
theorem xss_cons (h : XS X st f) (h' : XSs X rest g) : XSs X (st :: rest) (sSeq f g) := by
  obtain ⟨t, h1, h2⟩ := h
  obtain ⟨u, h3, h4⟩ := h'
  refine ⟨_, pss_cons h1 h3, fun G0 H0 G ω σ H out ω' E o e k => ?_⟩
  obtain ⟨⟨o1, ω1⟩, q, e⟩ := bnd e
  refine h2 G0 H0 G ω σ H o1 ω1 _ o q fun G1 σ1 H1 w1 g1 => ?_
  cases o1 with
  | nx => exact h4 G0 H0 G1 ω1 σ1 H1 out ω' E w1 e fun G2 σ2 H2 w2 g2 => k G2 σ2 H2 w2 (g1.trans g2)
  | bk => cases e; exact k G1 σ1 H1 w1 g1
  | ct => cases e; exact k G1 σ1 H1 w1 g1
  | rt r => cases e; exact k G1 σ1 H1 w1 g1
end
section
variable {K : PySem.W.Frag} {G0 : Hp} {H0 : Fr} {G : Hp} {ω : WSt} {σ : St} {H : Hp}
theorem get_set {α : Type} {l : List α} {i j : Nat} {x y : α} (h : (l.set i x)[j]? = some y) : (i = j ∧ i < l.length ∧ y = x) ∨ (i ≠ j ∧ l[j]? = some y) := by
  rw [List.getElem?_set] at h
  by_cases e : i = j
  · rw [if_pos e] at h
    by_cases z : i < l.length
    · rw [if_pos z] at h; exact .inl ⟨e, z, (Option.some.inj h).symm⟩
    · rw [if_neg z] at h; cases h
  · rw [if_neg e] at h; exact .inr ⟨e, h⟩
theorem set_self {α : Type} {l : List α} {i : Nat} {x : α} (h : i < l.length) : (l.set i x)[i]? = some x := List.getElem?_set_self h
theorem PwOk.set {i : Nat} {w : Option W} {v : Option V} (o : PwOk K H0 G ω σ H) (hw : ∀ ds, w ≠ some (.pw ds)) (hv : ∀ ds, w = some (.ow ds) → ∀ (j : Nat) es, ω[j]? = some (some (.pw es)) → v ≠ some (.ref (H0.pin j))) : PwOk K H0 G (ω.set i w) (σ.set i v) H := by
  intro j ds hj
  rcases get_set hj with ⟨rfl, hl, z⟩ | ⟨ne, z⟩
  · exact absurd z.symm (hw ds)
  · obtain ⟨vs, h1, h2, h3, h4, h5, h6, h7⟩ := o j ds z
    refine ⟨vs, by rw [List.getElem?_set_ne ne]; exact h1, h2, h3, h4, h5, fun k es hk => ?_, fun k es hk sk => ?_⟩
    · rcases get_set hk with ⟨rfl, hl', z'⟩ | ⟨ne', z'⟩
      · exact absurd z'.symm (hw es)
      · exact h6 k es z'
    · rcases get_set hk with ⟨rfl, hl', z'⟩ | ⟨ne', z'⟩
      · rcases get_set sk with ⟨_, _, e⟩ | ⟨ne2, _⟩
        · exact hv es z'.symm j ds z e.symm
        · exact ne2 rfl
      · rw [List.getElem?_set_ne ne'] at sk; exact h7 k es z' sk
theorem PwOk.setW {i : Nat} {w : Option W} (o : PwOk K H0 G ω σ H) (hw : ∀ ds, w ≠ some (.pw ds)) (ho : ∀ ds, w ≠ some (.ow ds)) : PwOk K H0 G (ω.set i w) σ H := by
  intro j ds hj
  rcases get_set hj with ⟨rfl, hl, z⟩ | ⟨ne, z⟩
  · exact absurd z.symm (hw ds)
  · obtain ⟨vs, h1, h2, h3, h4, h5, h6, h7⟩ := o j ds z
    refine ⟨vs, h1, h2, h3, h4, h5, fun k es hk => ?_, fun k es hk => ?_⟩
    · rcases get_set hk with ⟨rfl, hl', z'⟩ | ⟨ne', z'⟩
      · exact absurd z'.symm (hw es)
      · exact h6 k es z'
    · rcases get_set hk with ⟨rfl, hl', z'⟩ | ⟨ne', z'⟩
      · exact absurd z'.symm (ho es)
      · exact h7 k es z'
theorem PwOk.upd {p : Addr} {ob : HO} (o : PwOk K H0 G ω σ H) (hp : ∀ (j : Nat) es, ω[j]? = some (some (.pw es)) → H0.pin j ≠ p) : PwOk K H0 G ω σ (upd H p ob) := by
  intro j ds hj
  obtain ⟨vs, h1, h2, h3⟩ := o j ds hj
  exact ⟨vs, h1, by rw [upd_ne (hp j ds hj)]; exact h2, h3⟩
theorem PwOk.grow {p : Addr} {ob : HO} (o : PwOk K H0 G ω σ H) (g : G p = none) (hp : ∀ (j : Nat) es, ω[j]? = some (some (.pw es)) → H0.pin j ≠ p) : PwOk K H0 (L2.upd G p ob) ω σ H := by
  intro j ds hj
  obtain ⟨vs, h1, h2, h3, h4, h5, h6⟩ := o j ds hj
  exact ⟨vs, h1, h2, by rw [upd_ne (hp j ds hj)]; exact h3, h4, h5.mono (same_upd g _), h6⟩
theorem PwOk.ne_ow {i : Nat} {ds : List D} {l : Addr} (o : PwOk K H0 G ω σ H) (hi : ω[i]? = some (some (.ow ds))) (hσ : σ[i]? = some (some (.ref l))) : ∀ (j : Nat) es, ω[j]? = some (some (.pw es)) → H0.pin j ≠ l := fun j es hj y => by
  obtain ⟨_, _, _, _, _, _, _, h7⟩ := o j es hj
  exact h7 i ds hi (by rw [y]; exact hσ)
theorem PwOk.ne_ob {l : Addr} (o : PwOk K H0 G ω σ H) (h : ∀ vs, H l ≠ some (.lst vs)) : ∀ (j : Nat) es, ω[j]? = some (some (.pw es)) → H0.pin j ≠ l := fun j es hj y => by
  obtain ⟨vs, _, h2, _⟩ := o j es hj
  exact h vs (by rw [← y]; exact h2)
theorem PwOk.setL {i : Nat} {ds es : List D} (o : PwOk K H0 G ω σ H) (hi : ω[i]? = some (some (.ow ds))) : PwOk K H0 G (ω.set i (some (.ow es))) σ H := by
  intro j ds' hj
  rcases get_set hj with ⟨rfl, hl, z⟩ | ⟨ne, z⟩
  · cases z
  · obtain ⟨vs, h1, h2, h3, h4, h5, h6, h7⟩ := o j ds' z
    refine ⟨vs, h1, h2, h3, h4, h5, fun k es hk => ?_, fun k es hk => ?_⟩
    · rcases get_set hk with ⟨rfl, hl', z'⟩ | ⟨ne', z'⟩
      · cases z'
      · exact h6 k es z'
    · rcases get_set hk with ⟨rfl, hl', z'⟩ | ⟨ne', z'⟩
      · exact h7 i ds hi
      · exact h7 k es z'
theorem Own.od_set {i : Nat} {w : Option W} {v : Option V} (o : Own K G0 H0 G ω σ H) (h : ∀ ks ds, w ≠ some (.od ks ds)) : ∀ (j : Nat) ks ds, (ω.set i w)[j]? = some (some (.od ks ds)) → ∃ p vs, (σ.set i v)[j]? = some (some (.ref p)) ∧ H p = some (.dK (kvsOf ks vs)) ∧ G p = none ∧ H0 p = none ∧ ks.length = ds.length ∧ Reps K G ds vs ∧
    ∀ (k : Nat) ks' es, (ω.set i w)[k]? = some (some (.od ks' es)) → (σ.set i v)[k]? = some (some (.ref p)) → j = k := by
  intro j ks ds hj
  rcases get_set hj with ⟨rfl, hl, z⟩ | ⟨ne, z⟩
  · exact absurd z.symm (h ks ds)
  · obtain ⟨p, vs, h1, h2, h3, h4, h5, h6, h7⟩ := o.od j ks ds z
    refine ⟨p, vs, by rw [List.getElem?_set_ne ne]; exact h1, h2, h3, h4, h5, h6, fun k ks' es hk sk => ?_⟩
    rcases get_set hk with ⟨rfl, hl', z'⟩ | ⟨ne', z'⟩
    · exact absurd z'.symm (h ks' es)
    · rw [List.getElem?_set_ne ne'] at sk
      exact h7 k ks' es z' sk
theorem Own.setSh {i : Nat} {d : D} {v : V} (o : Own K G0 H0 G ω σ H) (h : Rep K G d v) : Own K G0 H0 G (ω.set i (some (.sh d))) (σ.set i (some v)) H := by
  refine ⟨o.ext, by rw [List.length_set, List.length_set, o.len], fun j e hj => ?_, fun j ds hj => ?_, fun j k ds es l hj hk sj sk => ?_, o.od_set (fun _ _ z => by cases z), o.pw.set (fun _ z => by cases z) (fun _ z => by cases z)⟩
  · rcases get_set hj with ⟨rfl, hl, z⟩ | ⟨ne, z⟩
    · cases z; exact ⟨v, set_self (by rw [← o.len]; exact hl), h⟩
    · obtain ⟨u, h1, h2⟩ := o.sh j e z
      exact ⟨u, by rw [List.getElem?_set_ne ne]; exact h1, h2⟩
  · rcases get_set hj with ⟨rfl, hl, z⟩ | ⟨ne, z⟩
    · cases z
    · obtain ⟨l, vs, h1, h2⟩ := o.ow j ds z
      exact ⟨l, vs, by rw [List.getElem?_set_ne ne]; exact h1, h2⟩
  · rcases get_set hj with ⟨rfl, hl, z⟩ | ⟨ne, z⟩
    · cases z
    · rcases get_set hk with ⟨rfl, hl', z'⟩ | ⟨ne', z'⟩
      · cases z'
      · rw [List.getElem?_set_ne ne] at sj
        rw [List.getElem?_set_ne ne'] at sk
        exact o.nd j k ds es l z z' sj sk
theorem Own.setOw {i : Nat} {ds : List D} {l : Addr} {vs : List V} (o : Own K G0 H0 G ω σ H) (h1 : H l = some (.lst vs)) (h2 : G l = none) (h3 : H0 l = none) (h4 : Reps K G ds vs)
    (h5 : ∀ (j : Nat) es, ω[j]? = some (some (.ow es)) → σ[j]? ≠ some (some (.ref l))) (h6 : ∀ (j : Nat) es, ω[j]? = some (some (.pw es)) → H0.pin j ≠ l) : Own K G0 H0 G (ω.set i (some (.ow ds))) (σ.set i (some (.ref l))) H := by
  refine ⟨o.ext, by rw [List.length_set, List.length_set, o.len], fun j e hj => ?_, fun j es hj => ?_, fun j k es fs m hj hk sj sk => ?_, o.od_set (fun _ _ z => by cases z), o.pw.set (fun _ z => by cases z) (fun _ _ j es hj y => h6 j es hj (by cases y; rfl))⟩
  · rcases get_set hj with ⟨rfl, hl, z⟩ | ⟨ne, z⟩
    · cases z
    · obtain ⟨u, q1, q2⟩ := o.sh j e z
      exact ⟨u, by rw [List.getElem?_set_ne ne]; exact q1, q2⟩
  · rcases get_set hj with ⟨rfl, hl, z⟩ | ⟨ne, z⟩
    · cases z; exact ⟨l, vs, set_self (by rw [← o.len]; exact hl), h1, h2, h3, h4⟩
    · obtain ⟨m, us, q1, q2⟩ := o.ow j es z
      exact ⟨m, us, by rw [List.getElem?_set_ne ne]; exact q1, q2⟩
  · rcases get_set hj with ⟨e1, hl, z⟩ | ⟨ne, z⟩
    · rcases get_set hk with ⟨e2, hl', z'⟩ | ⟨ne', z'⟩
      · exact e1.symm.trans e2
      · rw [List.getElem?_set_ne ne'] at sk
        subst e1
        rw [set_self (by rw [← o.len]; exact hl)] at sj
        cases sj
        exact absurd sk (h5 k fs z')
    · rcases get_set hk with ⟨e2, hl', z'⟩ | ⟨ne', z'⟩
      · rw [List.getElem?_set_ne ne] at sj
        subst e2
        rw [set_self (by rw [← o.len]; exact hl')] at sk
        cases sk
        exact absurd sj (h5 j es z)
      · rw [List.getElem?_set_ne ne] at sj
        rw [List.getElem?_set_ne ne'] at sk
        exact o.nd j k es fs m z z' sj sk
theorem Own.mut {i : Nat} {ds es : List D} {l : Addr} {vs us : List V} (o : Own K G0 H0 G ω σ H) (hi : ω[i]? = some (some (.ow ds))) (hσ : σ[i]? = some (some (.ref l))) (h1 : H l = some (.lst vs)) (h2 : G l = none) (h3 : H0 l = none) (h4 : Reps K G es us) :
    Own K G0 H0 G (ω.set i (some (.ow es))) σ (upd H l (.lst us)) := by
  have ho : i < ω.length := (List.getElem?_eq_some_iff.mp hi).1
  refine ⟨⟨o.ext.gg, same_updR o.ext.gh h2 _, same_updR o.ext.hh h3 _, o.ext.new⟩, by rw [List.length_set, o.len], fun j e hj => ?_, fun j fs hj => ?_, fun j k fs gs m hj hk sj sk => ?_, fun j ks fs hj => ?_, (o.pw.upd (o.pw.ne_ow hi hσ)).setL hi⟩
  · rcases get_set hj with ⟨rfl, hl, z⟩ | ⟨ne, z⟩
    · cases z
    · exact o.sh j e z
  · rcases get_set hj with ⟨rfl, hl, z⟩ | ⟨ne, z⟩
    · cases z; exact ⟨l, us, hσ, upd_same, h2, h3, h4⟩
    · obtain ⟨m, ws, q1, q2, q3, q4, q5⟩ := o.ow j fs z
      have hm : m ≠ l := fun y => ne (o.nd i j ds fs l hi z hσ (by rw [← y]; exact q1))
      exact ⟨m, ws, q1, by rw [upd_ne hm]; exact q2, q3, q4, q5⟩
  · rcases get_set hj with ⟨e1, hl, z⟩ | ⟨ne, z⟩
    · rcases get_set hk with ⟨e2, hl', z'⟩ | ⟨ne', z'⟩
      · exact e1.symm.trans e2
      · subst e1; exact o.nd i k ds gs m hi z' sj sk
    · rcases get_set hk with ⟨e2, hl', z'⟩ | ⟨ne', z'⟩
      · subst e2; exact o.nd j i fs ds m z hi sj sk
      · exact o.nd j k fs gs m z z' sj sk
  · rcases get_set hj with ⟨e1, hl, z⟩ | ⟨ne, z⟩
    · cases z
    · obtain ⟨p, ws, q1, q2, q3, q4, q5, q6, q7⟩ := o.od j ks fs z
      have hp : p ≠ l := fun y => by rw [y, h1] at q2; cases q2
      refine ⟨p, ws, q1, by rw [upd_ne hp]; exact q2, q3, q4, q5, q6, fun k ks' es hk sk => ?_⟩
      rcases get_set hk with ⟨e2, hl', z'⟩ | ⟨ne', z'⟩
      · cases z'
      · exact q7 k ks' es z' sk
def share (i : Nat) (ω : WSt) : WSt := match ω[i]? with
  | some (some (.ow ds)) => ω.set i (some (.sh (.lst ds)))
  | some (some (.od ks ds)) => ω.set i (some (.sh (.dic ks ds)))
  | _ => ω
theorem Own.share (i : Nat) (o : Own K G0 H0 G ω σ H) : (∃ G', Same G G' ∧ Own K G0 H0 G' (share i ω) σ H) ∨ ∃ p kvs, σ[i]? = some (some (.ref p)) ∧ H p = some (.dK kvs) ∧ ∀ ob, ∃ G', Same G G' ∧ Own K G0 H0 G' (share i ω) σ (upd H p (.frz ob (.dK kvs))) := by
  unfold Hk.share
  cases q : ω[i]? with
  | none => exact .inl ⟨G, Same.refl _, o⟩
  | some w =>
    cases w with
    | none => exact .inl ⟨G, Same.refl _, o⟩
    | some w =>
      cases w with
      | sh d => exact .inl ⟨G, Same.refl _, o⟩
      | pw ds => exact .inl ⟨G, Same.refl _, o⟩
      | ow ds =>
        obtain ⟨l, vs, q1, q2, q3, q4, q5⟩ := o.ow i ds q
        have s1 : Same G (upd G l (.lst vs)) := same_upd q3 _
        have ho : i < ω.length := (List.getElem?_eq_some_iff.mp q).1
        refine .inl ⟨upd G l (.lst vs), s1, ⟨o.ext.gg.trans s1, fun b u z => ?_, o.ext.hh, fun b z1 z2 => ?_⟩, by rw [List.length_set, o.len], fun j e hj => ?_, fun j fs hj => ?_, fun j k fs gs m hj hk sj sk => ?_, fun j ks fs hj => ?_, (o.pw.grow q3 (o.pw.ne_ow q q1)).setW (fun _ z => by cases z) (fun _ z => by cases z)⟩
        · by_cases hb : b = l
          · subst hb; rw [upd_same] at z; rw [q2]; exact z
          · rw [upd_ne hb] at z; exact o.ext.gh b u z
        · rw [upd_ne (fun hb => z2 (by rw [hb]; exact q4))]; exact o.ext.new b z1 z2
        · rcases get_set hj with ⟨rfl, hl, z⟩ | ⟨ne, z⟩
          · cases z; exact ⟨_, q1, l, vs, rfl, upd_same, q5.mono s1⟩
          · obtain ⟨u, r1, r2⟩ := o.sh j e z
            exact ⟨u, r1, r2.mono s1⟩
        · rcases get_set hj with ⟨rfl, hl, z⟩ | ⟨ne, z⟩
          · cases z
          · obtain ⟨m, ws, r1, r2, r3, r4, r5⟩ := o.ow j fs z
            have hm : m ≠ l := fun y => ne (o.nd i j ds fs l q z q1 (by rw [← y]; exact r1))
            exact ⟨m, ws, r1, r2, by rw [upd_ne hm]; exact r3, r4, r5.mono s1⟩
        · rcases get_set hj with ⟨e1, hl, z⟩ | ⟨ne, z⟩
          · cases z
          · rcases get_set hk with ⟨e2, hl', z'⟩ | ⟨ne', z'⟩
            · cases z'
            · exact o.nd j k fs gs m z z' sj sk
        · rcases get_set hj with ⟨e1, hl, z⟩ | ⟨ne, z⟩
          · cases z
          · obtain ⟨m, ws, r1, r2, r3, r4, r5, r6, r7⟩ := o.od j ks fs z
            have hm : m ≠ l := fun y => by rw [y, q2] at r2; cases r2
            refine ⟨m, ws, r1, r2, by rw [upd_ne hm]; exact r3, r4, r5, r6.mono s1, fun k ks' es hk sk => ?_⟩
            rcases get_set hk with ⟨e2, hl', z'⟩ | ⟨ne', z'⟩
            · cases z'
            · exact r7 k ks' es z' sk
      | od ks0 ds =>
        obtain ⟨l, vs, q1, q2, q3, q4, q6, q5, q7⟩ := o.od i ks0 ds q
        refine .inr ⟨l, _, q1, q2, fun ob => ?_⟩
        have s1 : Same G (upd G l (.frz ob (.dK (kvsOf ks0 vs)))) := same_upd q3 _
        have ho : i < ω.length := (List.getElem?_eq_some_iff.mp q).1
        refine ⟨upd G l (.frz ob (.dK (kvsOf ks0 vs))), s1, ⟨o.ext.gg.trans s1, same_upd2 o.ext.gh _, same_updR o.ext.hh q4 _, fun b z1 z2 => ?_⟩, by rw [List.length_set, o.len], fun j e hj => ?_, fun j fs hj => ?_, fun j k fs gs m hj hk sj sk => ?_, fun j ks fs hj => ?_, ((o.pw.upd (o.pw.ne_ob fun vs z => by rw [q2] at z; cases z)).grow q3 (o.pw.ne_ob fun vs z => by rw [q2] at z; cases z)).setW (fun _ z => by cases z) (fun _ z => by cases z)⟩
        · rw [upd_ne (fun hb => z2 (by rw [hb]; exact q4))]; exact o.ext.new b z1 z2
        · rcases get_set hj with ⟨rfl, hl, z⟩ | ⟨ne, z⟩
          · cases z; exact ⟨_, q1, l, vs, rfl, ⟨ob, upd_same⟩, q6, q5.mono s1⟩
          · obtain ⟨u, r1, r2⟩ := o.sh j e z
            exact ⟨u, r1, r2.mono s1⟩
        · rcases get_set hj with ⟨rfl, hl, z⟩ | ⟨ne, z⟩
          · cases z
          · obtain ⟨m, ws, r1, r2, r3, r4, r5⟩ := o.ow j fs z
            have hm : m ≠ l := fun y => by rw [y, q2] at r2; cases r2
            exact ⟨m, ws, r1, by rw [upd_ne hm]; exact r2, by rw [upd_ne hm]; exact r3, r4, r5.mono s1⟩
        · rcases get_set hj with ⟨e1, hl, z⟩ | ⟨ne, z⟩
          · cases z
          · rcases get_set hk with ⟨e2, hl', z'⟩ | ⟨ne', z'⟩
            · cases z'
            · exact o.nd j k fs gs m z z' sj sk
        · rcases get_set hj with ⟨e1, hl, z⟩ | ⟨ne, z⟩
          · cases z
          · obtain ⟨m, ws, r1, r2, r3, r4, r5, r6, r7⟩ := o.od j ks fs z
            have hm : m ≠ l := fun y => ne (q7 j ks fs z (by rw [← y]; exact r1))
            refine ⟨m, ws, r1, by rw [upd_ne hm]; exact r2, by rw [upd_ne hm]; exact r3, r4, r5, r6.mono s1, fun k ks' es hk sk => ?_⟩
            rcases get_set hk with ⟨e2, hl', z'⟩ | ⟨ne', z'⟩
            · cases z'
            · exact r7 k ks' es z' sk
end
theorem Inv.freeze {X : Cx} {pins : List (Addr × Obj)} {σ : St} {H : Hp} {s : Shared} {p : Addr} {kvs : List (Key × V)} (I : Inv X pins σ H s) (hp : H p = some (.dK kvs)) : ∃ ob, Inv X pins σ (upd H p (.frz ob (.dK kvs))) s := by
  have ok := I.hok p _ hp
  obtain ⟨_, _, _, _, ob, _, _, e, _⟩ := id ok
  have stay : ∀ b u, ObjOk X.prog X.w H s.heap b u → ObjOk X.prog X.w (upd H p (.frz ob (.dK kvs))) s.heap b u := fun b u x =>
    x.stay (fun _ _ _ q => q) (fun c q => by rw [upd_ne (fun z => by rw [z, hp] at q; cases q)]; exact q) fun c xs q => by rw [upd_ne (fun z => by rw [z, hp] at q; cases q)]; exact q
  refine ⟨ob, I.step (H' := upd H p (.frz ob (.dK kvs))) (h' := s.heap) (g' := s.gens) (d' := s.drawn) (t' := s.toks) (ch := []) (fun _ z => nomatch z) (fun _ _ _ _ _ e _ => e) (fun _ o _ _ _ e _ => ⟨o.slots, e⟩) (fun b o _ _ n => by rw [upd_ne (fun z => by rw [z, hp] at n; cases n)]; exact n) (fun _ o _ e => ⟨o, e⟩)
    (fun b xs q => by rw [upd_ne (fun z => by rw [z, hp] at q; cases q)]; exact q) (fun b o u q => by rw [upd_ne (fun z => by rw [z, hp] at q; cases q)]; exact q) (fun b ps q => ⟨#[], by rw [upd_ne (fun z => by rw [z, hp] at q; cases q), q]; simp⟩) (fun _ hm => hm) (fun b u q => ?_) I.bare⟩
  by_cases z : b = p
  · subst z
    rw [upd_same] at q
    cases q
    exact ⟨e, stay _ _ ok⟩
  · rw [upd_ne z] at q
    exact stay b u (I.hok b u q)
theorem pss_freeze {X : Cx} {sts : List Stmt} {t : TS} (i : Nat) (h : PSs X sts t) : PSs X sts (fun D σ H => ∃ p kvs, σ[i]? = some (some (.ref p)) ∧ H p = some (.dK kvs) ∧ ∀ ob, t D σ (upd H p (.frz ob (.dK kvs)))) := by
  intro pins s σ H D I q
  obtain ⟨p, kvs, _, hp, q⟩ := q
  obtain ⟨ob, I'⟩ := Inv.freeze I hp
  exact h pins s σ _ D I' (q ob)
def sShare (i : Nat) (f : FS) : FS := fun ω => f (share i ω)
theorem xss_share {X : Cx} {sts : List Stmt} {f : FS} (i : Nat) (h : XSs X sts f) : XSs X sts (sShare i f) := by
  obtain ⟨t, h1, h2⟩ := h
  refine ⟨fun D σ H => t D σ H ∨ ∃ p kvs, σ[i]? = some (some (.ref p)) ∧ H p = some (.dK kvs) ∧ ∀ ob, t D σ (upd H p (.frz ob (.dK kvs))), fun pins s σ H D I q => ?_, fun G0 H0 G ω σ H out ω' E o e k => ?_⟩
  · rcases q with q | q
    · exact h1 pins s σ H D I q
    · exact pss_freeze i h1 pins s σ H D I q
  · rcases o.share i with ⟨G1, g1, o1⟩ | ⟨p, kvs, z1, z2, z3⟩
    · exact .inl (h2 G0 H0 G1 _ σ H out ω' E o1 e fun G2 σ2 H2 w2 g2 => k G2 σ2 H2 w2 (g1.trans g2))
    · refine .inr ⟨p, kvs, z1, z2, fun ob => ?_⟩
      obtain ⟨G1, g1, o1⟩ := z3 ob
      exact h2 G0 H0 G1 _ σ _ out ω' E o1 e fun G2 σ2 H2 w2 g2 => k G2 σ2 H2 w2 (g1.trans g2)
def setR (i : Nat) (r : R) (ω : WSt) : Option WSt := match r with
  | .sh d => some (ω.set i (some (.sh d)))
  | .fr ds => some (ω.set i (some (.ow ds)))
  | .vw _ => none
def sSet (i : Nat) (f : FE) : FS := fun ω => (f ω).bind fun r => (setR i r ω).map fun w => (.nx, w)
section
variable {X : Cx} {e : Expr} {f : FE} {pos pos' : Pos}
theorem sim_set {i : Nat} {t : TE} (h : SimE X.K t f) : SimS X.K (tAsg t (gName i)) (sSet i f) := by
  intro G0 H0 G ω σ H out ω' E o e k
  obtain ⟨r, q, e⟩ := bnd e
  obtain ⟨w, q2, e⟩ := mpd e
  cases e
  refine h G0 H0 G ω σ H r _ o q fun v G1 H1 x1 y1 => ?_
  have o1 := o.keep x1
  show E.nx (σ.set i (some v)) H1
  cases r with
  | sh d => cases q2; exact k G1 _ H1 (o1.setSh y1) x1.gg
  | fr ds =>
    cases q2
    obtain ⟨l, vs, rfl, e2, e3, e4, e5⟩ := y1
    refine k G1 _ H1 (o1.setOw e4 e3 (o.ext.hh.free e2) e5 (fun j es hj z => ?_) fun j es hj y => ?_) x1.gg
    · obtain ⟨m, us, q1, q2, _⟩ := o.ow j es hj
      rw [q1] at z
      cases z
      rw [e2] at q2
      cases q2
    · obtain ⟨us, _, q2, _⟩ := o.pw j es hj
      rw [y, e2] at q2
      cases q2
  | vw ds => cases q2
theorem xs_set {i : Nat} {x : Str} (hN : X.N.Nodup) (hi : X.N[i]? = some x) (hx : Loc X.env.scope x) (he : XE X e f) (hs : swapsWith e (some (.Name x pos')) pos.line X.env = pure false := by rfl) (hf : X.fn x = true ∨ X.env.scope.names.lookup x = some .local := by first | exact .inl rfl | exact .inr rfl | assumption) :
    XS X (.Assign [.Name x pos'] e pos) (sSet i f) := let ⟨_, h1, h2⟩ := he; ⟨_, ps_set hN hi hx h1 hs hf, sim_set h2⟩
abbrev FG := D → WSt → Option WSt
def SimG (K : PySem.W.Frag) (g : TG) (fg : FG) : Prop := ∀ G0 H0 G ω σ H d v ω' (Q : St → Hp → Prop), Own K G0 H0 G ω σ H → fg d ω = some ω' → Rep K G d v → (∀ σ', Own K G0 H0 G ω' σ' H → Q σ' H) → g v σ H Q
def XG (X : Cx) (tg : Expr) (fg : FG) : Prop := ∃ g, PG X tg g ∧ SimG X.K g fg
def gN (i : Nat) : FG := fun d ω => some (ω.set i (some (.sh d)))
theorem xg_name {i : Nat} {x : Str} (hN : X.N.Nodup) (hi : X.N[i]? = some x) (hx : Loc X.env.scope x) (hf : X.fn x = true ∨ X.env.scope.names.lookup x = some .local := by first | exact .inl rfl | exact .inr rfl | assumption) : XG X (.Name x pos) (gN i) :=
  ⟨_, pg_name hN hi hx hf, fun G0 H0 G ω σ H d v ω' Q o e h k => by cases e; exact k _ (o.setSh h)⟩
def gsNil : List D → WSt → Option WSt
  | [], ω => some ω
  | _, _ => none
def gsCons (f : FG) (g : List D → WSt → Option WSt) : List D → WSt → Option WSt
  | d :: ds, ω => (f d ω).bind fun w => g ds w
  | [], _ => none
def gT (n : Nat) (g : List D → WSt → Option WSt) : FG := fun d ω => match d with
  | .tup ds => if ds.length = n then g ds ω else none
  | _ => none
def sAsg (f : FD) (g : FG) : FS := fun ω => (f ω).bind fun d => (g d ω).map fun w => (.nx, w)
end
def sIf (c : FT) (f g : FS) : FS := fun ω => (c ω).bind fun b => if b = true then f ω else g ω
def sRet (f : FE) : FS := fun ω => (f ω).bind fun r => match r with
  | .sh d => some (.rt (.sh d), ω)
  | .fr ds => some (.rt (.fr ds), ω)
  | .vw _ => none
def sRetV (i : Nat) : FS := fun ω => match ω[i]? with
  | some (some (.sh d)) => some (.rt (.sh d), ω)
  | some (some (.ow ds)) => some (.rt (.fr ds), ω)
  | _ => none
def sRetN : FS := fun ω => some (.rt (.sh .non), ω)
def sNo : FS := fun _ => none
def sDrop (f : FE) : FS := fun ω => (f ω).map fun _ => (.nx, ω)
section
variable {X : Cx} {c e : Expr} {a b : List Stmt} {st : Stmt} {pos : Pos} {fc : FT} {f g : FS} {fe : FE}
theorem xs_if (hc : XT X c fc) (ha : XSs X a f) (hb : XSs X b g) : XS X (.If c a b pos) (sIf fc f g) := by
  obtain ⟨t, h1, h2⟩ := hc
  obtain ⟨u, h3, h4⟩ := ha
  obtain ⟨w, h5, h6⟩ := hb
  refine ⟨_, ps_if h1 h3 h5, fun G0 H0 G ω σ H out ω' E o e k => ?_⟩
  obtain ⟨z, q, e⟩ := bnd e
  refine h2 G0 H0 G ω σ H z _ o q fun G1 H1 x1 => ?_
  cases z with
  | true => rw [if_pos rfl] at e ⊢; exact h4 G0 H0 G1 ω σ H1 out ω' E (o.keep x1) e fun G2 σ2 H2 o2 g2 => k G2 σ2 H2 o2 (x1.gg.trans g2)
  | false => exact h6 G0 H0 G1 ω σ H1 out ω' E (o.keep x1) e fun G2 σ2 H2 o2 g2 => k G2 σ2 H2 o2 (x1.gg.trans g2)
theorem xs_ret (he : XE X e fe) : XS X (.Return (some e) pos) (sRet fe) := by
  obtain ⟨t, h1, h2⟩ := he
  refine ⟨_, ps_ret h1, fun G0 H0 G ω σ H out ω' E o e k => ?_⟩
  obtain ⟨r, q, e⟩ := bnd e
  refine h2 G0 H0 G ω σ H r _ o q fun v G1 H1 x1 y1 => ?_
  cases r with
  | sh d => cases e; exact k G1 σ H1 (o.keep x1) x1.gg v y1
  | fr ds =>
    cases e
    obtain ⟨l, vs, e1, e2, e3⟩ := y1
    exact k G1 σ H1 (o.keep x1) x1.gg v ⟨l, vs, e1, o.ext.hh.free e2, e3⟩
  | vw ds => cases e
theorem xs_retv {i : Nat} (he : PE X e (tVar i)) : XS X (.Return (some e) pos) (sRetV i) := by
  refine ⟨_, ps_ret he, fun G0 H0 G ω σ H out ω' E o e k => ?_⟩
  unfold sRetV at e
  cases q : ω[i]? with
  | none => rw [q] at e; cases e
  | some w =>
    rw [q] at e
    cases w with
    | none => cases e
    | some w =>
      cases w with
      | sh d =>
        cases e
        obtain ⟨v, q1, q2⟩ := o.sh i d q
        exact ⟨v, q1, k G σ H o (Same.refl _) v q2⟩
      | ow ds =>
        cases e
        obtain ⟨l, vs, q1, q2, q3, q4, q5⟩ := o.ow i ds q
        exact ⟨_, q1, k G σ H o (Same.refl _) _ ⟨l, vs, rfl, q4, q3, q2, q5⟩⟩
      | od ks ds => cases e
      | pw ds => cases e
theorem xs_no : XS X st sNo := ⟨_, ps_never, fun G0 H0 G ω σ H out ω' E o e k => by cases e⟩
def sBreak : FS := fun ω => some (.bk, ω)
def sCont : FS := fun ω => some (.ct, ω)
def sApp (i : Nat) (f : FD) : FS := fun ω => (f ω).bind fun d => match ω[i]? with
  | some (some (.ow ds)) => if ds.length < 1000000 then some (.nx, ω.set i (some (.ow (ds ++ [d])))) else none
  | _ => none
theorem xs_app {i : Nat} {o e : Expr} {fd : FD} {apos cpos : Pos} (ho : PE X o (tVar i)) (he : XD X e fd)
    (hbase : attributeBase o "append" X.env (eval o X.env) = eval o X.env := by rfl)
    (hfew : ((backTo cpos (starEach [e] X.env)).all (fun x => !x.1) && (backToKw cpos (keywordEach [] X.env)).all (fun x => x.1.isSome)
      && decide (([e] : List Expr).length + ([] : List Keyword).length + (if ([] : List Keyword).isEmpty then 0 else 1) < 30)) = true := by rfl)
    (hline : (apos.endLine == cpos.line) = true := by rfl) (hs : starEach [e] X.env = (false, eval e X.env) :: starEach [] X.env := by rfl) (hplain : (backTo cpos (starEach [] X.env)).any (·.1) = false := by rfl)
    (hsw : swapsWith (.Call (.Attribute o "append" apos) [e] [] cpos) none pos.line X.env = pure false := by rfl) :
    XS X (.Expr (.Call (.Attribute o "append" apos) [e] [] cpos) pos) (sApp i fd) := by
  obtain ⟨t, h1, h2⟩ := he
  refine ⟨_, ps_expr (pe_bm PySem.F.plainAttrs_list PySem.F.slot_list_append PySem.F.type_list_append mt_append ho (pa_cons h1 pa_nil hs) hbase hfew hline hs hplain) hsw, fun G0 H0 G ω σ H out ω' E ow e k => ?_⟩
  obtain ⟨d, q, e⟩ := bnd e
  cases q2 : ω[i]? with
  | none => rw [q2] at e; cases e
  | some w =>
    rw [q2] at e
    cases w with
    | none => cases e
    | some w =>
      cases w with
      | sh d => cases e
      | od ks ds => cases e
      | pw ds => cases e
      | ow ds =>
        dsimp only at e
        by_cases z : ds.length < 1000000
        · rw [if_pos z] at e
          cases e
          obtain ⟨l, vs, r1, r2, r3, r4, r5⟩ := ow.ow i ds q2
          refine ⟨.ref l, r1, .inl ⟨rfl, vs, SqL.of r2⟩, h2 G0 H0 G ω σ H d _ ow q fun v G1 H1 x1 y1 => ?_⟩
          have o1 := ow.keep x1
          have hz : vs.length < sizeLine := by rw [← r5.len, sizeLine_eq]; omega
          refine ⟨l, vs, v, rfl, rfl, x1.hh _ _ r2, hz, ?_⟩
          exact k G1 σ _ (o1.mut q2 r1 (x1.hh _ _ r2) (x1.new l r3 (by rw [r2]; exact fun z => by cases z)) r4 ((r5.mono x1.gg).app (Reps.cons y1 Reps.nil))) x1.gg
        · rw [if_neg z] at e; cases e
end
end Hk
set_option maxRecDepth 100000
namespace PySem
open AutoSeq1 MeetsSeq MeetsSeq2 MeetsSeq3
end PySem
namespace Hk
open PySem L2
section
variable {X : Cx} {pos : Pos}
def itemsOf : D → Option (List D)
  | .lst ds => some ds
  | .tup ds => some ds
  | _ => none
def sExt (i : Nat) (f : FD) : FS := fun ω => (f ω).bind fun d => (itemsOf d).bind fun es => match ω[i]? with
  | some (some (.ow ds)) => if ds.length + es.length ≤ 1000000 then some (.nx, ω.set i (some (.ow (ds ++ es)))) else none
  | _ => none
end
structure IterOf (K : PySem.W.Frag) (J : It) (G : Hp) (ds : List D) : Prop where
  go : ∀ H i, Same G H → i < ds.length → J.go i H
  yld : ∀ G2 H i x H' d, Same G G2 → Same G2 H → ds[i]? = some d → J.yld i H x H' → ∃ G3, Ext G2 H G3 H' ∧ Rep K G3 d x
  stop : ∀ H, Same G H → J.stop ds.length H
abbrev FI := WSt → Option (List D)
def SimI (K : PySem.W.Frag) (wi : TI) (f : FI) : Prop := ∀ G0 H0 G ω σ H ds (R : It → Hp → Prop), Own K G0 H0 G ω σ H → f ω = some ds → (∀ J G' H', Ext G H G' H' → IterOf K J G' ds → R J H') → wi σ H R
def XI (X : Cx) (tg iter : Expr) (f : FI) : Prop := ∃ wi, PI X tg iter wi ∧ SimI X.K wi f
section
variable {X : Cx} {tg e : Expr}
theorem iter_lst {K : PySem.W.Frag} {G : Hp} {a : Addr} {ds : List D} {vs : List V} (h1 : G a = some (.lst vs)) (h2 : Reps K G ds vs) : IterOf K (Itl K a) G ds := by
  refine ⟨fun H i s hi => ?_, fun G2 H i x H' d s0 s1 hd hy => ?_, fun H s => ⟨vs, SqL.of (s _ _ h1), by rw [h2.len]; exact Nat.le_refl _⟩⟩
  · have : i < vs.length := by rw [← h2.len]; exact hi
    exact ⟨vs, vs[i], SqL.of (s _ _ h1), List.getElem?_eq_getElem this⟩
  · obtain ⟨e, y⟩ := hy
    obtain ⟨v, q1, q2⟩ := h2.get hd
    have := y vs (SqL.of (s1 _ _ (s0 _ _ h1)))
    rw [q1] at this
    cases this
    subst e
    exact ⟨G2, Ext.refl s1, q2.mono s0⟩
theorem iter_tup {K : PySem.W.Frag} {G : Hp} {a : Addr} {ds : List D} {vs : List V} (h1 : G a = some (.tup vs)) (h2 : Reps K G ds vs) : IterOf K (Itt K a) G ds := by
  refine ⟨fun H i s hi => ?_, fun G2 H i x H' d s0 s1 hd hy => ?_, fun H s => ⟨vs, SqT.of (s _ _ h1), by rw [h2.len]; exact Nat.le_refl _⟩⟩
  · have : i < vs.length := by rw [← h2.len]; exact hi
    exact ⟨vs, vs[i], SqT.of (s _ _ h1), List.getElem?_eq_getElem this⟩
  · obtain ⟨e, y⟩ := hy
    obtain ⟨v, q1, q2⟩ := h2.get hd
    have := y vs (SqT.of (s1 _ _ (s0 _ _ h1)))
    rw [q1] at this
    cases this
    subst e
    exact ⟨G2, Ext.refl s1, q2.mono s0⟩
def iSeq (f : FD) : FI := fun ω => (f ω).bind itemsOf
theorem xi_seq {f : FD} (h : XD X e f) : XI X tg e (iSeq f) := by
  obtain ⟨t, h1, h2⟩ := h
  refine ⟨fun σ H R => iList X.K t σ H R ∨ iTup X.K t σ H R, fun pins s σ H R I q => ?_, fun G0 H0 G ω σ H ds R o e k => ?_⟩
  · rcases q with q | q
    · exact pi_list h1 pins s σ H R I q
    · exact pi_tup h1 pins s σ H R I q
  · obtain ⟨d, q, e⟩ := bnd e
    cases d with
    | lst es =>
      cases e
      refine .inl (h2 G0 H0 G ω σ H _ _ o q fun v G1 H1 x1 ⟨a, vs, e1, e2, e3⟩ => ⟨a, e1, ⟨vs, SqL.of (x1.gh _ _ e2)⟩, k _ G1 H1 x1 (iter_lst e2 e3)⟩)
    | tup es =>
      cases e
      refine .inr (h2 G0 H0 G ω σ H _ _ o q fun v G1 H1 x1 ⟨a, vs, e1, e2, e3⟩ => ⟨a, e1, ⟨vs, SqT.of (x1.gh _ _ e2)⟩, k _ G1 H1 x1 (iter_tup e2 e3)⟩)
    | _ => cases e
def upTo (lo : Int) (n : Nat) : List D := (List.range n).map fun (i : Nat) => D.int (lo + (i : Int))
theorem iter_rng {K : PySem.W.Frag} {G : Hp} (lo : Int) (n : Nat) : IterOf K (Itr lo n) G (upTo lo n) := by
  have hl : (upTo lo n).length = n := by unfold upTo; rw [List.length_map, List.length_range]
  refine ⟨fun H i s hi => by rw [hl] at hi; exact hi, fun G2 H i x H' d s0 s1 hd hy => ?_, fun H s => by rw [hl]; exact Nat.le_refl _⟩
  obtain ⟨e, y⟩ := hy
  subst e
  refine ⟨G2, Ext.refl s1, ?_⟩
  unfold upTo at hd
  rw [List.getElem?_map] at hd
  have hi : i < n := by
    rcases Nat.lt_or_ge i n with z | z
    · exact z
    · rw [List.getElem?_eq_none (by rw [List.length_range]; exact z)] at hd; cases hd
  rw [List.getElem?_range hi] at hd
  cases hd
  exact y
def iRg1 (g : FA) : FI := fun ω => (g ω).bind fun ds => match ds with
  | [.int j] => if -(2 ^ 62) ≤ j ∧ j < 2 ^ 62 then some (upTo 0 j.toNat) else none
  | _ => none
def iRg2 (g : FA) : FI := fun ω => (g ω).bind fun ds => match ds with
  | [.int i, .int j] => if (-(2 ^ 62) ≤ i ∧ i < 2 ^ 62) ∧ -(2 ^ 62) ≤ j ∧ j < 2 ^ 62 then some (upTo i (j - i).toNat) else none
  | _ => none
theorem xi_range1 {a : Expr} {g : FA} {p pos : Pos} (hg : Gl X "range") (hm : X.mg "range" = none) (ha : XVA X [a] g) (hs : starEach [a] X.env = [(false, eval a X.env)] := by rfl) : XI X tg (.Call (.Name "range" p) [a] [] pos) (iRg1 g) := by
  obtain ⟨t, h1, h2⟩ := ha
  refine ⟨_, pi_range1 hg hm h1 hs, fun G0 H0 G ω σ H ds R o e k => ?_⟩
  obtain ⟨vs, q, e⟩ := bnd e
  refine h2 G0 H0 G ω σ H vs _ o q fun us G1 H1 x1 y1 => ?_
  match vs, e with
  | [.int j], e =>
    dsimp only at e
    by_cases z : -(2 ^ 62) ≤ j ∧ j < 2 ^ 62
    · rw [if_pos z] at e
      cases e
      obtain ⟨v, rfl, y2⟩ := y1.one
      cases y2.int
      exact ⟨j, rfl, z.1, z.2, k _ G1 H1 x1 (iter_rng _ _)⟩
    · rw [if_neg z] at e; cases e
end
def forD (g : FG) (b : FS) : List D → FS
  | [], ω => some (.nx, ω)
  | d :: ds, ω => (g d ω).bind fun w => (b w).bind fun p => match p.1 with
    | .nx => forD g b ds p.2
    | .ct => forD g b ds p.2
    | .bk => some (.nx, p.2)
    | .rt r => some (.rt r, p.2)
def sFor (fi : FI) (g : FG) (b : FS) : FS := fun ω => (fi ω).bind fun ds => forD g b ds ω
section
variable {X : Cx} {tg iter : Expr} {body : List Stmt} {pos : Pos} {fi : FI} {fg : FG} {fb : FS}
theorem xs_for (hp : PassesOwn (model X.prog X.w) X.A X.env X.xe) (hc : X.calm = true) (hi : XI X tg iter fi) (hg : XG X tg fg) (hb : XSs X body fb) (hs : ∀ x, foldedSetIterable iter X.env x = pure x := by intro _; rfl) : XS X (.For tg iter body [] pos) (sFor fi fg fb) := by
  obtain ⟨wi, h1, h2⟩ := hi
  obtain ⟨g, h3, h4⟩ := hg
  obtain ⟨tb, h5, h6⟩ := hb
  refine ⟨_, ps_for hp hc h1 h3 h5 hs, fun G0 H0 G ω σ H out ω' E o e k => ?_⟩
  obtain ⟨ds, q, e⟩ := bnd e
  refine h2 G0 H0 G ω σ H ds _ o q fun J G1 H1 x1 it => ?_
  refine ⟨fun i m σ2 H2 => ∃ G2 ω2, Own X.K G0 H0 G2 ω2 σ2 H2 ∧ Same G1 G2 ∧ forD fg fb (ds.drop i) ω2 = some (out, ω') ∧ i ≤ ds.length ∧ m = ds.length - i, ⟨_, G1, ω, o.keep x1, Same.refl _, e, Nat.zero_le _, rfl⟩, ?_⟩
  rintro i m σ2 H2 ⟨G2, ω2, o2, s2, f2, hi2, rfl⟩
  by_cases hlt : i < ds.length
  · refine .inr ⟨it.go H2 i (s2.trans o2.gh) hlt, fun σ3 H3 => ∃ G3 ω3, Own X.K G0 H0 G3 ω3 σ3 H3 ∧ Same G1 G3 ∧ forD fg fb (ds.drop (i + 1)) ω3 = some (out, ω'), fun σ3 H3 ⟨G3, ω3, a1, a2, a3⟩ => ⟨ds.length - (i + 1), by omega, G3, ω3, a1, a2, a3, hlt, rfl⟩, fun x H3 hy => ?_⟩
    have hd : ds[i]? = some ds[i] := List.getElem?_eq_getElem hlt
    obtain ⟨G4, x4, rx⟩ := it.yld G2 H2 i x H3 ds[i] s2 o2.gh hd hy
    have o2 := o2.keep x4
    have s2 := s2.trans x4.gg
    rw [List.drop_eq_getElem_cons hlt] at f2
    obtain ⟨w, q1, f2⟩ := bnd f2
    obtain ⟨⟨o3, ω3⟩, q2, f2⟩ := bnd f2
    refine h4 G0 H0 G4 ω2 σ2 H3 ds[i] x w _ o2 q1 rx fun σ4 o4 => ?_
    refine h6 G0 H0 G4 w σ4 H3 o3 ω3 _ o4 q2 fun G5 σ5 H5 o5 s5 => ?_
    cases o3 with
    | nx => exact ⟨G5, ω3, o5, s2.trans s5, f2⟩
    | ct => exact ⟨G5, ω3, o5, s2.trans s5, f2⟩
    | bk => cases f2; exact k G5 σ5 H5 o5 (x1.gg.trans (s2.trans s5))
    | rt r => cases f2; exact k G5 σ5 H5 o5 (x1.gg.trans (s2.trans s5))
  · have ei : i = ds.length := by omega
    subst ei
    rw [List.drop_length] at f2
    cases f2
    exact .inl ⟨it.stop H2 (s2.trans o2.gh), k G2 σ2 H2 o2 (x1.gg.trans s2)⟩
end
def compD (g : FG) (c : FT) (f : FD) : List D → WSt → Option (List D)
  | [], _ => some []
  | d :: ds, ω => (g d ω).bind fun w => (c w).bind fun b => if b = true then (f w).bind fun x => (compD g c f ds w).map fun r => x :: r else compD g c f ds w
def shOf : Option (Option W) → Option W
  | some (some (.sh d)) => some (.sh d)
  | _ => none
def inW (M : Nat) (frees : List Nat) (ω : WSt) : WSt := List.replicate M none ++ frees.map fun j => shOf ω[j]?
def fComp (M : Nat) (frees : List Nat) (fi : FI) (g : FG) (c : FT) (f : FD) : FE := fun ω => (fi ω).bind fun ds => if ds.length ≤ 1000000 then (compD g c f ds (inW M frees ω)).map R.fr else none
def XTs (X : Cx) (ifs : List Expr) (f : FT) : Prop := ∃ t, PTs X ifs t ∧ SimT X.K t f
def tTrue : FT := fun _ => some true
theorem xts_nil {X : Cx} : XTs X [] tTrue := ⟨_, pts_nil, fun G0 H0 G ω σ H b Q o e k => by cases e; exact k G H (Ext.refl o.gh)⟩
section
variable {X : Cx} {N : List Str} {M : Nat} {frees : List Nat} {scope : Scope} {tg iter elt : Expr} {ifs : List Expr} {pos : Pos} {fi : FI} {fg : FG} {fc : FT} {fe : FD}
def NoOw (ω : WSt) : Prop := ∀ (i : Nat) w, ω[i]? = some (some w) → ∃ d, w = .sh d
theorem NoOw.ow {ω : WSt} (h : NoOw ω) (i : Nat) (ds : List D) : ω[i]? ≠ some (some (.ow ds)) := fun z => by obtain ⟨d, e⟩ := h i _ z; cases e
theorem NoOw.od {ω : WSt} (h : NoOw ω) (i : Nat) (ks : List Int) (ds : List D) : ω[i]? ≠ some (some (.od ks ds)) := fun z => by obtain ⟨d, e⟩ := h i _ z; cases e
theorem NoOw.pw {ω : WSt} (h : NoOw ω) (i : Nat) (ds : List D) : ω[i]? ≠ some (some (.pw ds)) := fun z => by obtain ⟨d, e⟩ := h i _ z; cases e
theorem sim_comp {wi : TI} {g : TG} {tc : TT} {te : TE} (h2 : SimI X.K wi fi) (h4 : SimG X.K g fg) (h6 : SimT X.K tc fc) (h8 : SimD X.K te fe) (hg : ∀ d ω ω', NoOw ω → fg d ω = some ω' → NoOw ω') : SimE X.K (tComp M frees wi g tc te) (fComp M frees fi fg fc fe) := by
  intro G0 H0 G ω σ H r Q o e k
  obtain ⟨ds, q, e⟩ := bnd e
  by_cases hz : ds.length ≤ 1000000
  · rw [if_pos hz] at e
    obtain ⟨rs, q2, e⟩ := mpd e
    subst e
    refine h2 G0 H0 G ω σ H ds _ o q fun J G1 H1 x1 it => ?_
    intro A hA
    have ow0 : NoOw (inW M frees ω) := by
      intro i es z
      unfold inW at z
      rcases Nat.lt_or_ge i M with y | y
      · rw [List.getElem?_append_left (by simpa using y), List.getElem?_replicate, if_pos y] at z; cases z
      · rw [List.getElem?_append_right (by simpa using y), List.length_replicate, List.getElem?_map] at z
        cases e1 : frees[i - M]? with
        | none => rw [e1] at z; cases z
        | some j =>
          rw [e1] at z
          have z' : shOf ω[j]? = some es := Option.some.inj z
          generalize ω[j]? = u at z'
          unfold shOf at z'
          split at z'
          · cases z'; exact ⟨_, rfl⟩
          · cases z'
    have own0 : ∀ G2 H2, Same G1 G2 → Same G2 H2 → Own X.K G2 (fr H2) G2 (inW M frees ω) (sgIn M frees σ) H2 := fun G2 H2 s1 s2 => by
      have o1 := o.keep x1
      refine ⟨Ext.refl s2, by unfold inW sgIn; simp, fun i d hi => ?_, fun i ds' hi => absurd hi (ow0.ow i ds'), fun i j ds' es l hi => absurd hi (ow0.ow i ds'), fun i ks ds' hi => absurd hi (ow0.od i ks ds'), PwOk.no ow0.pw⟩
      unfold inW at hi
      unfold sgIn
      rcases Nat.lt_or_ge i M with y | y
      · rw [List.getElem?_append_left (by simpa using y), List.getElem?_replicate, if_pos y] at hi; cases hi
      · rw [List.getElem?_append_right (by simpa using y), List.length_replicate, List.getElem?_map] at hi ⊢
        cases e1 : frees[i - M]? with
        | none => rw [e1] at hi; cases hi
        | some j =>
          rw [e1] at hi
          have hi' : shOf ω[j]? = some (.sh d) := Option.some.inj hi
          cases e2 : ω[j]? with
          | none => rw [e2] at hi'; cases hi'
          | some w =>
            rw [e2] at hi'
            cases w with
            | none => cases hi'
            | some w =>
              cases w with
              | ow _ => cases hi'
              | od _ _ => cases hi'
              | pw _ => cases hi'
              | sh d' =>
                cases hi'
                obtain ⟨v, q3, q4⟩ := o1.sh j _ e2
                exact ⟨v, by rw [Option.map_some, q3]; rfl, q4.mono s1⟩
    refine ⟨fun i m σ2 H2 => ∃ G2 ω2 accd accv, Own X.K G2 (fr H2) G2 ω2 σ2 H2 ∧ NoOw ω2 ∧ Ext G1 H1 G2 H2 ∧ G2 A = none ∧ H2 A = some (.lst accv) ∧ Reps X.K G2 accd accv ∧ accd.length ≤ i ∧ i ≤ ds.length ∧ m = ds.length - i ∧
      ∃ rest, compD fg fc fe (ds.drop i) ω2 = some rest ∧ accd ++ rest = rs, ⟨_, G1, inW M frees ω, [], [], own0 _ _ (Same.refl _) (same_updR x1.gh (x1.gh.free hA) _), ow0, Ext.hide x1.gh hA _, x1.gh.free hA, upd_same, Reps.nil, Nat.le_refl _, Nat.zero_le _, rfl, rs, q2, rfl⟩, ?_⟩
    rintro i m σ2 H2 ⟨G2, ω2, accd, accv, o2, no2, x2, gA, hA2, ra, la, li, rfl, rest, cd, er⟩
    by_cases hlt : i < ds.length
    · refine .inr ⟨it.go H2 i (x2.gg.trans x2.gh) hlt, fun x H3 hy => ?_⟩
      have hd : ds[i]? = some ds[i] := List.getElem?_eq_getElem hlt
      obtain ⟨G4, x4, rx⟩ := it.yld G2 H2 i x H3 ds[i] x2.gg x2.gh hd hy
      have o2' := o2.keep x4
      have o2 : Own X.K G4 (fr H3) G4 ω2 σ2 H3 := ⟨Ext.refl x4.gh, o2'.len, o2'.sh, fun i ds' hi => absurd hi (no2.ow i ds'), fun i j ds' es l hi => absurd hi (no2.ow i ds'), fun i ks ds' hi => absurd hi (no2.od i ks ds'), PwOk.no no2.pw⟩
      have gA : G4 A = none := x4.new A gA (by rw [hA2]; exact fun z => by cases z)
      have hA2 : H3 A = some (.lst accv) := x4.hh _ _ hA2
      have x2 := x2.trans x4
      have ra := ra.mono x4.gg
      rw [List.drop_eq_getElem_cons hlt] at cd
      obtain ⟨w, q1, cd⟩ := bnd cd
      obtain ⟨b, q3, cd⟩ := bnd cd
      have now := hg _ _ _ no2 q1
      refine h4 G4 (fr H3) G4 ω2 σ2 H3 ds[i] x w _ o2 q1 rx fun σ4 o4 => ?_
      refine h6 G4 (fr H3) G4 w σ4 H3 b _ o4 q3 fun G5 H5 x5 => ?_
      have o5 := o4.keep x5
      have gA5 : G5 A = none := x5.new A gA (by rw [hA2]; exact fun z => by cases z)
      have hA5 : H5 A = some (.lst accv) := x5.hh _ _ hA2
      cases b with
      | false =>
        rw [if_neg Bool.false_ne_true]
        rw [if_neg Bool.false_ne_true] at cd
        have o6 : Own X.K G5 (fr H5) G5 w σ4 H5 := ⟨Ext.refl x5.gh, o5.len, o5.sh, fun i ds' hi => absurd hi (now.ow i ds'), fun i j ds' es l hi => absurd hi (now.ow i ds'), fun i ks ds' hi => absurd hi (now.od i ks ds'), PwOk.no now.pw⟩
        exact ⟨ds.length - (i + 1), by omega, G5, w, accd, accv, o6, now, x2.trans x5, gA5, hA5, ra.mono x5.gg, by omega, hlt, rfl, rest, cd, er⟩
      | true =>
        rw [if_pos rfl] at cd ⊢
        obtain ⟨d, q4, cd⟩ := bnd cd
        obtain ⟨rest', q5, cd⟩ := mpd cd
        subst cd
        refine h8 G4 (fr H3) G5 w σ4 H5 d _ o5 q4 fun v G6 H6 x6 y6 => ?_
        have gA6 : G6 A = none := x6.new A gA5 (by rw [hA5]; exact fun z => by cases z)
        have hA6 : H6 A = some (.lst accv) := x6.hh _ _ hA5
        have x26 := (x2.trans x5).trans x6
        have raa := ra.mono (x5.gg.trans x6.gg)
        have hl : accv.length < sizeLine := by rw [← raa.len, sizeLine_eq]; omega
        refine ⟨accv, hA6, hl, ds.length - (i + 1), by omega, G6, w, accd ++ [d], accv ++ [v], ?_, now, ⟨x26.gg, same_updR x26.gh gA6 _, same_updR x26.hh hA _, x26.new⟩, gA6, upd_same, raa.app (Reps.cons y6 Reps.nil), by rw [List.length_append, List.length_singleton]; omega, hlt, rfl, rest', q5, by rw [List.append_assoc]; exact er⟩
        have o6 := o5.keep x6
        exact ⟨Ext.refl (same_updR x6.gh gA6 _), o6.len, o6.sh, fun i ds' hi => absurd hi (now.ow i ds'), fun i j ds' es l hi => absurd hi (now.ow i ds'), fun i ks ds' hi => absurd hi (now.od i ks ds'), PwOk.no now.pw⟩
    · have ei : i = ds.length := by omega
      subst ei
      rw [List.drop_length] at cd
      cases cd
      rw [List.append_nil] at er
      subst er
      refine .inl ⟨it.stop H2 (x2.gg.trans x2.gh), k _ G2 H2 (x1.trans x2) ⟨A, accv, rfl, x1.hh.free hA, gA, hA2, ra⟩⟩
  · rw [if_neg hz] at e; cases e
theorem noOw_set {ω : WSt} {i : Nat} {d : D} (h : NoOw ω) : NoOw (ω.set i (some (.sh d))) := by
  intro j ds z
  rcases get_set z with ⟨_, _, y⟩ | ⟨_, y⟩
  · cases y; exact ⟨d, rfl⟩
  · exact h j ds y
def Tame (fg : FG) : Prop := ∀ d ω ω', NoOw ω → fg d ω = some ω' → NoOw ω'
theorem tame_n (i : Nat) : Tame (gN i) := fun d ω ω' h e => by cases e; exact noOw_set h
def canD (K : PySem.W.Frag) (f : FD) : TE := fun σ H Q => ∃ G0 H0 G ω d, Own K G0 H0 G ω σ H ∧ f ω = some d ∧ ∀ v G' H', Ext G H G' H' → Rep K G' d v → Q v H'
def canT (K : PySem.W.Frag) (f : FT) : TT := fun σ H Q => ∃ G0 H0 G ω b, Own K G0 H0 G ω σ H ∧ f ω = some b ∧ ∀ G' H', Ext G H G' H' → Q b H'
def canG (K : PySem.W.Frag) (f : FG) : TG := fun v σ H Q => ∃ G0 H0 G ω d ω', Own K G0 H0 G ω σ H ∧ f d ω = some ω' ∧ Rep K G d v ∧ ∀ σ', Own K G0 H0 G ω' σ' H → Q σ' H
theorem XD.can {X : Cx} {e : Expr} {f : FD} (h : XD X e f) : PE X e (canD X.K f) := fun pins s σ H Q I ⟨G0, H0, G, ω, d, o, e, k⟩ => let ⟨_, h1, h2⟩ := h; h1 pins s σ H Q I (h2 G0 H0 G ω σ H d Q o e k)
theorem XTs.can {X : Cx} {e : List Expr} {f : FT} (h : XTs X e f) : PTs X e (canT X.K f) := fun pins s σ H Q I ⟨G0, H0, G, ω, d, o, e, k⟩ => let ⟨_, h1, h2⟩ := h; h1 pins s σ H Q I (h2 G0 H0 G ω σ H d Q o e k)
theorem XG.can {X : Cx} {e : Expr} {f : FG} (h : XG X e f) : PG X e (canG X.K f) := fun pins s σ H v u Q I r ⟨G0, H0, G, ω, d, ω', o, e, y, k⟩ => let ⟨_, h1, h2⟩ := h; h1 pins s σ H v u Q I r (h2 G0 H0 G ω σ H d v ω' Q o e y k)
theorem sim_canD {K : PySem.W.Frag} {f : FD} : SimD K (canD K f) f := fun G0 H0 G ω σ H d Q o e k => ⟨G0, H0, G, ω, d, o, e, k⟩
theorem sim_canT {K : PySem.W.Frag} {f : FT} : SimT K (canT K f) f := fun G0 H0 G ω σ H d Q o e k => ⟨G0, H0, G, ω, d, o, e, k⟩
theorem sim_canG {K : PySem.W.Frag} {f : FG} : SimG K (canG K f) f := fun G0 H0 G ω σ H d v ω' Q o e y k => ⟨G0, H0, G, ω, d, ω', o, e, y, k⟩
theorem xe_comp (hc : X.calm = true) (B : BlkOk X N M frees scope) (hi : XI X tg iter fi) (ht : Tame fg)
    (hb : ∀ C s H fp, XG (cxIn X N scope C s H fp) tg fg ∧ XTs (cxIn X N scope C s H fp) ifs fc ∧ XD (cxIn X N scope C s H fp) elt fe)
    (hs : ∀ x, foldedSetIterable iter X.env x = pure x := by intro _; rfl) : XE X (.ListComp elt [⟨tg, iter, ifs, 0⟩] scope pos) (fComp M frees fi fg fc fe) := by
  obtain ⟨wi, h1, h2⟩ := hi
  have b4 : ∀ C s H fp, PG (cxIn X N scope C s H fp) tg (canG X.K fg) ∧ PTs (cxIn X N scope C s H fp) ifs (canT X.K fc) ∧ PE (cxIn X N scope C s H fp) elt (canD X.K fe) := fun C s H fp => ⟨(hb C s H fp).1.can, (hb C s H fp).2.1.can, (hb C s H fp).2.2.can⟩
  exact ⟨_, pe_comp hc B h1 b4 hs, sim_comp h2 sim_canG sim_canT sim_canD ht⟩
theorem xs_setc {i : Nat} {x : Str} {pos' spos : Pos} (hc : X.calm = true) (hN : X.N.Nodup) (hi' : X.N[i]? = some x) (hx : X.env.scope.names.lookup x = some .local) (B : BlkOk X N M frees scope) (hi : XI X tg iter fi) (ht : Tame fg)
    (hb : ∀ C s H fp, XG (cxIn X N scope C s H fp) tg fg ∧ XTs (cxIn X N scope C s H fp) ifs fc ∧ XD (cxIn X N scope C s H fp) elt fe)
    (hsw : swapsWith (.ListComp elt [⟨tg, iter, ifs, 0⟩] scope pos) (some (.Name x pos')) spos.line X.env = pure true := by rfl)
    (hs : ∀ x, foldedSetIterable iter X.env x = pure x := by intro _; rfl) : XS X (.Assign [.Name x pos'] (.ListComp elt [⟨tg, iter, ifs, 0⟩] scope pos) spos) (sSet i (fComp M frees fi fg fc fe)) := by
  obtain ⟨wi, h1, h2⟩ := hi
  have b4 : ∀ C s H fp, PG (cxIn X N scope C s H fp) tg (canG X.K fg) ∧ PTs (cxIn X N scope C s H fp) ifs (canT X.K fc) ∧ PE (cxIn X N scope C s H fp) elt (canD X.K fe) := fun C s H fp => ⟨(hb C s H fp).1.can, (hb C s H fp).2.1.can, (hb C s H fp).2.2.can⟩
  exact ⟨_, ps_setc hc hN hi' hx B h1 b4 hsw hs, sim_set (sim_comp h2 sim_canG sim_canT sim_canD ht)⟩
def FreesOk (X : Cx) (scope : Scope) : List Str → List Nat → Prop
  | [], [] => True
  | x :: xs, j :: js => (X.N[j]? = some x ∧ (X.env.kindOf x = some .cell ∨ X.env.kindOf x = some .free) ∧ scope.names.lookup x = some .free) ∧ FreesOk X scope xs js
  | _, _ => False
theorem freesOk_at {X : Cx} {scope : Scope} : ∀ {xs : List Str} {js : List Nat}, FreesOk X scope xs js → ∀ (k : Nat) (x : Str), xs[k]? = some x → ∃ j, js[k]? = some j ∧ X.N[j]? = some x ∧ (X.env.kindOf x = some .cell ∨ X.env.kindOf x = some .free) ∧ scope.names.lookup x = some .free
  | [], _, _, _, _, e => by simp at e
  | _ :: _, [], h, _, _, _ => h.elim
  | y :: ys, i :: is, ⟨h1, h2⟩, 0, x, e => by
    have : y = x := by simpa using e
    subst this
    exact ⟨i, rfl, h1⟩
  | y :: ys, i :: is, ⟨h1, h2⟩, k + 1, x, e => by
    obtain ⟨j, q⟩ := freesOk_at h2 k x (by simpa using e)
    exact ⟨j, by simpa using q.1, q.2⟩
theorem freesOk_len {X : Cx} {scope : Scope} : ∀ {xs : List Str} {js : List Nat}, FreesOk X scope xs js → xs.length = js.length
  | [], [], _ => rfl
  | [], _ :: _, h => h.elim
  | _ :: _, [], h => h.elim
  | _ :: ys, _ :: is, ⟨_, h2⟩ => by rw [List.length_cons, List.length_cons, freesOk_len h2]
theorem blk {X : Cx} {scope : Scope} (own free : List Str) (frees : List Nat) (h1 : scope.kind = .function) (h2 : ∀ y ∈ scope.names, y.2 ≠ .cell) (h3 : ∀ y ∈ scope.names, y.2 = .local → scope.names.lookup y.1 = some .local)
    (h4 : (scope.names.all fun p => p.2 != .free || (X.env.cells.lookup p.1).isSome) = true) (h5 : FreesOk X scope free frees) : BlkOk X (own ++ free) own.length frees scope := by
  refine ⟨h1, h2, h3, fun p hp hf => ?_, fun k x e => ?_, by rw [List.length_append, freesOk_len h5]⟩
  · have := List.all_eq_true.mp h4 p hp
    rw [hf] at this
    simpa using this
  · rw [List.getElem?_append_right (Nat.le_add_right _ _), Nat.add_sub_cancel_left] at e
    exact freesOk_at h5 k x e
end
def entry (n : Nat) (ds : List D) : WSt := ds.map (fun d => some (.sh d)) ++ List.replicate (n - ds.length) none
def mir (n : Nat) (body : FS) (ds : List D) : Option O := match body (entry n ds) with
  | some (.rt r, _) => some r
  | some (.nx, _) => some (.sh .non)
  | _ => none
theorem reps_start {K : PySem.W.Frag} {H : Hp} {N : List Str} {ds : List D} {vs : List V} (h : Reps K H ds vs) (i : Nat) (d : D) (e : (entry N.length ds)[i]? = some (some (.sh d))) : ∃ v, (L2.start N vs)[i]? = some (some v) ∧ Rep K H d v := by
  unfold entry at e
  unfold L2.start
  have hl := h.len
  rcases Nat.lt_or_ge i ds.length with y | y
  · rw [List.getElem?_append_left (by simpa using y), List.getElem?_map] at e
    have e1 : ds[i]? = some d := by
      cases q : ds[i]? with
      | none => rw [q] at e; cases e
      | some d' => rw [q] at e; cases e; rfl
    obtain ⟨v, q1, q2⟩ := h.get e1
    refine ⟨v, ?_, q2⟩
    rw [List.getElem?_append_left (by simpa using (by omega : i < vs.length)), List.getElem?_map, q1]; rfl
  · rw [List.getElem?_append_right (by simpa using y), List.getElem?_replicate] at e
    split at e <;> cases e
theorem entry_noOw {n : Nat} {ds : List D} : NoOw (entry n ds) := by
  intro i es z
  unfold entry at z
  rcases Nat.lt_or_ge i ds.length with y | y
  · rw [List.getElem?_append_left (by simpa using y), List.getElem?_map] at z
    cases q : ds[i]? with
    | none => rw [q] at z; cases z
    | some d => rw [q] at z; cases z; exact ⟨d, rfl⟩
  · rw [List.getElem?_append_right (by simpa using y), List.getElem?_replicate] at z
    split at z <;> cases z
theorem fnD {P : Program} {w : World} {K : PySem.W.Frag} {mg : Str → Option Value} {base : Heap} {x qual : Str} {st : Stmt} {f : Addr} {fd : FuncData} {N ps : List Str} {k : Nat} {body : FS} (F : Fun K x qual st f fd) (S : FnScope N ps (defScope st))
    (hb : ∀ (cdv : Value) (A : Around) (outer : List Env) (s : Shared) (H : Hp) (E : XK), Room k (A.deeper (PyProof.Rows.envOfC qual (defScope st) s.heap.objs.size f cdv)) → XSs (cxOf CX0 P w K mg base N qual (defScope st) f cdv A outer s H E).nox (defBody st) body) :
    FnOk P w K mg base CX0 (k + 1) f fd ps (spD K ps.length (mir N.length body)) := by
  refine F.ok S (fun vs H Q E h => ?_) (fun cdv A outer s H vs Q E hr h => ?_)
  · obtain ⟨G, ds, r, _, h2, _, h4, _⟩ := h
    rw [← h4.len]; exact h2
  · obtain ⟨G, ds, r, h1, h2, h3, h4, h5⟩ := h
    obtain ⟨t, p1, p2⟩ := hb cdv A outer s H E hr
    refine ⟨t, p1, ?_⟩
    unfold mir at h1
    have hl := h4.len
    have hpl : ps.length ≤ N.length := by have := congrArg List.length S.pre; rw [List.length_take] at this; omega
    have o0 : Own K G (fr H) G (entry N.length ds) (L2.start N vs) H := by
      refine ⟨Ext.refl h3, ?_, fun i d e => reps_start h4 i d e, fun i es e => absurd e (entry_noOw.ow i es), fun i j es fs l e => absurd e (entry_noOw.ow i es), fun i ks es e => absurd e (entry_noOw.od i ks es), PwOk.no entry_noOw.pw⟩
      unfold entry L2.start
      simp only [List.length_append, List.length_map, List.length_replicate]
      omega
    cases q : body (entry N.length ds) with
    | none => rw [q] at h1; cases h1
    | some p =>
      obtain ⟨out, ω'⟩ := p
      rw [q] at h1
      refine p2 G (fr H) G _ _ H out ω' _ o0 q fun G' σ' H' o' s' => ?_
      cases out with
      | nx => cases h1; exact h5 _ G' H' o'.ext rfl
      | bk => cases h1
      | ct => cases h1
      | rt r' => cases h1; exact fun v y => h5 v G' H' o'.ext y
end Hk
set_option maxRecDepth 100000
namespace Hk
open PySem L2
theorem bt_len : bootBuiltins "len" = some (.builtin "len") := by decide +kernel
theorem bt_sorted : bootBuiltins "sorted" = some (.builtin "sorted") := by decide +kernel
theorem bt_int : bootBuiltins "int" = some (.type "int") := by decide +kernel
theorem bt_bool : bootBuiltins "bool" = some (.type "bool") := by decide +kernel
theorem bt_list : bootBuiltins "list" = some (.type "list") := by decide +kernel
end Hk
set_option maxRecDepth 100000
namespace Hk
open PySem L2
def bindS (o : Option (Out × WSt)) (g : FS) : Option (Out × WSt) := o.bind fun p => match p.1 with
  | .nx => g p.2
  | o => some (o, p.2)
def setS (i : Nat) (ω : WSt) (o : Option R) : Option (Out × WSt) := o.bind fun r => (setR i r ω).map fun w => (.nx, w)
def ifS (c : Option Bool) (f g : FS) (ω : WSt) : Option (Out × WSt) := c.bind fun b => if b = true then f ω else g ω
def retS (ω : WSt) (o : Option R) : Option (Out × WSt) := o.bind fun r => match r with
  | .sh d => some (.rt (.sh d), ω)
  | .fr ds => some (.rt (.fr ds), ω)
  | .vw _ => none
def retV (ω : WSt) (o : Option (Option W)) : Option (Out × WSt) := match o with
  | some (some (.sh d)) => some (.rt (.sh d), ω)
  | some (some (.ow ds)) => some (.rt (.fr ds), ω)
  | _ => none
def appS (i : Nat) (ω : WSt) (o : Option D) (l : Option (Option W)) : Option (Out × WSt) := o.bind fun d => match l with
  | some (some (.ow ds)) => if ds.length < 1000000 then some (.nx, ω.set i (some (.ow (ds ++ [d])))) else none
  | _ => none
def extS (i : Nat) (ω : WSt) (o : Option D) (l : Option (Option W)) : Option (Out × WSt) := o.bind fun d => (itemsOf d).bind fun es => match l with
  | some (some (.ow ds)) => if ds.length + es.length ≤ 1000000 then some (.nx, ω.set i (some (.ow (ds ++ es)))) else none
  | _ => none
def shrS (i : Nat) (ω : WSt) (o : Option (Option W)) : WSt := match o with
  | some (some (.ow ds)) => ω.set i (some (.sh (.lst ds)))
  | some (some (.od ks ds)) => ω.set i (some (.sh (.dic ks ds)))
  | _ => ω
def forS (o : Option (List D)) (g : FG) (b : FS) (ω : WSt) : Option (Out × WSt) := o.bind fun ds => forD g b ds ω
def asgS (o : Option D) (g : FG) (ω : WSt) : Option (Out × WSt) := o.bind fun d => (g d ω).map fun w => (.nx, w)
def varR (o : Option (Option W)) : Option R := match o with
  | some (some (.sh d)) => some (.sh d)
  | some (some (.ow ds)) => some (.vw ds)
  | some (some (.pw ds)) => some (.vw ds)
  | _ => none
def eD (o : Option D) : Option R := o.map R.sh
def dR (o : Option R) : Option D := match o with
  | some (.sh d) => some d
  | some (.fr ds) => some (.lst ds)
  | _ => none
def vR (o : Option R) : Option D := o.map R.d
def op2 (op : D → D → Option R) (x y : Option D) : Option R := x.bind fun x => y.bind fun y => op x y
def callR (m : List D → Option O) (o : Option (List D)) : Option R := o.bind fun ds => (m ds).map O.r
def consA (o : Option D) (r : Option (List D)) : Option (List D) := o.bind fun d => r.map fun ds => d :: ds
def bltR (op : List D → Option R) (o : Option (List D)) : Option R := o.bind op
def slR (o : Option D) (l h : Option (Option Int)) : Option R := o.bind fun d => l.bind fun lo => h.bind fun hi => oSl d lo hi
def atP (o : Option D) : Option (Option Int) := o.bind fun d => match d with | .int i => some (some i) | _ => none
def iteR (c : Option Bool) (f g : FE) (ω : WSt) : Option R := c.bind fun k => if k = true then f ω else g ω
def isiR (c : Ty) (o : Option D) : Option R := o.bind fun d => match d with
  | .scr _ => none
  | .exc _ => none
  | .dic _ _ => none
  | d => some (.sh (.bl (subT (tyD d) c)))
def tR (o : Option R) : Option Bool := match o with
  | some (.sh (.bl k)) => some k
  | _ => none
def andT (o : Option Bool) (g : FT) (ω : WSt) : Option Bool := o.bind fun c => if c = true then g ω else some false
def orT (o : Option Bool) (g : FT) (ω : WSt) : Option Bool := o.bind fun c => if c = true then some true else g ω
def notT (o : Option Bool) : Option Bool := o.map (!·)
def truT (o : Option D) : Option Bool := o.bind truD
def andV (o : Option D) (g : FD) (ω : WSt) : Option D := o.bind fun d => (blOf d).bind fun c => if c = true then g ω else some (.bl false)
def orV (o : Option D) (g : FD) (ω : WSt) : Option D := o.bind fun d => (blOf d).bind fun c => if c = true then some (.bl true) else g ω
def notV (o : Option D) : Option D := o.bind fun d => (blOf d).map fun c => .bl (!c)
def seqI (o : Option D) : Option (List D) := o.bind itemsOf
def rg1I (o : Option (List D)) : Option (List D) := o.bind fun ds => match ds with
  | [.int j] => if -(2 ^ 62) ≤ j ∧ j < 2 ^ 62 then some (upTo 0 j.toNat) else none
  | _ => none
def rg2I (o : Option (List D)) : Option (List D) := o.bind fun ds => match ds with
  | [.int i, .int j] => if (-(2 ^ 62) ≤ i ∧ i < 2 ^ 62) ∧ -(2 ^ 62) ≤ j ∧ j < 2 ^ 62 then some (upTo i (j - i).toNat) else none
  | _ => none
def compR (M : Nat) (fr : List Nat) (o : Option (List D)) (g : FG) (c : FT) (f : FD) (ω : WSt) : Option R := o.bind fun ds => if ds.length ≤ 1000000 then (compD g c f ds (inW M fr ω)).map R.fr else none
def outM (o : Option (Out × WSt)) : Option O := match o with
  | some (.rt r, _) => some r
  | some (.nx, _) => some (.sh .non)
  | _ => none
section
variable {f g : FS} {ω w : WSt} {i : Nat} {fe fe' : FE} {fd fd' : FD} {ft ft' : FT} {r : O} {d d' : D} {ds ds' : List D} {a b : Int} {p q : Bool} {fa : FA} {fg : FG} {fi : FI} {n : Nat}
theorem e_mir : mir n f ds = outM (f (entry n ds)) := rfl
theorem e_om_rt : outM (some (.rt r, w)) = some r := rfl
theorem e_om_nx : outM (some (.nx, w)) = some (.sh .non) := rfl
theorem e_seq : sSeq f g ω = bindS (f ω) g := rfl
theorem e_bs_nx : bindS (some (.nx, w)) g = g w := rfl
theorem e_bs_rt : bindS (some (.rt r, w)) g = some (.rt r, w) := rfl
theorem e_bs_bk : bindS (some (.bk, w)) g = some (.bk, w) := rfl
theorem e_bs_ct : bindS (some (.ct, w)) g = some (.ct, w) := rfl
theorem e_nil : sNil ω = some (.nx, ω) := rfl
theorem e_brk : sBreak ω = some (.bk, ω) := rfl
theorem e_cnt : sCont ω = some (.ct, ω) := rfl
theorem e_set : sSet i fe ω = setS i ω (fe ω) := rfl
theorem e_ss_sh : setS i ω (some (.sh d)) = some (.nx, ω.set i (some (.sh d))) := rfl
theorem e_ss_fr : setS i ω (some (.fr ds)) = some (.nx, ω.set i (some (.ow ds))) := rfl
theorem e_if : sIf ft f g ω = ifS (ft ω) f g ω := rfl
theorem e_if_t : ifS (some true) f g ω = f ω := rfl
theorem e_if_f : ifS (some false) f g ω = g ω := rfl
theorem e_ret : sRet fe ω = retS ω (fe ω) := rfl
theorem e_rs_sh : retS ω (some (.sh d)) = some (.rt (.sh d), ω) := rfl
theorem e_rs_fr : retS ω (some (.fr ds)) = some (.rt (.fr ds), ω) := rfl
theorem e_retn : sRetN ω = some (.rt (.sh .non), ω) := rfl
theorem e_retv : sRetV i ω = retV ω ω[i]? := rfl
theorem e_rv_sh : retV ω (some (some (.sh d))) = some (.rt (.sh d), ω) := rfl
theorem e_rv_ow : retV ω (some (some (.ow ds))) = some (.rt (.fr ds), ω) := rfl
theorem e_app : sApp i fd ω = appS i ω (fd ω) ω[i]? := rfl
theorem e_as (h : ds.length < 1000000) : appS i ω (some d) (some (some (.ow ds))) = some (.nx, ω.set i (some (.ow (ds ++ [d])))) := if_pos h
theorem e_ext : sExt i fd ω = extS i ω (fd ω) ω[i]? := rfl
theorem e_es_t (h : ds.length + ds'.length ≤ 1000000) : extS i ω (some (.tup ds')) (some (some (.ow ds))) = some (.nx, ω.set i (some (.ow (ds ++ ds')))) := if_pos h
theorem e_es_l (h : ds.length + ds'.length ≤ 1000000) : extS i ω (some (.lst ds')) (some (some (.ow ds))) = some (.nx, ω.set i (some (.ow (ds ++ ds')))) := if_pos h
theorem e_share : sShare i f ω = f (shrS i ω ω[i]?) := rfl
theorem e_sh_ow : shrS i ω (some (some (.ow ds))) = ω.set i (some (.sh (.lst ds))) := rfl
theorem e_sh_sh : shrS i ω (some (some (.sh d))) = ω := rfl
theorem e_sh_no : shrS i ω (some none) = ω := rfl
theorem e_for : sFor fi fg f ω = forS (fi ω) fg f ω := rfl
theorem e_fs : forS (some ds) fg f ω = forD fg f ds ω := rfl
theorem e_asg : sAsg fd fg ω = asgS (fd ω) fg ω := rfl
theorem e_ag : asgS (some d) fg ω = (fg d ω).map fun w => (.nx, w) := rfl
theorem e_gn : gN i d ω = some (ω.set i (some (.sh d))) := rfl
theorem e_gt {gs} : gT n gs (.tup ds) ω = if ds.length = n then gs ds ω else none := rfl
theorem e_gc {gs} : gsCons fg gs (d :: ds) ω = (fg d ω).bind fun w => gs ds w := rfl
theorem e_g0 : gsNil [] ω = some ω := rfl
theorem e_var : fVar i ω = varR ω[i]? := rfl
theorem e_vr_sh : varR (some (some (.sh d))) = some (.sh d) := rfl
theorem e_vr_ow : varR (some (some (.ow ds))) = some (.vw ds) := rfl
theorem e_c : fC d ω = some d := rfl
theorem e_e : eOf fd ω = eD (fd ω) := rfl
theorem e_ed : eD (some d) = some (.sh d) := rfl
theorem e_d : dOf fe ω = dR (fe ω) := rfl
theorem e_dr_sh : dR (some (.sh d)) = some d := rfl
theorem e_dr_fr : dR (some (.fr ds)) = some (.lst ds) := rfl
theorem e_v : vOf fe ω = vR (fe ω) := rfl
theorem e_vv_sh : vR (some (.sh d)) = some d := rfl
theorem e_vv_fr : vR (some (.fr ds)) = some (.lst ds) := rfl
theorem e_vv_vw : vR (some (.vw ds)) = some (.lst ds) := rfl
theorem e_op {op} : fOpE op fd fd' ω = op2 op (fd ω) (fd' ω) := rfl
theorem e_o2 {op} : op2 op (some d) (some d') = op d d' := rfl
theorem e_call {m} : fCall m fa ω = callR m (fa ω) := rfl
theorem e_cl {m} : callR m (some ds) = (m ds).map O.r := rfl
theorem e_or_sh : (O.sh d).r = .sh d := rfl
theorem e_or_fr : (O.fr ds).r = .fr ds := rfl
theorem e_ac : aCons fd fa ω = consA (fd ω) (fa ω) := rfl
theorem e_ca : consA (some d) (some ds) = some (d :: ds) := rfl
theorem e_an : aNil ω = some [] := rfl
theorem e_lst : fLst fa ω = (fa ω).map R.fr := rfl
theorem e_tup : fTup fa ω = (fa ω).map D.tup := rfl
theorem e_mf : (some ds).map R.fr = some (.fr ds) := rfl
theorem e_mt : (some ds).map D.tup = some (.tup ds) := rfl
theorem e_blt {op} : fBlt op fa ω = bltR op (fa ω) := rfl
theorem e_bl {op} : bltR op (some ds) = op ds := rfl
theorem e_slc {l h : FO} : fSl fd l h ω = slR (fd ω) (l ω) (h ω) := rfl
theorem e_sl {lo hi : Option Int} : slR (some d) (some lo) (some hi) = oSl d lo hi := rfl
theorem e_po : pNo ω = some none := rfl
theorem e_pa : pAt fd ω = atP (fd ω) := rfl
theorem e_ap : atP (some (.int a)) = some (some a) := rfl
theorem e_ite : fIte ft fe fe' ω = iteR (ft ω) fe fe' ω := rfl
theorem e_it_t : iteR (some true) fe fe' ω = fe ω := rfl
theorem e_it_f : iteR (some false) fe fe' ω = fe' ω := rfl
theorem e_isi {c} : fIsi c fd ω = isiR c (fd ω) := rfl
theorem e_isi_int {c} : isiR c (some (.int a)) = some (.sh (.bl (subT .int c))) := rfl
theorem e_isi_bl {c} : isiR c (some (.bl p)) = some (.sh (.bl (subT .bl c))) := rfl
theorem e_isi_non {c} : isiR c (some .non) = some (.sh (.bl (subT .non c))) := rfl
theorem e_isi_str {c x} : isiR c (some (.str x)) = some (.sh (.bl (subT .str c))) := rfl
theorem e_isi_lst {c} : isiR c (some (.lst ds)) = some (.sh (.bl (subT .lst c))) := rfl
theorem e_isi_tup {c} : isiR c (some (.tup ds)) = some (.sh (.bl (subT .tup c))) := rfl
theorem e_t : tOf fe ω = tR (fe ω) := rfl
theorem e_tr : tR (some (.sh (.bl p))) = some p := rfl
theorem e_tand : tAndF ft ft' ω = andT (ft ω) ft' ω := rfl
theorem e_ta_t : andT (some true) ft ω = ft ω := rfl
theorem e_ta_f : andT (some false) ft ω = some false := rfl
theorem e_ta : andT (some p) ft ω = if p = true then ft ω else some false := rfl
theorem e_ta2 : (if p = true then some q else some false) = some (p && q) := by cases p <;> rfl
theorem e_tor : tOrF ft ft' ω = orT (ft ω) ft' ω := rfl
theorem e_to_t : orT (some true) ft ω = some true := rfl
theorem e_to_f : orT (some false) ft ω = ft ω := rfl
theorem e_to : orT (some p) ft ω = if p = true then some true else ft ω := rfl
theorem e_to2 : (if p = true then some true else some q) = some (p || q) := by cases p <;> rfl
theorem e_tnot : tNotF ft ω = notT (ft ω) := rfl
theorem e_tn : notT (some p) = some (!p) := rfl
theorem e_ttru : tTru fd ω = truT (fd ω) := rfl
theorem e_tt_bl : truT (some (.bl p)) = some p := rfl
theorem e_tt_int : truT (some (.int a)) = some (a != 0) := rfl
theorem e_tt_lst : truT (some (.lst ds)) = some (!ds.isEmpty) := rfl
theorem e_tt_tup : truT (some (.tup ds)) = some (!ds.isEmpty) := rfl
theorem e_tt_non : truT (some .non) = some false := rfl
theorem e_ttt : tTrue ω = some true := rfl
theorem e_vand : vAnd fd fd' ω = andV (fd ω) fd' ω := rfl
theorem e_va_t : andV (some (.bl true)) fd ω = fd ω := rfl
theorem e_va_f : andV (some (.bl false)) fd ω = some (.bl false) := rfl
theorem e_va : andV (some (.bl p)) fd ω = if p = true then fd ω else some (.bl false) := rfl
theorem e_va2 : (if p = true then some (D.bl q) else some (D.bl false)) = some (.bl (p && q)) := by cases p <;> rfl
theorem e_vor : vOr fd fd' ω = orV (fd ω) fd' ω := rfl
theorem e_vo_t : orV (some (.bl true)) fd ω = some (.bl true) := rfl
theorem e_vo_f : orV (some (.bl false)) fd ω = fd ω := rfl
theorem e_vo : orV (some (.bl p)) fd ω = if p = true then some (.bl true) else fd ω := rfl
theorem e_vo2 : (if p = true then some (D.bl true) else some (D.bl q)) = some (.bl (p || q)) := by cases p <;> rfl
theorem e_vnot : vNot fd ω = notV (fd ω) := rfl
theorem e_vn : notV (some (.bl p)) = some (.bl (!p)) := rfl
theorem e_iseq : iSeq fd ω = seqI (fd ω) := rfl
theorem e_is_l : seqI (some (.lst ds)) = some ds := rfl
theorem e_is_t : seqI (some (.tup ds)) = some ds := rfl
theorem e_rg1 : iRg1 fa ω = rg1I (fa ω) := rfl
theorem e_rg2 : iRg2 fa ω = rg2I (fa ω) := rfl
theorem r1_ok (h : -(2 ^ 62) ≤ a ∧ a < 2 ^ 62) : rg1I (some [.int a]) = some (upTo 0 a.toNat) := if_pos h
theorem e_comp {M fr} : fComp M fr fi fg ft fd ω = compR M fr (fi ω) fg ft fd ω := rfl
theorem e_cp {M fr} (h : ds.length ≤ 1000000) : compR M fr (some ds) fg ft fd ω = (compD fg ft fd ds (inW M fr ω)).map R.fr := if_pos h
theorem e_neg : fNeg fd ω = (fd ω).bind oNeg := rfl
theorem e_ng : oNeg (.int a) = some (.sh (.int (-a))) := rfl
theorem e_len_l : bLen [.lst ds] = some (.sh (.int ds.length)) := rfl
theorem e_len_t : bLen [.tup ds] = some (.sh (.int ds.length)) := rfl
theorem e_len_s {ns} : bLen [.scr ns] = some (.sh (.int ns.length)) := rfl
theorem e_list_l : bList [.lst ds] = some (.fr ds) := rfl
theorem e_list_t : bList [.tup ds] = some (.fr ds) := rfl
theorem e_tuple_l : bTuple [.lst ds] = some (.sh (.tup ds)) := rfl
theorem e_tuple_t : bTuple [.tup ds] = some (.sh (.tup ds)) := rfl
theorem oEq_ii : oEq false (.int a) (.int b) = some (.sh (.bl (a == b))) := rfl
theorem oNe_ii : oEq true (.int a) (.int b) = some (.sh (.bl (!(a == b)))) := rfl
theorem oEq_bb : oEq false (.bl p) (.bl q) = some (.sh (.bl (p == q))) := rfl
theorem oSub_ii : oSub (.int a) (.int b) = some (.sh (.int (a - b))) := rfl
theorem oLt_ii : oLt (.int a) (.int b) = some (.sh (.bl (decide (a < b)))) := rfl
theorem oLe_ii : oLe (.int a) (.int b) = some (.sh (.bl (decide (a ≤ b)))) := rfl
theorem oGt_ii : oGt (.int a) (.int b) = some (.sh (.bl (decide (b < a)))) := rfl
theorem oGe_ii : oGe (.int a) (.int b) = some (.sh (.bl (decide (b ≤ a)))) := rfl
theorem oAdd_ii : oAdd (.int a) (.int b) = some (.sh (.int (a + b))) := rfl
theorem oIs_bb : oIs false (.bl p) (.bl q) = some (.sh (.bl (p == q))) := rfl
theorem oIsn_bb : oIs true (.bl p) (.bl q) = some (.sh (.bl (!(p == q)))) := rfl
theorem oIs_n : oIs false d .non = some (.sh (.bl (isN d))) := by cases d <;> rfl
theorem oIsn_n : oIs true d .non = some (.sh (.bl (!isN d))) := by cases d <;> rfl
theorem oIx_l : oIx (.lst ds) (.int a) = (atI ds a).map R.sh := rfl
theorem oIx_t : oIx (.tup ds) (.int a) = (atI ds a).map R.sh := rfl
theorem oIx_s {ns : List Int} : oIx (.scr ns) (.int a) = (atI ns a).map fun n => .sh (.int n) := rfl
theorem e_ms : (some d).map R.sh = some (.sh d) := rfl
theorem atI_nn {α : Type} {xs : List α} {i : Int} (h0 : 0 ≤ i) (h1 : i < xs.length) : atI xs i = some (xs[i.toNat]'(by omega)) := by
  unfold atI ixN
  rw [if_pos h0, if_pos h1]
  show xs[i.toNat]? = _
  rw [List.getElem?_eq_getElem (by omega)]
theorem at0 {α : Type} {x : α} {xs : List α} : atI (x :: xs) 0 = some x := by
  rw [atI_nn (by decide) (by rw [List.length_cons]; omega)]; rfl
theorem at1 {α : Type} {x y : α} {xs : List α} : atI (x :: y :: xs) 1 = some y := by
  rw [atI_nn (by decide) (by rw [List.length_cons, List.length_cons]; omega)]; rfl
theorem at2 {α : Type} {x y z : α} {xs : List α} : atI (x :: y :: z :: xs) 2 = some z := by
  rw [atI_nn (by decide) (by rw [List.length_cons, List.length_cons, List.length_cons]; omega)]; rfl
theorem cDiv_ok {i j : Int} (h0 : 0 < j) (h1 : j < 1073741824) : cDiv i j = true := by unfold cDiv; rw [decide_eq_true h0, decide_eq_true h1]; rfl
theorem cMod_ok {i j : Int} (h0 : 0 < j) : cMod i j = true := by unfold cMod; rw [decide_eq_true h0]
theorem cMulL_ok {i j : Int} (h0 : -(2 ^ 64) < i) (h1 : i < 2 ^ 64) : cMul i j = true := by unfold cMul; rw [decide_eq_true h0, decide_eq_true h1]; simp
theorem oMod_ii (h : 0 < b) : oMod (.int a) (.int b) = some (.sh (.int (a % b))) := if_pos (cMod_ok h)
theorem oDiv_ii (h : 0 < b) (h' : b < 1073741824) : oDiv (.int a) (.int b) = some (.sh (.int (a / b))) := if_pos (cDiv_ok h h')
theorem oMulL_ii (h : -(2 ^ 64) < a) (h' : a < 2 ^ 64) : oMul (.int a) (.int b) = some (.sh (.int (a * b))) := if_pos (cMulL_ok h h')
end
def stepS (o : Option (Out × WSt)) (P : WSt → Prop) : Prop := match o with
  | some (.nx, ω) => P ω
  | some (.ct, ω) => P ω
  | _ => False
theorem e_st_nx {ω : WSt} {P : WSt → Prop} : stepS (some (.nx, ω)) P = P ω := rfl
theorem e_st_ct {ω : WSt} {P : WSt → Prop} : stepS (some (.ct, ω)) P = P ω := rfl
theorem forD_map {α : Type} {g : FG} {b : FS} (F : α → D) (xs : List α) (I : List α → WSt → Prop)
    (turn : ∀ pre x post ω, xs = pre ++ x :: post → I pre ω → ∃ w, g (F x) ω = some w ∧ stepS (b w) (I (pre ++ [x])))
    {ω : WSt} (h0 : I [] ω) : ∃ ω', forD g b (xs.map F) ω = some (.nx, ω') ∧ I xs ω' := by
  have key : ∀ (post pre : List α) (ω : WSt), xs = pre ++ post → I pre ω → ∃ ω', forD g b (post.map F) ω = some (.nx, ω') ∧ I xs ω' := by
    intro post
    induction post with
    | nil => intro pre ω e h; exact ⟨ω, rfl, by rw [e, List.append_nil]; exact h⟩
    | cons d post ih =>
      intro pre ω e h
      obtain ⟨w, h1, h2⟩ := turn pre d post ω e h
      rw [List.map_cons, forD, h1, Option.bind_some]
      match hb : b w, h2 with
      | some (.nx, ω2), h2 => exact ih (pre ++ [d]) ω2 (by rw [e, List.append_assoc]; rfl) h2
      | some (.ct, ω2), h2 => exact ih (pre ++ [d]) ω2 (by rw [e, List.append_assoc]; rfl) h2
  exact key xs [] ω rfl h0
theorem forD_upTo {g : FG} {b : FS} (lo : Int) (n : Nat) (I : Nat → WSt → Prop) (turn : ∀ i ω, i < n → I i ω → ∃ w, g (.int (lo + i)) ω = some w ∧ stepS (b w) (I (i + 1)))
    {ω : WSt} (h0 : I 0 ω) : ∃ ω', forD g b (Hk.upTo lo n) ω = some (.nx, ω') ∧ I n ω' := by
  unfold Hk.upTo
  obtain ⟨ω', e, h⟩ := forD_map (g := g) (b := b) (fun (i : Nat) => D.int (lo + (i : Int))) (List.range n) (fun pre ω => I pre.length ω) (fun pre x post ω e h => by
    have hx : x = pre.length := by
      have := congrArg (fun l => l[pre.length]?) e
      rw [List.getElem?_append_right (Nat.le_refl _), Nat.sub_self] at this
      rcases Nat.lt_or_ge pre.length n with z | z
      · rw [List.getElem?_range z] at this; simpa using this.symm
      · rw [List.getElem?_eq_none (by rw [List.length_range]; exact z)] at this; cases this
    have hlt : pre.length < n := by
      have := congrArg List.length e
      rw [List.length_range, List.length_append, List.length_cons] at this
      omega
    subst hx
    obtain ⟨w, h1, h2⟩ := turn pre.length ω hlt h
    refine ⟨w, h1, ?_⟩
    rw [List.length_append]; exact h2) h0
  rw [List.length_range] at h
  exact ⟨ω', e, h⟩
theorem compD_rel {g : FG} {c : FT} {f : FD} (P : WSt → Prop) (q : D → Bool) (F : D → D) : ∀ (ds : List D) {ω : WSt}, P ω →
    (∀ d ∈ ds, ∀ ω, P ω → ∃ w, g d ω = some w ∧ P w ∧ c w = some (q d) ∧ (q d = true → f w = some (F d))) → compD g c f ds ω = some ((ds.filter q).map F)
  | [], _, _, _ => rfl
  | d :: ds, ω, h, t => by
    obtain ⟨w, h1, h2, h3, h4⟩ := t d List.mem_cons_self ω h
    have ih := compD_rel P q F ds h2 (fun e he => t e (List.mem_cons_of_mem _ he))
    rw [compD, h1, Option.bind_some, h3, Option.bind_some]
    cases hq : q d with
    | true => rw [if_pos rfl, h4 hq, Option.bind_some, ih, List.filter_cons_of_pos hq]; rfl
    | false => rw [if_neg (by decide), ih, List.filter_cons_of_neg (by rw [hq]; decide)]
theorem compD_map {i : Nat} {f : FD} (F : D → D) (ds : List D) {ω : WSt} (h : ∀ d ∈ ds, f (ω.set i (some (.sh d))) = some (F d)) : compD (gN i) tTrue f ds ω = some (ds.map F) := by
  have := compD_rel (g := gN i) (c := tTrue) (f := f) (fun w => ∀ x, w.set i x = ω.set i x) (fun _ => true) F ds (ω := ω) (fun x => rfl) fun d hd w hw =>
    ⟨w.set i (some (.sh d)), rfl, fun x => by rw [List.set_set, hw], rfl, fun _ => by rw [hw]; exact h d hd⟩
  rw [this, List.filter_eq_self.mpr (fun _ _ => rfl)]
theorem upTo_mem {lo : Int} {n : Nat} {d : D} (h : d ∈ upTo lo n) : ∃ i : Nat, i < n ∧ d = .int (lo + i) := by
  unfold upTo at h
  obtain ⟨i, h1, h2⟩ := List.mem_map.mp h
  exact ⟨i, List.mem_range.mp h1, h2.symm⟩
theorem upTo_len {lo : Int} {n : Nat} : (upTo lo n).length = n := by unfold upTo; rw [List.length_map, List.length_range]
def onI (F : Int → Int) : D → D
  | .int k => .int (F k)
  | d => d
theorem upTo_map {lo : Int} {n : Nat} (F : Int → Int) : (Hk.upTo lo n).map (onI F) = ((List.range n).map fun (i : Nat) => F (lo + (i : Int))).map D.int := by
  unfold upTo; rw [List.map_map, List.map_map]; rfl
theorem oSl_l {ds : List D} {lo hi : Option Int} : oSl (.lst ds) lo hi = some (.fr (cutD ds lo hi)) := rfl
theorem oSl_s {ns : List Int} {lo hi : Option Int} : oSl (.scr ns) lo hi = some (.fr ((cutD ns lo hi).map D.int)) := rfl
theorem oAdd_ll {xs ys : List D} (h : xs.length + ys.length ≤ 1000000) : oAdd (.lst xs) (.lst ys) = some (.fr (xs ++ ys)) := if_pos h
theorem at_int {ns : List Int} {i : Nat} (h : i < ns.length) : atI (ns.map D.int) (i : Int) = some (.int ns[i]) := by
  rw [atI_nn (by omega) (by rw [List.length_map]; omega)]
  simp
theorem eqD_refl {d : D} (h : shp d = true) : eqD d d = true := SeqAt.eqv_refl d.py (SeqAt.canLay_of_shaped h)
theorem oNe_self {d : D} (h : shp d = true) : oEq true d d = some (.sh (.bl false)) := by
  unfold oEq; rw [h]; show some (R.sh (D.bl (!eqD d d))) = _; rw [eqD_refl h]; rfl
theorem shp_lst {ds : List D} (n : Nat) (hn : n < 64) (h : ∀ d ∈ ds, d.py.canLay0 = true ∧ d.py.depth ≤ n) : shp (.lst ds) = true := by
  unfold shp SeqAt.shaped
  have : ∀ ds : List D, (∀ d ∈ ds, d.py.canLay0 = true ∧ d.py.depth ≤ n) → PyData.canLayAll0 (D.pys ds) = true ∧ PyData.depthAll (D.pys ds) ≤ n := by
    intro ds
    induction ds with
    | nil => intro _; exact ⟨rfl, Nat.zero_le _⟩
    | cons d ds ih =>
      intro h
      obtain ⟨a, b⟩ := ih fun e he => h e (List.mem_cons_of_mem _ he)
      obtain ⟨a', b'⟩ := h d List.mem_cons_self
      refine ⟨?_, ?_⟩
      · rw [D.pys, PyData.canLayAll0, a, a']; rfl
      · rw [D.pys, PyData.depthAll]; exact Nat.max_le.mpr ⟨b', b⟩
  obtain ⟨a, b⟩ := this ds h
  show (PyData.canLayAll0 (D.pys ds) && decide (PyData.depthAll (D.pys ds) + 1 ≤ 64)) = true
  rw [a, decide_eq_true (by omega)]; rfl
end Hk
set_option maxRecDepth 100000
namespace Hk
open PySem L2
section
variable {X : Cx}
def intsOf : List D → Option (List Int)
  | [] => some []
  | .int i :: r => (intsOf r).map fun l => i :: l
  | _ => none
theorem intsOf_of : ∀ {ds : List D} {ns : List Int}, intsOf ds = some ns → ds = ns.map D.int
  | [], _, e => by cases e; rfl
  | .int c :: r, b, e => by
    obtain ⟨k, q, e⟩ := mpd e
    subst e
    rw [intsOf_of q]; rfl
  | .non :: _, _, e => by cases e
  | .bl _ :: _, _, e => by cases e
  | .str _ :: _, _, e => by cases e
  | .lst _ :: _, _, e => by cases e
  | .tup _ :: _, _, e => by cases e
  | .scr _ :: _, _, e => by cases e
  | .exc _ :: _, _, e => by cases e
  | .dic _ _ :: _, _, e => by cases e
theorem intsOf_map : ∀ (ns : List Int), intsOf (ns.map D.int) = some ns
  | [] => rfl
  | n :: r => by show (intsOf (r.map D.int)).map _ = _; rw [intsOf_map r]; rfl
end
end Hk
set_option maxRecDepth 100000
namespace PySem.F
end PySem.F
namespace Hk
open PySem PySem.Spec PyProof.Rows
section
variable {prog : Program} {w : World} {A : Around} {E : Value → Shared → Prop} {s : Shared}
end
end Hk
set_option maxRecDepth 100000
namespace Hk
open PySem PySem.Spec PySem.W PyProof.Rows
section
variable {prog : Program} {w : World} {A : Around} {E : Value → Shared → Prop} {R : Result → Shared → Prop} {s : Shared}
abbrev lstAt (h : Heap) (S : Addr) (acc : Array Value) (c : Nat) : Prop := h.get? S = some { cls := .type "list", dict := none, data := .seq acc c, slots := #[] }
end
end Hk
set_option maxRecDepth 100000
namespace Hk
open PySem L2
section
variable {X : Cx} {pins : List (Addr × Obj)} {σ : St} {H H' : Hp} {s : Shared}
theorem reps_refs {K : PySem.W.Frag} {G : Hp} : ∀ {ds : List D} {ts : List Addr}, ds.length = ts.length → (∀ (j : Nat) d t, ds[j]? = some d → ts[j]? = some t → Rep K G d (.ref t)) → Reps K G ds (ts.map V.ref)
  | [], [], _, _ => rfl
  | [], _ :: _, h, _ => by simp at h
  | _ :: _, [], h, _ => by simp at h
  | d :: ds, t :: ts, h, f => ⟨.ref t, _, rfl, f 0 d t rfl rfl, reps_refs (by simpa using h) fun j e u h1 h2 => f (j + 1) e u (by simpa using h1) (by simpa using h2)⟩
end
end Hk
set_option maxRecDepth 100000
namespace Hk
open PySem L2
section
variable {X : Cx}
end
end Hk
set_option maxRecDepth 100000
namespace Hk
open PySem L2
section
variable {X : Cx} {c : Expr} {body : List Stmt} {fc : FT} {fb : FS} {pos : Pos} {n : Nat}
end
section
variable {fc : FT} {fb : FS}
end
end Hk
namespace Hk
open PySem L2
def sMut0 (m : List D → List D) (i : Nat) : FS := fun ω => match ω[i]? with
  | some (some (.ow ds)) => some (.nx, ω.set i (some (.ow (m ds))))
  | _ => none
def sClr (i : Nat) : FS := sMut0 (fun _ => []) i
def sRev (i : Nat) : FS := sMut0 List.reverse i
theorem Reps.rev {K : PySem.W.Frag} {H : Hp} : ∀ {ds : List D} {vs : List V}, Reps K H ds vs → Reps K H ds.reverse vs.reverse
  | [], _, h => by cases (show _ = _ from h); rfl
  | _ :: _, _, ⟨v, r, h1, h2, h3⟩ => by rw [h1, List.reverse_cons, List.reverse_cons]; exact (Reps.rev h3).app (Reps.cons h2 Reps.nil)
section
variable {X : Cx} {pos : Pos} {o : Expr} {apos cpos : Pos} {i : Nat}
end
end Hk
set_option maxRecDepth 100000
namespace Hk
open PySem L2
abbrev FM := WSt → Option (D × WSt)
def SimM (K : PySem.W.Frag) (t : TE) (f : FM) : Prop := ∀ G0 H0 G ω σ H d ω' (Q : VK), Own K G0 H0 G ω σ H → f ω = some (d, ω') →
  (∀ v G' H', Own K G0 H0 G' ω' σ H' → Same G G' → Rep K G' d v → Q v H') → t σ H Q
def XM (X : Cx) (e : Expr) (f : FM) : Prop := ∃ t, PE X e t ∧ SimM X.K t f
def popD (k : Int) (i : Nat) (ω : WSt) : Option (D × WSt) := match ω[i]? with
  | some (some (.ow ds)) => if -(2 ^ 63) ≤ k ∧ k < 2 ^ 63 then (seqIndex? k ds.length).bind fun n => (ds[n]?).map fun d => (d, ω.set i (some (.ow (ds.eraseIdx n)))) else none
  | _ => none
def mPop (i : Nat) (fd : FD) : FM := fun ω => (fd ω).bind fun d => match d with
  | .int k => popD k i ω
  | _ => none
theorem Reps.erase {K : PySem.W.Frag} {H : Hp} : ∀ {ds : List D} {vs : List V} (n : Nat), Reps K H ds vs → Reps K H (ds.eraseIdx n) (vs.eraseIdx n)
  | [], _, _, h => by cases (show _ = _ from h); rfl
  | _ :: _, _, 0, ⟨v, r, h1, h2, h3⟩ => by rw [h1]; exact h3
  | _ :: _, _, n + 1, ⟨v, r, h1, h2, h3⟩ => by rw [h1]; exact ⟨v, _, rfl, h2, Reps.erase n h3⟩
section
variable {X : Cx} {pos : Pos} {o e : Expr} {apos cpos pos' : Pos} {i : Nat} {fd : FD} {f : FM}
theorem xm_pop (ho : PE X o (tVar i)) (he : XD X e fd)
    (hbase : attributeBase o "pop" X.env (eval o X.env) = eval o X.env := by rfl)
    (hfew : ((backTo cpos (starEach [e] X.env)).all (fun x => !x.1) && (backToKw cpos (keywordEach [] X.env)).all (fun x => x.1.isSome)
      && decide (([e] : List Expr).length + ([] : List Keyword).length + (if ([] : List Keyword).isEmpty then 0 else 1) < 30)) = true := by rfl)
    (hline : (apos.endLine == cpos.line) = true := by rfl) (hs : starEach [e] X.env = (false, eval e X.env) :: starEach [] X.env := by rfl) (hplain : (backTo cpos (starEach [] X.env)).any (·.1) = false := by rfl) :
    XM X (.Call (.Attribute o "pop" apos) [e] [] cpos) (mPop i fd) := by
  obtain ⟨t, h1, h2⟩ := he
  refine ⟨_, pe_bm PySem.F.plainAttrs_list PySem.F.slot_list_pop PySem.F.type_list_pop mt_popAt ho (pa_cons h1 pa_nil hs) hbase hfew hline hs hplain, fun G0 H0 G ω σ H d ω' Q ow e k => ?_⟩
  obtain ⟨d0, q, e⟩ := bnd e
  cases d0 with
  | int m =>
    have e : popD m i ω = some (d, ω') := e
    unfold popD at e
    split at e
    · rename_i ds q2
      by_cases z : -(2 ^ 63) ≤ m ∧ m < 2 ^ 63
      · rw [if_pos z] at e
        obtain ⟨n, hn, e⟩ := bnd e
        cases hd : ds[n]? with
        | none => rw [hd] at e; cases e
        | some d1 =>
          rw [hd] at e
          cases e
          obtain ⟨l, vs, r1, r2, r3, r4, r5⟩ := ow.ow i ds q2
          refine ⟨.ref l, r1, .inl ⟨rfl, vs, SqL.of r2⟩, h2 G0 H0 G ω σ H _ _ ow q fun v G1 H1 x1 y1 => ?_⟩
          cases (show v = .int m from y1)
          have o1 := ow.keep x1
          obtain ⟨y, hy, ry⟩ := r5.get hd
          exact ⟨l, vs, m, n, y, rfl, rfl, x1.hh _ _ r2, z.1, z.2, by rw [← r5.len]; exact hn, hy, k y G1 _ (o1.mut q2 r1 (x1.hh _ _ r2) (x1.new l r3 (by rw [r2]; exact fun z => by cases z)) r4 ((r5.mono x1.gg).erase n)) x1.gg (ry.mono x1.gg)⟩
      · rw [if_neg z] at e; cases e
    · cases e
  | _ => cases e
def sSetM (i : Nat) (f : FM) : FS := fun ω => (f ω).map fun p => (.nx, p.2.set i (some (.sh p.1)))
def sAppM (i : Nat) (f : FM) : FS := fun ω => match ω[i]? with
  | some (some (.ow _)) => (f ω).bind fun p => match p.2[i]? with
    | some (some (.ow ds)) => if ds.length < 1000000 then some (.nx, p.2.set i (some (.ow (ds ++ [p.1])))) else none
    | _ => none
  | _ => none
theorem xs_appM (ho : PE X o (tVar i)) (he : XM X e f)
    (hbase : attributeBase o "append" X.env (eval o X.env) = eval o X.env := by rfl)
    (hfew : ((backTo cpos (starEach [e] X.env)).all (fun x => !x.1) && (backToKw cpos (keywordEach [] X.env)).all (fun x => x.1.isSome)
      && decide (([e] : List Expr).length + ([] : List Keyword).length + (if ([] : List Keyword).isEmpty then 0 else 1) < 30)) = true := by rfl)
    (hline : (apos.endLine == cpos.line) = true := by rfl) (hs : starEach [e] X.env = (false, eval e X.env) :: starEach [] X.env := by rfl) (hplain : (backTo cpos (starEach [] X.env)).any (·.1) = false := by rfl)
    (hsw : swapsWith (.Call (.Attribute o "append" apos) [e] [] cpos) none pos.line X.env = pure false := by rfl) :
    XS X (.Expr (.Call (.Attribute o "append" apos) [e] [] cpos) pos) (sAppM i f) := by
  obtain ⟨t, h1, h2⟩ := he
  refine ⟨_, ps_expr (pe_bm PySem.F.plainAttrs_list PySem.F.slot_list_append PySem.F.type_list_append mt_append ho (pa_cons h1 pa_nil hs) hbase hfew hline hs hplain) hsw, fun G0 H0 G ω σ H out ω' E ow e k => ?_⟩
  unfold sAppM at e
  split at e
  case h_2 => cases e
  case h_1 ds0 q2 =>
    obtain ⟨⟨d, ω1⟩, q, e⟩ := bnd e
    obtain ⟨l, vs, r1, r2, r3, r4, r5⟩ := ow.ow i ds0 q2
    refine ⟨.ref l, r1, .inl ⟨rfl, vs, SqL.of r2⟩, h2 G0 H0 G ω σ H d ω1 _ ow q fun v G1 H1 o1 g1 y1 => ?_⟩
    dsimp only at e
    split at e
    case h_2 => cases e
    case h_1 ds q3 =>
      by_cases z : ds.length < 1000000
      · rw [if_pos z] at e
        cases e
        obtain ⟨l', us, p1, p2, p3, p4, p5⟩ := o1.ow i ds q3
        rw [r1] at p1
        cases p1
        have hz : us.length < sizeLine := by rw [← p5.len, sizeLine_eq]; omega
        exact ⟨l, us, v, rfl, rfl, p2, hz, k G1 σ _ (o1.mut q3 r1 p2 p3 p4 (p5.app (Reps.cons y1 Reps.nil))) g1⟩
      · rw [if_neg z] at e; cases e
end
end Hk
set_option maxRecDepth 100000
namespace Hk
open PySem L2
def fChI (p p' : Int → Int → Bool) (fa fb fc : FD) : FE := fun ω => (fa ω).bind fun x => (fb ω).bind fun y => match x, y with
  | .int i, .int j => if p i j = true then (fc ω).bind fun z => match z with
      | .int k => some (.sh (.bl (p' j k)))
      | _ => none
    else some (.sh (.bl false))
  | _, _ => none
section
variable {X : Cx} {a b c : Expr} {pos : Pos} {fa fb fc : FD} {op op' : CmpOp} {p p' : Int → Int → Bool}
theorem sim_chain {K : PySem.W.Frag} {ta tb tc : TE} (ha : SimV K ta fa) (hb : SimV K tb fb) (hc : SimV K tc fc) : SimE K (tChain (rI0 fun i j => .bl (p i j)) (rI0 fun i j => .bl (p' i j)) ta tb tc) (fChI p p' fa fb fc) := by
  intro G0 H0 G ω σ H r Q o e k
  obtain ⟨x, q1, e⟩ := bnd e
  obtain ⟨y, q2, e⟩ := bnd e
  refine ha G0 H0 G ω σ H x _ o q1 fun v G1 H1 x1 y1 => ?_
  refine hb G0 H0 G1 ω σ H1 y _ (o.keep x1) q2 fun u G2 H2 x2 y2 => ?_
  cases x with
  | int i =>
    cases y with
    | int j =>
      cases y1.int
      cases y2.int
      refine ⟨i, j, rfl, rfl, p i j, rfl, ?_⟩
      dsimp only at e
      by_cases z : p i j = true
      · rw [if_pos z] at e ⊢
        obtain ⟨w, q3, e⟩ := bnd e
        refine hc G0 H0 G2 ω σ H2 w _ ((o.keep x1).keep x2) q3 fun t G3 H3 x3 y3 => ?_
        cases w with
        | int m => cases y3.int; cases e; exact ⟨j, m, rfl, rfl, k _ G3 H3 ((x1.trans x2).trans x3) rfl⟩
        | _ => cases e
      · rw [if_neg z] at e ⊢
        cases e
        exact k _ G2 H2 (x1.trans x2) rfl
    | _ => cases e
  | _ => cases e
theorem xt_chain (ho : OpR X (compareOp op) (rI0 fun i j => .bl (p i j))) (ho' : OpR X (compareOp op') (rI0 fun i j => .bl (p' i j))) (ha : XV X a fa) (hb : XV X b fb) (hc : XV X c fc)
    (hm : lastMarks [op, op'] [b, c] = false := by with_unfolding_all rfl) : XT X (.Compare a [op, op'] [b, c] pos) (tOf (fChI p p' fa fb fc)) := by
  obtain ⟨t1, a1, a2⟩ := ha
  obtain ⟨t2, b1, b2⟩ := hb
  obtain ⟨t3, c1, c2⟩ := hc
  refine ⟨_, pt_chain ho ho' a1 b1 c1 hm, fun G0 H0 G ω σ H z Q o e k => ?_⟩
  unfold tOf at e
  split at e
  · rename_i d q
    cases e
    exact sim_chain a2 b2 c2 G0 H0 G ω σ H _ _ o q fun v G1 H1 x1 y1 => ⟨_, y1, k G1 H1 x1⟩
  · cases e
end
end Hk
set_option maxRecDepth 100000
namespace Hk
open PySem L2
def insZ (x : Int) : List Int → List Int
  | [] => [x]
  | y :: r => if x ≤ y then x :: y :: r else y :: insZ x r
def sortZ (ns : List Int) : List Int := ns.foldr insZ []
theorem insZ_perm {x : Int} : ∀ {l : List Int}, (insZ x l).Perm (x :: l)
  | [] => .refl _
  | y :: r => by
    unfold insZ
    by_cases h : x ≤ y
    · rw [if_pos h]
    · rw [if_neg h]; exact (insZ_perm.cons y).trans (.swap x y r)
theorem sortZ_perm : ∀ {l : List Int}, (sortZ l).Perm l
  | [] => .refl _
  | y :: r => insZ_perm.trans ((sortZ_perm (l := r)).cons y)
theorem insZ_le {x : Int} : ∀ {l : List Int}, l.Pairwise (· ≤ ·) → (insZ x l).Pairwise (· ≤ ·)
  | [], _ => List.pairwise_singleton _ _
  | y :: r, h => by
    obtain ⟨h1, h2⟩ := List.pairwise_cons.mp h
    unfold insZ
    by_cases z : x ≤ y
    · rw [if_pos z]
      refine List.pairwise_cons.mpr ⟨fun a ha => ?_, h⟩
      cases ha with
      | head => exact z
      | tail _ ha => exact Int.le_trans z (h1 a ha)
    · rw [if_neg z]
      refine List.pairwise_cons.mpr ⟨fun a ha => ?_, insZ_le h2⟩
      cases (insZ_perm.mem_iff.mp ha : a ∈ x :: r) with
      | head => omega
      | tail _ ha => exact h1 a ha
theorem sortZ_le : ∀ {l : List Int}, (sortZ l).Pairwise (· ≤ ·)
  | [] => .nil
  | y :: r => insZ_le (sortZ_le (l := r))
theorem le_perm_eq : ∀ {l m : List Int}, l.Pairwise (· ≤ ·) → m.Pairwise (· ≤ ·) → l.Perm m → l = m
  | [], m, _, _, p => (List.Perm.nil_eq p)
  | a :: l, m, h, h', p => by
    cases m with
    | nil => exact absurd p.length_eq (by simp)
    | cons b m =>
      obtain ⟨h1, h2⟩ := List.pairwise_cons.mp h
      obtain ⟨h3, h4⟩ := List.pairwise_cons.mp h'
      have hab : a = b := by
        have x1 : a ∈ b :: m := p.mem_iff.mp (.head _)
        have x2 : b ∈ a :: l := p.mem_iff.mpr (.head _)
        cases x1 with
        | head => rfl
        | tail _ x1 =>
          cases x2 with
          | head => rfl
          | tail _ x2 => have := h3 a x1; have := h1 b x2; omega
      subst hab
      rw [le_perm_eq h2 h4 p.cons_inv]
theorem sortZ_len (l : List Int) : (sortZ l).length = l.length := sortZ_perm.length_eq
theorem sortZ_eq {l m : List Int} : sortZ l = sortZ m ↔ l.Perm m :=
  ⟨fun h => sortZ_perm.symm.trans (h ▸ sortZ_perm), fun h => le_perm_eq sortZ_le sortZ_le ((sortZ_perm.trans h).trans sortZ_perm.symm)⟩
def oSortL : D → Option R
  | .lst ds => (intsOf ds).bind fun ns => if ns.length < 64 then some (.fr ((sortZ ns).map D.int)) else none
  | _ => none
def fSortL (f : FD) : FE := fun ω => (f ω).bind oSortL
section
variable {X : Cx}
end
end Hk
set_option maxRecDepth 100000
namespace Hk
open PySem PySem.Spec PyProof.Rows
theorem nolenRev : typeLookup (.type "list_reverseiterator") "__len__" = pure none := by rw [typeLookup_type, builtinLookup_eq_fast]; kernel_rfl
theorem hintRev : typeLookup (.type "list_reverseiterator") "__length_hint__" = pure (some (.builtin "list_reverseiterator.__length_hint__")) := by rw [typeLookup_type, builtinLookup_eq_fast]; kernel_rfl
section
variable {prog : Program} {w : World} {A : Around} {E : Value → Shared → Prop} {s : Shared}
theorem hint_rev {r : Addr} {Q : Bool → Shared → Prop} (hT : s.TypeIs (.ref r) "list_reverseiterator") (h : Q false s) : wpAny (model prog w) A (Builtin.List.listLengthHint (.ref r)) Q E s := by
  unfold Builtin.List.listLengthHint
  refine wpAny_bind (wpAny_specialOf hT nolenRev ?_)
  show wpAny _ A (specialOf (Value.ref r) (Str.ofString "__length_hint__") >>= _) _ _ _
  refine wpAny_bind (wpAny_specialOf hT hintRev ?_)
  generalize hid : ("list_reverseiterator.__length_hint__" : String) = id0
  wp_delta
  rw [show splitId id0 = some ("list_reverseiterator", "__length_hint__") from by subst hid; decide +kernel]
  subst hid
  refine wpAny_bind (wpAny_isInstance (T := "list_reverseiterator") (b := true) hT (by rw [isSubtype_type]; kernel_rfl) ?_)
  refine wpAny_ite_split (fun hab => absurd hab (by decide)) (fun _ => ?_)
  refine wpAny_ite_split (fun _ => ?_) (fun hab => absurd (by decide +kernel) hab)
  refine wpAny_ite_split (fun hab => absurd hab (by decide +kernel)) (fun _ => ?_)
  exact wpAny_pure h
theorem extend_rev {R : Result → Shared → Prop} {S I l : Addr} {items : Array Value} {res : Value} {c₀ : Nat} (hh : A.handled = none) (hn : items.size ≤ sizeLine) (hSI : S ≠ I) (hSl : S ≠ l) (hne : l ≠ I) (hit : s.heap.IsRevIter I l ((items.size : Int) - 1)) (hl : s.heap.IsList l items)
    (hS : lstAt s.heap S #[] c₀) (hR : ∀ (h' : Heap) (tk : Nat) (c : Nat), (∀ b o, b ≠ S → b ≠ I → s.heap.get? b = some o → h'.get? b = some o) → lstAt h' S items.reverse c → R (.ok (.ret res)) { s with heap := h', toks := tk }) :
    wpAny (model prog w) A.in1 (Builtin.List.listExtendWith (.ref S) (.ref I) res)
      (fun fin s' => match fin with | .done f => R (.ok f) s' | .again c' => c'.quiet = true ∧ codeAny (model prog w) A c' R s') (fun e s' => R (.error e) s') s := by
  have W := Walks.listRev (prog := prog) (w := w) (A := A.in1) hh I l hne items
  have hT := hit.typeIs
  have hSf : S ∉ [I, l] := by simp [hSI, hSl]
  unfold Builtin.List.listExtendWith
  refine wpAny_bind (wpAny_typeOf (T := "list_reverseiterator") hT ?_)
  rw [show Builtin.List.listSameRef (.ref S) (.ref I) = false by simp [Builtin.List.listSameRef, hSI], show (Value.type "list_reverseiterator" == Value.type "list") = false by decide, show (Value.type "list_reverseiterator" == Value.type "tuple") = false by decide]
  refine wpAny_ite_split (fun hab => absurd hab (by decide)) (fun _ => ?_)
  refine wpAny_bind (wpAny_pyIter_revIter hit ?_)
  refine wpAny_bind (wpAny_holding (hint_rev hT ?_))
  refine wpAny_ite_split (fun hab => absurd hab (by decide)) (fun _ => ?_)
  have st : 0 ≤ items.size ∧ s.heap.IsRevIter I l ((items.size : Int) - 1 - ((0 : Nat) : Int)) ∧ s.heap.IsList l items := ⟨Nat.zero_le _, by simpa using hit, hl⟩
  refine wpAny_pure ⟨plainId_quiet PySem.F.plain_extend_loop _, codeAny_extend_loopS W.toS hn S hSf res items.size 0 _ #[] c₀ rfl (Nat.zero_le _) st hS (ItemsOf.nil _) fun s' acc' c' hm hS' hacc => ?_⟩
  rw [Moved.eq_with hm]
  have e : acc' = items.reverse := by
    apply Array.ext_getElem?
    intro j
    rcases Nat.lt_or_ge j items.size with z | z
    · have hz : j < acc'.size := by rw [hacc.1]; exact z
      have q : acc'[j]? = some acc'[j] := Array.getElem?_eq_getElem hz
      rw [q, Array.getElem?_reverse z]
      exact (hacc.2 j _ q).symm
    · rw [Array.getElem?_eq_none (by rw [hacc.1]; exact z), Array.getElem?_eq_none (by rw [Array.size_reverse]; exact z)]
  subst e
  exact hR s'.heap s'.toks c' (fun b o b1 b2 e => hm.heap b o (by simp [b1, b2]) e) hS'
theorem list_rev {l : Addr} {items : Array Value} {Q : Value → Shared → Prop} (hh : A.handled = none) (hn : items.size ≤ sizeLine) (hl : s.heap.IsList l items)
    (hQ : ∀ (h' : Heap) (tk : Nat) (S : Addr) (c : Nat), s.heap.objs.size ≤ S → (∀ b o, s.heap.get? b = some o → h'.get? b = some o) → lstAt h' S items.reverse c → Q (.ref S) { s with heap := h', toks := tk }) :
    wpAny (model prog w) A (call (.type "list") [.ref s.heap.objs.size]) Q E { s with heap := s.heap.push (revObj l ((items.size : Int) - 1)) } := by
  have hll : l < s.heap.objs.size := by obtain ⟨_, e, _⟩ := hl; exact Heap.lt_size e
  have gI : (s.heap.push (revObj l ((items.size : Int) - 1))).get? s.heap.objs.size = some (revObj l ((items.size : Int) - 1)) := Heap.get?_push_size _ rfl
  have k1 : ∀ b o, s.heap.get? b = some o → (s.heap.push (revObj l ((items.size : Int) - 1))).get? b = some o := fun b o e => Heap.get?_push_of_some _ e
  generalize hI : s.heap.objs.size = I at *
  generalize hp : s.heap.push (revObj l ((items.size : Int) - 1)) = h1 at *
  have hI1 : I < h1.objs.size := Heap.lt_size gI
  have hS : (h1.push { cls := .type "list", data := .seq #[] }).get? h1.objs.size = some { cls := .type "list", data := .seq #[] } := Heap.get?_push_size _ rfl
  refine callType_codes (s := { s with heap := h1 }) (Q₁ := fun obj s₁ => obj = .ref h1.objs.size ∧ s₁ = { s with heap := h1.push { cls := .type "list", data := .seq #[] } }) PySem.F.called_list (PySem.F.typeCall_list_1 _) PySem.F.entry_list_init
    (code_list_new _ ⟨rfl, rfl⟩) fun obj s₁ z => ?_
  obtain ⟨rfl, rfl⟩ := z
  refine ⟨⟨_, hS, rfl⟩, PySem.F.args_list_init_2 _ _, ?_⟩
  generalize hS0 : h1.objs.size = S at *
  show wpAny _ _ (do let old ← Builtin.List.listItems (.ref S); Builtin.List.listUpdate (.ref S) (fun _ => #[]); letGo old.toList.reverse; Builtin.List.listExtendWith (.ref S) (.ref I) .none) _ _ _
  apply wpAny_bind
  unfold Builtin.List.listItems
  refine wpAny_bind (wpAny_seqItems hS rfl (wpAny_pure ?_))
  show wpAny _ _ (updateSeq S (fun _ => #[]) >>= fun _ => letGo (#[] : Array Value).toList.reverse >>= fun _ => Builtin.List.listExtendWith (.ref S) (.ref I) .none) _ _ _
  refine wpAny_bind (wpAny_updateSeq hS rfl ?_)
  have hS2 := get?_update_seq hS (fun _ => (#[] : Array Value))
  have oth : ∀ b o, b ≠ S → h1.get? b = some o → ((h1.push { cls := .type "list", data := .seq #[] }).update S (Obj.mapSeq (fun _ => (#[] : Array Value)))).get? b = some o :=
    fun b o hb e => (Heap.get?_update_other _ _ (Ne.symm hb)).trans (Heap.get?_push_of_some _ e)
  refine wpAny_bind (wpAny_letGo ?_)
  have n1 : S ≠ I := by simp only [Addr] at *; omega
  have n2 : S ≠ l := by simp only [Addr] at *; omega
  have n3 : l ≠ I := by simp only [Addr] at *; omega
  refine extend_rev (A := A.in1) (items := items) (I := I) (l := l) hh hn n1 n2 n3 ⟨_, oth _ _ (Ne.symm n1) gI, rfl, rfl⟩ (hl.at fun o e => oth l o (Ne.symm n2) (k1 l o e)) hS2 fun h' tk c kp e => ?_
  refine ⟨rfl, hQ h' tk S c (by simp only [Addr] at *; omega) (fun b o z => ?_) e⟩
  have hb : b < I := hI ▸ Heap.lt_size z
  exact kp b o (by simp only [Addr] at *; omega) (by simp only [Addr] at *; omega) (oth b o (by simp only [Addr] at *; omega) (k1 b o z))
end
open L2
def rLR : List V → Hp → VK → Prop := fun vs H Q => ∃ p xs, vs = [.ref p] ∧ H p = some (.lst xs) ∧ ∀ S, H S = none → Q (.ref S) (upd H S (.lst xs.reverse))
section
variable {X : Cx}
theorem pe_listrev {a : Expr} {t : TA} {p1 p2 q1 q2 : Pos} (hg1 : Gl X "list") (hm1 : X.mg "list" = none) (hg2 : Gl X "reversed") (hm2 : X.mg "reversed" = none) (ha : PA X [a] t) (hc : X.calm = true)
    (he1 : starEach [a] X.env = (false, eval a X.env) :: starEach [] X.env) (hpl1 : (backTo q2 (starEach [] X.env)).any (·.1) = false)
    (he2 : starEach [.Call (.Name "reversed" p2) [a] [] q2] X.env = (false, eval (.Call (.Name "reversed" p2) [a] [] q2) X.env) :: starEach [] X.env) (hpl2 : (backTo q1 (starEach [] X.env)).any (·.1) = false) :
    PE X (.Call (.Name "list" p1) [.Call (.Name "reversed" p2) [a] [] q2] [] q1) (tCB rLR t) := by
  intro pins s σ H Q I h
  refine wpAny_Call_Name_kw (ld_blt I hg1 hm1 bt_list ?_ (by decide) (by decide))
  refine PyProof.Rows.callWith_type1 ?_ he2 hpl2
  rw [he2]
  show wpAny _ _ (spliced ((false, eval _ X.env) :: backTo q1 (starEach [] X.env))) _ _ s
  refine Calls.spliced_cons ?_
  refine wpAny_Call_Name_kw (ld_blt I hg2 hm2 PyProof.Rows.boot_reversed ?_ (by decide) (by decide))
  refine PyProof.Rows.callWith_type1 (thn (ha q2 pins s σ H _ I h) fun us s1 ⟨vs, H1, I1, r1, z1⟩ => ?_) he1 hpl1
  obtain ⟨p, xs, rfl, hp, k⟩ := z1
  obtain ⟨u, rfl, e1⟩ := vals1 r1
  cases e1
  obtain ⟨its, n, rv, g1, sz⟩ := I1.lst hp
  have il : s1.heap.IsList p its.toArray := ⟨_, g1, rfl, n, rfl⟩
  refine call_reversed_list il (Calls.spliced_nil ?_)
  refine list_rev (I1.ok.hd hc) (by rw [List.size_toArray, ← rv.length]; exact sz) il fun h2 tk S c b1 b2 b3 => ?_
  refine ⟨.ref S, _, I1.laid (t' := tk) b2 b1 (show ObjOk X.prog X.w _ h2 S (.lst xs.reverse) from ⟨by rw [List.length_reverse]; exact sz, its.reverse, c, rv.reverse, by rw [b3]; simp⟩), rfl, k S (I1.hok.fresh b1)⟩
def oRev : D → Option R
  | .lst ds => some (.fr ds.reverse)
  | _ => none
def fRev (f : FD) : FE := fun ω => (f ω).bind oRev
theorem xe_listrev {a : Expr} {f : FD} {p1 p2 q1 q2 : Pos} (hg1 : Gl X "list") (hm1 : X.mg "list" = none) (hg2 : Gl X "reversed") (hm2 : X.mg "reversed" = none) (ha : XV X a f) (hc : X.calm = true := by rfl)
    (he1 : starEach [a] X.env = (false, eval a X.env) :: starEach [] X.env := by rfl) (hpl1 : (backTo q2 (starEach [] X.env)).any (·.1) = false := by rfl)
    (he2 : starEach [.Call (.Name "reversed" p2) [a] [] q2] X.env = (false, eval (.Call (.Name "reversed" p2) [a] [] q2) X.env) :: starEach [] X.env := by rfl) (hpl2 : (backTo q1 (starEach [] X.env)).any (·.1) = false := by rfl) :
    XE X (.Call (.Name "list" p1) [.Call (.Name "reversed" p2) [a] [] q2] [] q1) (fRev f) := by
  obtain ⟨t, h1, h2⟩ := ha
  refine ⟨_, pe_listrev hg1 hm1 hg2 hm2 (pa_cons h1 pa_nil he1) hc he1 hpl1 he2 hpl2, fun G0 H0 G ω σ H r Q o e k => ?_⟩
  obtain ⟨d, q, e⟩ := bnd e
  refine h2 G0 H0 G ω σ H d _ o q fun v G1 H1 x1 y1 => ?_
  cases d with
  | lst ds =>
    cases e
    obtain ⟨p, vs, rfl, g1, g2⟩ := y1.lst x1.gh
    refine ⟨p, vs, rfl, g1, fun S hS => ?_⟩
    have x2 := Ext.hide x1.gh hS (.lst vs.reverse)
    exact k _ G1 _ (x1.trans x2) ⟨S, _, rfl, x1.hh.free hS, x1.gh.free hS, upd_same, g2.rev⟩
  | _ => cases e
end
end Hk
set_option maxRecDepth 100000
namespace L2
open PySem PySem.Spec PyProof.Rows
theorem Inv.turnedL {X : Cx} {pins : List (Addr × Obj)} {σ : List (Option V)} {H : Hp} {s : Shared} {h' : Heap} {t' : Nat} {fp : List Addr} (I : Inv X pins σ H s) (k : ∀ b o, b ∉ fp → s.heap.get? b = some o → h'.get? b = some o) (hf : ∀ b ∈ fp, FpOk X pins H b) :
    Inv X pins σ H { s with heap := h', toks := t' } := by
  have nit : ∀ b u, H b = some u → b ∉ fp := fun b u e z => by have := (hf b z).1; rw [e] at this; cases this
  refine I.step (g' := s.gens) (d' := s.drawn) (ch := fp) (fun b hb => ?_) (fun b o _ _ hc e _ => k b o hc e) (fun b o _ _ hc e _ => ⟨o.slots, k b o hc e⟩) (fun _ _ _ _ n => n)
    (fun b o hc e => ⟨o, k b o hc e⟩) (fun _ _ e => e) (fun _ _ _ e => e) (fun b ps e => ⟨#[], by rw [e]; simp⟩) (fun m hm => ?_) (fun b u e => ?_) I.bare
  · obtain ⟨f0, f1, f2, f3, f4, f5⟩ := hf b hb
    exact ⟨f3, f1, f4, f5⟩
  · obtain ⟨o, es, ep, ho, r⟩ := hm
    exact ⟨o, es, ep, k _ o (fun z => (hf _ z).2.1 rfl) ho, r⟩
  · refine (I.hok b u e).stay (fun c v hc q => k c v ?_ q) (fun _ q => q) fun _ _ q => q
    rcases hc with z | z
    · rw [z]; exact nit b u e
    · exact nit c _ z
end L2
namespace Hk
open PySem L2
def tupL : List D → List D → List D
  | a :: as, b :: bs => .tup [a, b] :: tupL as bs
  | _, _ => []
def iZp (g : FA) : FI := fun ω => (g ω).bind fun ds => match ds with
  | [.lst a, .lst b] => some (tupL a b)
  | _ => none
def rngZ (lo : Int) (n : Nat) : List Int := (List.range n).map fun (i : Nat) => lo + (i : Int)
theorem rngZ_len (lo : Int) (n : Nat) : (rngZ lo n).length = n := by unfold rngZ; rw [List.length_map, List.length_range]
theorem vals_of : ∀ (vs : List V) (us : List Value), vs.length = us.length → (∀ (j : Nat) v u, vs[j]? = some v → us[j]? = some u → RelV v u) → Vals vs us
  | [], [], _, _ => .nil
  | [], _ :: _, h, _ => by simp at h
  | _ :: _, [], h, _ => by simp at h
  | v :: vs, u :: us, h, f => .cons (f 0 v u rfl rfl) (vals_of vs us (by simpa using h) fun j a b e1 e2 => f (j + 1) a b (by simpa using e1) (by simpa using e2))
def rLG (lo : List V → Option (Int × Int)) : List V → Hp → VK → Prop := fun vs H Q => ∃ i j : Int, lo vs = some (i, j) ∧ (-(2 ^ 62) ≤ i ∧ i < 2 ^ 62) ∧ (-(2 ^ 62) ≤ j ∧ j < 2 ^ 62) ∧ (j - i).toNat ≤ 1000000 ∧ ∀ S, H S = none → Q (.ref S) (upd H S (.lst ((rngZ i (j - i).toNat).map V.int)))
def lo1 : List V → Option (Int × Int)
  | [.int j] => some (0, j)
  | _ => none
section
open PySem.Spec PyProof.Rows
variable {X : Cx}
theorem list_rng {pins : List (Addr × Obj)} {σ : L2.St} {H : Hp} {s : Shared} {Q : VK} {E : Value → Shared → Prop} {lo hi : Int} {t u v : Tok} {tk : Nat} (I : Inv X pins σ H s) (hc : X.calm = true) (h1 : -(2 ^ 62) ≤ lo ∧ lo < 2 ^ 62) (h2 : -(2 ^ 62) ≤ hi ∧ hi < 2 ^ 62) (h3 : (hi - lo).toNat ≤ 1000000)
    (q : ∀ S, H S = none → Q (.ref S) (upd H S (.lst ((rngZ lo (hi - lo).toNat).map V.int)))) :
    wpAny (model X.prog X.w) X.A (call (.type "list") [.ref s.heap.objs.size]) (EP X pins σ Q) E { s with heap := s.heap.push { cls := .type "range", data := .fields #[.int lo t, .int hi u, .int 1 v] }, toks := tk } := by
  refine call_list_range (I.ok.hd hc) (IsRange.new ..) (small_one h1.1 h1.2 h2.1 h2.2) (n := (hi - lo).toNat) (by rw [rangeSize_one]; split <;> omega) (by omega) fun h' tk' acc c b1 b2 b3 => ?_
  have b1' : ∀ b o, s.heap.get? b = some o → h'.get? b = some o := fun b o e => b1 b o (Heap.get?_push_of_some _ e)
  have hle : s.heap.objs.size ≤ (s.heap.push { cls := .type "range", data := .fields #[.int lo t, .int hi u, .int 1 v] }).objs.size := by rw [Heap.size_push]; omega
  have hv : Vals ((rngZ lo (hi - lo).toNat).map V.int) acc.toList := by
    refine vals_of _ _ (by rw [List.length_map, rngZ_len, Array.length_toList, b3.1]) fun j x y e1 e2 => ?_
    obtain ⟨t', rfl⟩ := b3.2 j y (by simpa using e2)
    have hj : j < (hi - lo).toNat := by
      have := (List.getElem?_eq_some_iff.mp e1).1
      rw [List.length_map, rngZ_len] at this
      exact this
    unfold rngZ at e1
    rw [List.map_map, List.getElem?_map, List.getElem?_range hj] at e1
    cases e1
    exact ⟨t', by simp⟩
  refine ⟨.ref _, _, I.laid (t' := tk') b1' hle (show ObjOk X.prog X.w _ h' _ (.lst ((rngZ lo (hi - lo).toNat).map V.int)) from ⟨by rw [List.length_map, rngZ_len, sizeLine_eq]; omega, acc.toList, c, hv, by rw [Array.toArray_toList]; exact b2⟩), rfl, q _ (I.hok.fresh hle)⟩
theorem pe_listrng1 {a : Expr} {t : TA} {p1 p2 q1 q2 : Pos} (hg1 : Gl X "list") (hm1 : X.mg "list" = none) (hg2 : Gl X "range") (hm2 : X.mg "range" = none) (ha : PA X [a] t) (hc : X.calm = true)
    (he1 : starEach [a] X.env = (false, eval a X.env) :: starEach [] X.env) (hpl1 : (backTo q2 (starEach [] X.env)).any (·.1) = false)
    (he2 : starEach [.Call (.Name "range" p2) [a] [] q2] X.env = (false, eval (.Call (.Name "range" p2) [a] [] q2) X.env) :: starEach [] X.env) (hpl2 : (backTo q1 (starEach [] X.env)).any (·.1) = false) :
    PE X (.Call (.Name "list" p1) [.Call (.Name "range" p2) [a] [] q2] [] q1) (tCB (rLG lo1) t) := by
  intro pins s σ H Q I h
  refine wpAny_Call_Name_kw (ld_blt I hg1 hm1 bt_list ?_ (by decide) (by decide))
  refine PyProof.Rows.callWith_type1 ?_ he2 hpl2
  rw [he2]
  show wpAny _ _ (spliced ((false, eval _ X.env) :: backTo q1 (starEach [] X.env))) _ _ s
  refine Calls.spliced_cons ?_
  refine wpAny_Call_Name_kw (ld_blt I hg2 hm2 boot_range ?_ (by decide) (by decide))
  refine PyProof.Rows.callWith_type1 (thn (ha q2 pins s σ H _ I h) fun us s1 ⟨vs, H1, I1, r1, z1⟩ => ?_) he1 hpl1
  obtain ⟨i, j, e, b1, b2, b3, k⟩ := z1
  match vs, e, r1 with
  | [.int j'], e, r1 =>
    cases e
    obtain ⟨u, rfl, e1⟩ := vals1 r1
    obtain ⟨t', rfl⟩ := e1
    exact call_range_1 (Calls.spliced_nil (list_rng I1 hc b1 b2 b3 k))
end
def oRngL (i j : Int) : Option R := if ((-(2 ^ 62) ≤ i ∧ i < 2 ^ 62) ∧ -(2 ^ 62) ≤ j ∧ j < 2 ^ 62) ∧ (j - i).toNat ≤ 1000000 then some (.fr ((rngZ i (j - i).toNat).map D.int)) else none
def bRng1 : List D → Option R
  | [.int j] => oRngL 0 j
  | _ => none
theorem rng_fin {K : PySem.W.Frag} {G H : Hp} {i j : Int} {r : R} {Q : VK} (s : Same G H) (e : oRngL i j = some r) (k : ∀ v G' H', Ext G H G' H' → RepR K H G' H' r v → Q v H') :
    (-(2 ^ 62) ≤ i ∧ i < 2 ^ 62) ∧ (-(2 ^ 62) ≤ j ∧ j < 2 ^ 62) ∧ (j - i).toNat ≤ 1000000 ∧ ∀ S, H S = none → Q (.ref S) (upd H S (.lst ((rngZ i (j - i).toNat).map V.int))) := by
  unfold oRngL at e
  by_cases z : ((-(2 ^ 62) ≤ i ∧ i < 2 ^ 62) ∧ -(2 ^ 62) ≤ j ∧ j < 2 ^ 62) ∧ (j - i).toNat ≤ 1000000
  · rw [if_pos z] at e
    cases e
    refine ⟨z.1.1, z.1.2, z.2, fun S hS => ?_⟩
    have x2 := Ext.hide s hS (.lst ((rngZ i (j - i).toNat).map V.int))
    exact k _ G _ x2 ⟨S, _, rfl, hS, s.free hS, upd_same, Reps.ints _⟩
  · rw [if_neg z] at e; cases e
theorem cd_rng1 {K : PySem.W.Frag} : CallD K (rLG lo1) bRng1 := by
  intro G H ds vs d Q s e hv k
  match ds, e with
  | [.int j], e =>
    obtain ⟨v, rfl, h⟩ := hv.one
    cases h.int
    obtain ⟨a1, a2, a3, a4⟩ := rng_fin s e k
    exact ⟨0, j, rfl, a1, a2, a3, a4⟩
theorem xe_listrng1 {X : Cx} {a : Expr} {g : FA} {p1 p2 q1 q2 : Pos} (hg1 : Gl X "list") (hm1 : X.mg "list" = none) (hg2 : Gl X "range") (hm2 : X.mg "range" = none) (ha : XVA X [a] g) (hc : X.calm = true := by rfl)
    (he1 : starEach [a] X.env = (false, eval a X.env) :: starEach [] X.env := by rfl) (hpl1 : (backTo q2 (starEach [] X.env)).any (·.1) = false := by rfl)
    (he2 : starEach [.Call (.Name "range" p2) [a] [] q2] X.env = (false, eval (.Call (.Name "range" p2) [a] [] q2) X.env) :: starEach [] X.env := by rfl) (hpl2 : (backTo q1 (starEach [] X.env)).any (·.1) = false := by rfl) :
    XE X (.Call (.Name "list" p1) [.Call (.Name "range" p2) [a] [] q2] [] q1) (fBlt bRng1 g) := by
  obtain ⟨t, h1, h2⟩ := ha
  exact ⟨_, pe_listrng1 hg1 hm1 hg2 hm2 h1 hc he1 hpl1 he2 hpl2, sim_blt cd_rng1 h2⟩
end Hk
set_option maxRecDepth 100000
namespace Hk
open PySem L2 PyProof.Rows
def posN (k : Int) : List Int → Option Nat
  | [] => none
  | a :: r => if a = k then some 0 else (posN k r).map (· + 1)
def sRem (i : Nat) (fd : FD) : FS := fun ω => (fd ω).bind fun d => match d with
  | .int k => match ω[i]? with
    | some (some (.ow ds)) => (intsOf ds).bind fun ns => (posN k ns).map fun j => (.nx, ω.set i (some (.ow ((ns.eraseIdx j).map D.int))))
    | _ => none
  | _ => none
section
variable {X : Cx} {pos : Pos} {o e : Expr} {apos cpos : Pos} {i : Nat} {fd : FD}
theorem map_erase {α β : Type} (f : α → β) : ∀ (l : List α) (j : Nat), (l.map f).eraseIdx j = (l.eraseIdx j).map f
  | [], _ => rfl
  | _ :: _, 0 => rfl
  | a :: l, j + 1 => by simp [map_erase f l j]
end
end Hk
set_option maxRecDepth 100000
namespace Hk
open PySem L2
def forChk (j : Nat) (c : FT) (b : FS) : List D → FS
  | [], ω => some (.nx, ω)
  | d :: ds, ω => (c (ω.set j (some (.sh d)))).bind fun k => if k = true then (b (ω.set j (some (.sh d)))).bind fun p => match p.1 with
      | .rt r => some (.rt r, p.2)
      | _ => none
    else forChk j c b ds (ω.set j (some (.sh d)))
def sForChk (i j : Nat) (c : FT) (b : FS) : FS := fun ω => match ω[i]? with
  | some (some (.ow ds)) => forChk j c b ds ω
  | _ => none
section
variable {X : Cx} {o c : Expr} {body : List Stmt} {pos ipos npos : Pos} {i j : Nat} {fc : FT} {fb : FS}
end
end Hk
set_option maxRecDepth 100000
namespace Hk
open PySem L2
def dropW (o : Option R) (ω : WSt) : Option (Out × WSt) := o.map fun _ => (.nx, ω)
def mutS (m : List D → List D) (i : Nat) (ω : WSt) (o : Option (Option W)) : Option (Out × WSt) := match o with
  | some (some (.ow ds)) => some (.nx, ω.set i (some (.ow (m ds))))
  | _ => none
def zipI (o : Option (List D)) : Option (List D) := o.bind fun ds => match ds with
  | [.lst a, .lst b] => some (tupL a b)
  | _ => none
def remS (i : Nat) (ω : WSt) (o : Option D) (l : Option (Option W)) : Option (Out × WSt) := o.bind fun d => match d with
  | .int k => match l with
    | some (some (.ow ds)) => (intsOf ds).bind fun ns => (posN k ns).map fun j => (.nx, ω.set i (some (.ow ((ns.eraseIdx j).map D.int))))
    | _ => none
  | _ => none
def popW (i j : Nat) (ω : WSt) (o : Option D) (l : Option (Option W)) : Option (Out × WSt) := (o.bind fun d => match d with
  | .int k => match l with
    | some (some (.ow ds)) => if -(2 ^ 63) ≤ k ∧ k < 2 ^ 63 then (seqIndex? k ds.length).bind fun n => (ds[n]?).map fun d => (d, ω.set j (some (.ow (ds.eraseIdx n)))) else none
    | _ => none
  | _ => none).map fun p => (.nx, p.2.set i (some (.sh p.1)))
def sortR (o : Option D) : Option R := o.bind oSortL
def chkS (j : Nat) (c : FT) (b : FS) (ω : WSt) (l : Option (Option W)) : Option (Out × WSt) := match l with
  | some (some (.ow ds)) => forChk j c b ds ω
  | _ => none
section
variable {ω : WSt} {fe : FE} {fd : FD} {fa : FA} {r : R} {ds as bs : List D} {i j : Nat} {f : FS} {ft : FT} {m : List D → List D}
theorem e_wdrop : sDrop fe ω = dropW (fe ω) ω := rfl
theorem e_wd : dropW (some r) ω = some (.nx, ω) := rfl
theorem e_wclr : sClr i ω = mutS (fun _ => []) i ω ω[i]? := rfl
theorem e_wrev : sRev i ω = mutS List.reverse i ω ω[i]? := rfl
theorem e_wm : mutS m i ω (some (some (.ow ds))) = some (.nx, ω.set i (some (.ow (m ds)))) := rfl
theorem e_wzip : iZp fa ω = zipI (fa ω) := rfl
theorem e_wz : zipI (some [.lst as, .lst bs]) = some (tupL as bs) := rfl
theorem e_wrem : sRem i fd ω = remS i ω (fd ω) ω[i]? := rfl
theorem e_wpop : sSetM i (mPop j fd) ω = popW i j ω (fd ω) ω[j]? := by
  unfold sSetM mPop popD popW
  cases fd ω with
  | none => rfl
  | some d => cases d <;> rfl
theorem e_wsort : fSortL fd ω = sortR (fd ω) := rfl
theorem e_wchk : sForChk i j ft f ω = chkS j ft f ω ω[i]? := rfl
theorem e_wck : chkS j ft f ω (some (some (.ow ds))) = forChk j ft f ds ω := rfl
end
theorem rng1_ok {n : Int} (h : -(2 ^ 62) ≤ n ∧ n ≤ 1000000) : bRng1 [.int n] = some (.fr ((rngZ 0 n.toNat).map D.int)) := by
  show oRngL 0 n = _
  unfold oRngL
  rw [if_pos ⟨⟨⟨by decide, by decide⟩, h.1, by omega⟩, by omega⟩, Int.sub_zero]
end Hk
set_option maxRecDepth 100000
namespace L2
open PySem PySem.Spec PyProof.Rows
section
variable {κ : Type} [DecidableEq κ]
def valV (kvs : List (κ × V)) (k : κ) : Option V := (kvs.find? fun kv => decide (kv.1 = k)).map (·.2)
def putK (kvs : List (κ × V)) (k : κ) (v : V) : List (κ × V) :=
  if (kvs.any fun kv => decide (kv.1 = k)) = true then kvs.map (fun kv => if kv.1 = k then (kv.1, v) else kv) else kvs ++ [(k, v)]
def dropK (kvs : List (κ × V)) (k : κ) : List (κ × V) := kvs.filter fun kv => decide (kv.1 ≠ k)
theorem valV_pos {p : κ × V} {r : List (κ × V)} {k : κ} (e : p.1 = k) : valV (p :: r) k = some p.2 := by simp [valV, List.find?_cons, e]
theorem valV_neg {p : κ × V} {r : List (κ × V)} {k : κ} (e : ¬ p.1 = k) : valV (p :: r) k = valV r k := by simp [valV, List.find?_cons, e]
theorem valV_any (k : κ) : ∀ kvs : List (κ × V), (kvs.any fun kv => decide (kv.1 = k)) = (valV kvs k).isSome
  | [] => rfl
  | p :: r => by
    rw [List.any_cons]
    by_cases e : p.1 = k
    · simp only [valV_pos e, decide_eq_true e, Bool.true_or, Option.isSome_some]
    · rw [valV_neg e, decide_eq_false e, Bool.false_or]; exact valV_any k r
theorem putK_new {kvs : List (κ × V)} {k : κ} (v : V) (h : valV kvs k = none) : putK kvs k v = kvs ++ [(k, v)] := by
  unfold putK
  rw [valV_any, h]
  exact if_neg (by decide)
theorem RelO.isSome_eq {o : Option V} {u : Option Value} (r : RelO o u) : o.isSome = u.isSome := by
  cases o with
  | none => cases u with
    | none => rfl
    | some _ => exact (show False from r).elim
  | some _ => cases u with
    | none => exact (show False from r).elim
    | some _ => rfl
theorem RelO.getD {o : Option V} {u : Option Value} {d : V} {d' : Value} (r : RelO o u) (rd : RelV d d') : RelV (o.getD d) (u.getD d') := by
  cases o with
  | none => cases u with
    | none => exact rd
    | some _ => exact (show False from r).elim
  | some _ => cases u with
    | none => exact (show False from r).elim
    | some _ => exact r
theorem KV.val {kvs : List (κ × V)} {vs : List (κ × Value)} (r : KV kvs vs) (k : κ) : RelO (valV kvs k) (valueAt vs k) := by
  unfold KV at r
  induction r with
  | nil => exact True.intro
  | @cons p q ps qs h t ih =>
    obtain ⟨h1, h2⟩ := h
    by_cases e : p.1 = k
    · have e' : q.1 = k := h1.symm.trans e
      have b : valueAt (q :: qs) k = some q.2 := by simp [valueAt, List.find?_cons, e']
      rw [valV_pos e, b]; exact h2
    · have e' : ¬ q.1 = k := fun z => e (h1.trans z)
      have b : valueAt (q :: qs) k = valueAt qs k := by simp [valueAt, List.find?_cons, e']
      rw [valV_neg e, b]; exact ih
theorem KV.any {kvs : List (κ × V)} {vs : List (κ × Value)} (r : KV kvs vs) (k : κ) : (kvs.any fun kv => decide (kv.1 = k)) = vs.any fun kv => decide (kv.1 = k) := by
  unfold KV at r
  induction r with
  | nil => rfl
  | cons h t ih => rw [List.any_cons, List.any_cons, ih, h.1]
theorem KV.repl {kvs : List (κ × V)} {vs : List (κ × Value)} (r : KV kvs vs) (k : κ) {y : V} {u : Value} (ry : RelV y u) :
    KV (kvs.map fun kv => if kv.1 = k then (kv.1, y) else kv) (vs.map fun kv => if kv.1 = k then (kv.1, u) else kv) := by
  unfold KV at r ⊢
  induction r with
  | nil => exact .nil
  | @cons p q ps qs h t ih =>
    rw [List.map_cons, List.map_cons]
    refine .cons ?_ ih
    obtain ⟨h1, h2⟩ := h
    by_cases e : p.1 = k
    · rw [if_pos e, if_pos (h1.symm.trans e)]; exact ⟨h1, ry⟩
    · rw [if_neg e, if_neg (fun z => e (h1.trans z))]; exact ⟨h1, h2⟩
theorem KV.put {kvs : List (κ × V)} {vs : List (κ × Value)} (r : KV kvs vs) (k : κ) {y : V} {u : Value} (ry : RelV y u) : KV (putK kvs k y) (stored vs k u) := by
  unfold putK stored
  rw [r.any k]
  by_cases e : (vs.any fun kv => decide (kv.1 = k)) = true
  · rw [if_pos e, if_pos e]; exact r.repl k ry
  · rw [if_neg e, if_neg e]; exact Paired.snoc r ⟨rfl, ry⟩
theorem KV.drop {kvs : List (κ × V)} {vs : List (κ × Value)} (r : KV kvs vs) (k : κ) : KV (dropK kvs k) (without vs k) := by
  unfold KV at r ⊢
  unfold dropK without
  induction r with
  | nil => exact .nil
  | @cons p q ps qs h t ih =>
    obtain ⟨h1, h2⟩ := h
    rw [List.filter_cons, List.filter_cons]
    by_cases e : p.1 = k
    · have a : ¬ decide (p.1 ≠ k) = true := by simp [e]
      have b : ¬ decide (q.1 ≠ k) = true := by simp [h1.symm.trans e]
      rw [if_neg a, if_neg b]; exact ih
    · have e' : ¬ q.1 = k := fun z => e (h1.trans z)
      have a : decide (p.1 ≠ k) = true := by simp [e]
      have b : decide (q.1 ≠ k) = true := by simp [e']
      rw [if_pos a, if_pos b]; exact .cons ⟨h1, h2⟩ ih
theorem KV.keys {kvs : List (κ × V)} {vs : List (κ × Value)} (r : KV kvs vs) : kvs.map (·.1) = vs.map (·.1) := by
  unfold KV at r
  induction r with
  | nil => rfl
  | cons h t ih => rw [List.map_cons, List.map_cons, ih, h.1]
theorem KV.length {kvs : List (κ × V)} {vs : List (κ × Value)} (r : KV kvs vs) : kvs.length = vs.length := Paired.length r
end
theorem kV_is {P : Program} {w : World} {k : Key} {u : Value} (r : RelV (kV k) u) : (mixKind P w).is k u = true := by
  cases k with
  | inl i => obtain ⟨t, e⟩ := (show ∃ t, u = Value.int i t from r); subst e; exact mixKind_int P w i t
  | inr x => obtain ⟨t, e⟩ := (show ∃ t, u = Value.str x t from r); subst e; exact mixKind_str P w x t
theorem items_are {P : Program} {w : World} : ∀ {ks : List Key} {us : List Value}, Vals (ks.map kV) us → ItemsAre (mixKind P w) ks us
  | [], _, r => by rw [List.map_nil] at r; cases r; exact .nil
  | k :: ks, _, r => by
    rw [List.map_cons] at r
    cases r with
    | cons h t => exact .cons (kV_is h) (items_are t)
abbrev KT (H : Hp) : List (List Key × V) → List (List Key × Addr × Value) → Prop := Paired fun p q => p.1 = q.1 ∧ H q.2.1 = some (.tup (p.1.map kV)) ∧ RelV p.2 q.2.2
theorem KT.val {H : Hp} {kvs : List (List Key × V)} {xs : List (List Key × Addr × Value)} (r : KT H kvs xs) (k : List Key) : RelO (valV kvs k) ((atKey xs k).map (·.2)) := by
  induction r with
  | nil => exact True.intro
  | @cons p q ps qs h t ih =>
    obtain ⟨h1, _, h2⟩ := h
    by_cases e : p.1 = k
    · have e' : q.1 = k := h1.symm.trans e
      have b : atKey (q :: qs) k = some q.2 := by simp [atKey, List.find?_cons, e']
      rw [valV_pos e, b]; exact h2
    · have e' : ¬ q.1 = k := fun z => e (h1.trans z)
      have b : atKey (q :: qs) k = atKey qs k := by simp [atKey, List.find?_cons, e']
      rw [valV_neg e, b]; exact ih
theorem KT.repl {H : Hp} {kvs : List (List Key × V)} {xs : List (List Key × Addr × Value)} (r : KT H kvs xs) (k : List Key) {y : V} {u : Value} (ry : RelV y u) :
    KT H (kvs.map fun kv => if kv.1 = k then (kv.1, y) else kv) (xs.map (putAt k u)) := by
  induction r with
  | nil => exact .nil
  | @cons p q ps qs h t ih =>
    rw [List.map_cons, List.map_cons]
    refine .cons ?_ ih
    obtain ⟨h1, h2, h3⟩ := h
    unfold putAt
    by_cases e : p.1 = k
    · rw [if_pos e, if_pos (h1.symm.trans e)]; exact ⟨h1, h2, ry⟩
    · rw [if_neg e, if_neg (fun z => e (h1.trans z))]; exact ⟨h1, h2, h3⟩
theorem KT.put {H : Hp} {kvs : List (List Key × V)} {xs : List (List Key × Addr × Value)} (r : KT H kvs xs) (k : List Key) {b : Addr} {y : V} {u : Value} (hb : H b = some (.tup (k.map kV))) (ry : RelV y u) :
    KT H (putK kvs k y) (storedH xs k b u) := by
  have e : (kvs.any fun kv => decide (kv.1 = k)) = (atKey xs k).isSome := by
    rw [valV_any, (r.val k).isSome_eq, Option.isSome_map]
  unfold putK storedH
  rw [e]
  by_cases q : (atKey xs k).isSome = true
  · rw [if_pos q, if_pos q]; exact r.repl k ry
  · rw [if_neg q, if_neg q]; exact Paired.snoc r ⟨rfl, hb, ry⟩
theorem KT.keeps {H H' : Hp} {kvs : List (List Key × V)} {xs : List (List Key × Addr × Value)} (r : KT H kvs xs) (ht : ∀ b ys, H b = some (.tup ys) → H' b = some (.tup ys)) : KT H' kvs xs :=
  Paired.mapP r fun _ _ z => ⟨z.1, ht _ _ z.2.1, z.2.2⟩
section
variable {P : Program} {w : World} {H : Hp} {h : Heap} {a : Addr}
theorem rd_of {u : HO} (ok : HOk P w H h) (e : Rd H a u) : ObjOk P w H h a u := e.ok ok
theorem dk_rd {kvs : List (Key × V)} (ok : HOk P w H h) (e : Rd H a (.dK kvs)) : kvs.length ≤ sizeLine ∧ (a == sysModules) = false ∧ ∃ vs, KV kvs vs ∧ h.DictOf (mixKind P w) a vs :=
  show ObjOk P w H h a (.dK kvs) from rd_of ok e
theorem dk_of {kvs : List (Key × V)} (ok : HOk P w H h) (e : H a = some (.dK kvs)) : kvs.length ≤ sizeLine ∧ (a == sysModules) = false ∧ ∃ vs, KV kvs vs ∧ h.DictOf (mixKind P w) a vs := dk_rd ok (.inl e)
theorem key_of {ks : List Key} (ok : HOk P w H h) (e : H a = some (.tup (ks.map kV))) : (tupleKind (mixKind P w)).is h ks a := by
  obtain ⟨_, its, r, o, h1, h2, n, h3⟩ := (show ObjOk P w H h a (.tup (ks.map kV)) from ok a _ e)
  exact ⟨o, its.toArray, n, h1, h2, h3, by simpa using items_are r⟩
theorem dt_rd {kvs : List (List Key × V)} (ok : HOk P w H h) (e : Rd H a (.dT kvs)) : kvs.length ≤ sizeLine ∧ (a == sysModules) = false ∧
    ∃ xs, KT H kvs xs ∧ h.DictOfH (tupleKind (mixKind P w)) a xs := by
  obtain ⟨z, y, xs, r, o, es, ep, h1, h2, h3, h4, h5⟩ := (show ObjOk P w H h a (.dT kvs) from rd_of ok e)
  refine ⟨z, y, xs, r, o, es, ep, h1, h2, h3, h4, fun x hx => ?_, h5⟩
  have all : ∀ {l : List (List Key × V)} {m : List (List Key × Addr × Value)}, KT H l m → ∀ x ∈ m, (tupleKind (mixKind P w)).is h x.1 x.2.1 := by
    intro l m q
    induction q with
    | nil => intro x hx; exact nomatch hx
    | @cons p q ps qs hq t ih =>
      intro x hx
      rcases List.mem_cons.mp hx with e | hx
      · subst e
        exact key_of ok (by rw [← hq.1]; exact hq.2.1)
      · exact ih x hx
  exact all r x hx
end
def DGet (H : Hp) (a : Addr) (y : V) (r : Option V) : Prop :=
  (∃ kvs k, Rd H a (.dK kvs) ∧ y = kV k ∧ r = valV kvs k) ∨ ∃ kvs k b, Rd H a (.dT kvs) ∧ y = .ref b ∧ H b = some (.tup (k.map kV)) ∧ r = valV kvs k
def DPut (H : Hp) (a : Addr) (y v : V) (H' : Hp) : Prop :=
  (∃ kvs k, H a = some (.dK kvs) ∧ y = kV k ∧ kvs.length < sizeLine ∧ H' = upd H a (.dK (putK kvs k v))) ∨
  ∃ kvs k b, H a = some (.dT kvs) ∧ y = .ref b ∧ H b = some (.tup (k.map kV)) ∧ kvs.length < sizeLine ∧ H' = upd H a (.dT (putK kvs k v))
theorem DGet.k {H : Hp} {a : Addr} {kvs : List (Key × V)} {k : Key} (e : H a = some (.dK kvs)) : DGet H a (kV k) (valV kvs k) := .inl ⟨kvs, k, .inl e, rfl, rfl⟩
theorem DGet.t {H : Hp} {a b : Addr} {kvs : List (List Key × V)} {k : List Key} (e : H a = some (.dT kvs)) (eb : H b = some (.tup (k.map kV))) : DGet H a (.ref b) (valV kvs k) := .inr ⟨kvs, k, b, .inl e, rfl, eb, rfl⟩
theorem DPut.k {H : Hp} {a : Addr} {kvs : List (Key × V)} {k : Key} {v : V} (e : H a = some (.dK kvs)) (hl : kvs.length < sizeLine) : DPut H a (kV k) v (upd H a (.dK (putK kvs k v))) := .inl ⟨kvs, k, e, rfl, hl, rfl⟩
theorem DPut.t {H : Hp} {a b : Addr} {kvs : List (List Key × V)} {k : List Key} {v : V} (e : H a = some (.dT kvs)) (eb : H b = some (.tup (k.map kV))) (hl : kvs.length < sizeLine) :
    DPut H a (.ref b) v (upd H a (.dT (putK kvs k v))) := .inr ⟨kvs, k, b, e, rfl, eb, hl, rfl⟩
section
variable {X : Cx} {pins : List (Addr × Obj)} {σ : St} {H : Hp} {s : Shared} {a : Addr} {y v : V} {u r : Value} {o : Option V} {A : Around} {E : Value → Shared → Prop}
theorem Inv.big (I : Inv X pins σ H s) : sysModules < s.heap.objs.size := by
  have h : mainGlobals < s.heap.objs.size := (I.mod.glob.keeps I.bk).lt
  exact Nat.lt_trans (by decide) h
theorem d_getItem {Q : Value → Shared → Prop} (hu : A.units + 1 < cLine) (I : Inv X pins σ H s) (g : DGet H a y (some v)) (ry : RelV y u) (h : ∀ w' s', Inv X pins σ H s' → RelV v w' → Q w' s') :
    wpAny (model X.prog X.w) A (getItem (.ref a) u) Q E s := by
  rcases g with ⟨kvs, k, e, ey, l⟩ | ⟨kvs, k, b, e, ey, eb, l⟩
  · subst ey
    obtain ⟨z, hd, vs, rel, dd⟩ := dk_rd I.hok e
    obtain ⟨w', hw, rw'⟩ := RelO.some_of (v := v) (o := valueAt vs k) (by rw [l]; exact rel.val k)
    exact wpAny_getItem_of (kV_is ry) dd.mapOf hw (h w' _ (I.tok _) rw')
  · subst ey
    cases (show u = Value.ref b from ry)
    obtain ⟨z, hd, xs, rel, dd⟩ := dt_rd I.hok e
    obtain ⟨w', hw, rw'⟩ := RelO.some_of (v := v) (o := (atKey xs k).map (·.2)) (by rw [l]; exact rel.val k)
    obtain ⟨p, hp, hp2⟩ := Option.map_eq_some_iff.mp hw
    refine wpAny_getItem_heap (tupleKind_room_in1 hu) (key_of I.hok eb) dd hp ?_
    rw [hp2]
    exact h w' _ (I.tok _) rw'
theorem d_write {h' : Heap} {t' : Nat} {ob : HO} (I : Inv X pins σ H s) (mu : Mut (H a)) (hs : Heap.SameBut a s.heap h') (he : ∃ q, h'.get? a = some q) (new : ObjOk X.prog X.w (upd H a ob) h' a ob) :
    Inv X pins σ (upd H a ob) { s with heap := h', toks := t' } :=
  I.write (x := a) (e := a) mu (.inl rfl) (fun b q hb z => (hs.2 b hb).trans z) he new
theorem dk_new {P : Program} {w : World} {H' : Hp} {h' : Heap} {kvs : List (Key × V)} {vs : List (Key × Value)} (z : kvs.length ≤ sizeLine) (hd : (a == sysModules) = false) (rel : KV kvs vs) (dd : h'.DictOf (mixKind P w) a vs) :
    ObjOk P w H' h' a (.dK kvs) := ⟨z, hd, vs, rel, dd⟩
end
section
variable {X : Cx} {pins : List (Addr × Obj)} {σ : St} {H : Hp} {s : Shared} {a : Addr} {kvs : List (Key × V)} {k : Key} {u : Value} {A : Around} {E : Value → Shared → Prop}
end
def NoSl (i : Expr) : Prop := ∀ ov iv, subscripted i false ov iv = operate [ov, iv] (getItem ov iv)
theorem subD_of {prog : Program} {w : World} {A : Around} {E : Value → Shared → Prop} {s : Shared} {env : Env} {value slice : Expr} {pos : Pos} {T id : String} {Q : Value → Shared → Prop}
    (hl : typeLookup (.type T) "__getitem__" = pure (some (.builtin id))) (hs : NoSl slice)
    (h : wpAny (model prog w) A (eval value env) (fun o s₁ => wpAny (model prog w) A (eval slice env) (fun i s₂ => s₂.TypeIs o T ∧ wpAny (model prog w) A (getItem o i) Q E s₂) E s₁) E s) :
    wpAny (model prog w) A (eval (.Subscript value slice pos) env) Q E s := by
  refine Subscript_ (wpAny_mono h (fun o s₁ h₁ => wpAny_mono h₁ (fun i s₂ h₂ => ?_) fun _ _ x => x) fun _ _ x => x)
  obtain ⟨hT, h₂⟩ := h₂
  unfold subscriptTail
  refine wpAny_bind ?_
  rw [getitemInPython_of_ne hT.not_modules]
  refine wpAny_bind (wpAny_specialOf hT hl ?_)
  have fin : wpAny (model prog w) A (subscripted slice false o i) (fun r s₃ => wpAny (model prog w) A (letTemporaryGo value o r >>= fun _ => pure r) Q E s₃) E s₂ := by
    rw [hs o i]
    exact wpAny_operating (wpAny_mono h₂ (fun r s₃ h₃ => wpAny_bind (wpAny_letTemporaryGo (wpAny_pure h₃))) fun _ _ x => x)
  first
    | exact wpAny_pure (wpAny_bind fin)
    | exact wpAny_bind (wpAny_pure (wpAny_bind fin))
    | exact wpAny_bind fin
theorem dict_typeIs {X : Cx} {pins : List (Addr × Obj)} {σ : St} {H : Hp} {s : Shared} {a : Addr} {y : V} {o : Option V} (I : Inv X pins σ H s) (g : DGet H a y o) : s.TypeIs (.ref a) "dict" := by
  rcases g with ⟨kvs, k, e, _, _⟩ | ⟨kvs, k, b, e, _, _, _⟩
  · obtain ⟨_, _, vs, _, dd⟩ := dk_rd I.hok e
    exact dd.typeIs
  · obtain ⟨_, _, xs, _, dd⟩ := dt_rd I.hok e
    exact dd.typeIs
def tDGet (td ty : TE) : TE := fun σ H Q => td σ H fun x H1 => ty σ H1 fun y H2 => ∃ a v, x = .ref a ∧ DGet H2 a y (some v) ∧ Q v H2
section
variable {X : Cx} {o i e value : Expr} {pos pos' tpos : Pos} {td ty tv : TE}
theorem pe_dget (hu : X.A.units + 1 < cLine) (ho : PE X o td) (hi : PE X i ty) (hs : NoSl i) : PE X (.Subscript o i pos) (tDGet td ty) := by
  intro pins s σ H Q I h
  refine subD_of PySem.F.slot_dict_getitem.lookup hs (thn (ho pins s σ H _ I h) fun u s1 ⟨x, H1, I1, rx, q1⟩ => thn (hi pins s1 σ H1 _ I1 q1) fun iv s2 ⟨y, H2, I2, ry, a, v, ex, g, q2⟩ => ?_)
  subst ex
  obtain rfl : u = Value.ref a := rx
  exact ⟨dict_typeIs I2 g, d_getItem hu I2 g ry fun w' s3 I3 rw' => ⟨v, H2, I3, rw', q2⟩⟩
end
theorem dk_empty {P : Program} {w : World} {H : Hp} (h : Heap) (hb : sysModules < h.objs.size) : ObjOk P w H (h.push { cls := .type "dict", data := .dict #[] }) h.objs.size (.dK []) :=
  ⟨Nat.zero_le _, beq_eq_false_iff_ne.mpr (Ne.symm (Nat.ne_of_lt hb)), [], .nil, Heap.DictOf.new h⟩
def tDNewK : TE := fun _ H Q => ∀ p, H p = none → Q (.ref p) (upd H p (.dK []))
section
variable {X : Cx} {pos : Pos}
theorem pe_dnewK : PE X (.Dict [] [] pos) tDNewK := fun pins s σ H Q I h =>
  wpAny_Dict_empty ⟨.ref s.heap.objs.size, _, I.laid (a := s.heap.objs.size) (o := .dK []) (t' := s.toks) (fun _ _ q => Heap.get?_push_of_some _ q) (Nat.le_refl _) (dk_empty s.heap I.big), rfl, h _ (I.hok.fresh (Nat.le_refl _))⟩
end
structure M2 (X : Cx) (o : Expr) (m : Str) (apos : Pos) (e f : Expr) (cpos : Pos) : Prop where
  base : attributeBase o m X.env (eval o X.env) = eval o X.env
  few : ((backTo cpos (starEach [e, f] X.env)).all (fun x => !x.1) && (backToKw cpos (keywordEach [] X.env)).all (fun x => x.1.isSome)
    && decide (([e, f] : List Expr).length + ([] : List Keyword).length + (if ([] : List Keyword).isEmpty then 0 else 1) < 30)) = true
  line : (apos.endLine == cpos.line) = true
  trees : backTo cpos (starEach [e, f] X.env) = [(false, eval e X.env), (false, eval f X.env)]
def IsD (H : Hp) (a : Addr) : Prop := (∃ kvs, Rd H a (.dK kvs)) ∨ ∃ kvs, Rd H a (.dT kvs)
theorem isD_at {X : Cx} {pins : List (Addr × Obj)} {σ : St} {H : Hp} {s : Shared} {a : Addr} (I : Inv X pins σ H s) (d : IsD H a) :
    s.TypeIs (.ref a) "dict" ∧ (∀ b, Value.ref a = .ref b → ∃ ob, s.heap.get? b = some ob ∧ ob.dict = none) ∧ (a == sysModules) = false := by
  rcases d with ⟨kvs, e⟩ | ⟨kvs, e⟩
  · obtain ⟨_, hd, vs, _, dd⟩ := dk_rd I.hok e
    refine ⟨dd.typeIs, fun b q => ?_, hd⟩
    cases q
    obtain ⟨ob, _, _, h1, h2, _⟩ := dd
    exact ⟨ob, h1, h2.2.1⟩
  · obtain ⟨_, hd, xs, _, dd⟩ := dt_rd I.hok e
    refine ⟨dd.typeIs, fun b q => ?_, hd⟩
    cases q
    obtain ⟨ob, _, _, h1, h2, _⟩ := dd
    exact ⟨ob, h1, h2.2.1⟩
section
variable {X : Cx} {pins : List (Addr × Obj)} {σ : St} {H : Hp} {s : Shared} {a : Addr} {y d : V} {u r : Value} {o : Option V} {A : Around} {E : Value → Shared → Prop}
theorem d_get2 {Q : Value → Shared → Prop} (hu : A.units + 1 < cLine) (I : Inv X pins σ H s) (g : DGet H a y o) (ry : RelV y u) (rd : RelV d r) (h : ∀ w' s', Inv X pins σ H s' → RelV (o.getD d) w' → Q w' s') :
    wpAny (model X.prog X.w) A (call (.builtin "dict.get") [.ref a, u, r]) Q E s := by
  rcases g with ⟨kvs, k, e, ey, l⟩ | ⟨kvs, k, b, e, ey, eb, l⟩
  · subst ey
    obtain ⟨z, hd, vs, rel, dd⟩ := dk_rd I.hok e
    refine call_meetsIn PySem.F.slot_dict_get dd.typeIs PySem.F.entry_dict_get (PySem.F.args_dict_get_3 _ _ _) (meets_dict_get_default (mixKind X.prog X.w) a (kV_is ry) hd r) ⟨_, dd.mapOf, h _ _ (I.tok _) ?_⟩
    rw [l]
    exact (rel.val k).getD rd
  · subst ey
    cases (show u = Value.ref b from ry)
    obtain ⟨z, hd, xs, rel, dd⟩ := dt_rd I.hok e
    refine call_meetsIn PySem.F.slot_dict_get dd.typeIs PySem.F.entry_dict_get (PySem.F.args_dict_get_3 _ _ _) (meetsH_dict_get_default (tupleKind (mixKind X.prog X.w)) a b hd r) ⟨tupleKind_room_in1 hu, k, xs, key_of I.hok eb, dd, h _ _ (I.tok _) ?_⟩
    rw [l]
    exact (rel.val k).getD rd
end
def tDGet2 (td ty tx : TE) : TE := fun σ H Q => td σ H fun x H1 => ∃ a, x = .ref a ∧ IsD H1 a ∧ ty σ H1 fun y H2 => tx σ H2 fun z H3 => ∃ o, DGet H3 a y o ∧ Q (o.getD z) H3
section
variable {X : Cx} {o e f : Expr} {apos cpos : Pos} {td ty tx : TE}
theorem pe_dget2 (hu : X.A.units + 1 < cLine) (ho : PE X o td) (he : PE X e ty) (hf : PE X f tx) (m : M2 X o "get" apos e f cpos) : PE X (.Call (.Attribute o "get" apos) [e, f] [] cpos) (tDGet2 td ty tx) := by
  intro pins s σ H Q I h
  refine wpAny_Call_method m.base m.few m.line PySem.F.plainAttrs_dict PySem.F.slot_dict_get PySem.F.type_dict_get (thn (ho pins s σ H _ I h) fun u s1 ⟨x, H1, I1, rx, a, ex, d, q1⟩ => ?_)
  subst ex
  obtain rfl : u = Value.ref a := rx
  obtain ⟨t1, t2, _⟩ := isD_at I1 d
  refine ⟨t1, t2, ?_⟩
  rw [m.trees]
  refine Calls.callWith_builtin rfl (Calls.evalArgs_plain (Calls.spliced_cons (thn (he pins s1 σ H1 _ I1 q1) fun iv s2 ⟨y, H2, I2, ry, q2⟩ =>
    Calls.spliced_cons (thn (hf pins s2 σ H2 _ I2 q2) fun fv s3 ⟨z, H3, I3, rz, ov, g, q3⟩ => Calls.spliced_nil ?_))))
  exact d_get2 hu I3 g ry rz fun w' s4 I4 rw' => ⟨_, H3, I4, rw', q3⟩
end
section
variable {X : Cx} {pins : List (Addr × Obj)} {σ : St} {H : Hp} {s : Shared} {a : Addr} {kvs : List (Key × V)} {A : Around} {E : Value → Shared → Prop}
end
section
variable {X : Cx} {pins : List (Addr × Obj)} {σ : St} {H : Hp} {s : Shared} {a : Addr} {y : V} {u : Value} {A : Around} {E : Value → Shared → Prop}
end
end L2
set_option maxRecDepth 100000
namespace Hk
open PySem L2
def valD {α : Type} : List Int → List α → Int → Option α
  | k' :: ks, x :: xs, k => if k' = k then some x else valD ks xs k
  | _, _, _ => none
def repA {α : Type} : List Int → List α → Int → α → List α
  | k' :: ks, x :: xs, k, y => (if k' = k then y else x) :: repA ks xs k y
  | _, xs, _, _ => xs
def putKs (ks : List Int) (k : Int) : List Int := if k ∈ ks then ks else ks ++ [k]
def putA {α : Type} (ks : List Int) (xs : List α) (k : Int) (y : α) : List α := if k ∈ ks then repA ks xs k y else xs ++ [y]
theorem kvsOf_val : ∀ {ks : List Int} {vs : List V}, ks.length = vs.length → ∀ k, valV (kvsOf ks vs) (Sum.inl k) = valD ks vs k
  | [], [], _, k => rfl
  | [], _ :: _, h, _ => by simp at h
  | _ :: _, [], h, _ => by simp at h
  | k' :: ks, v :: vs, h, k => by
    show valV ((Sum.inl k', v) :: kvsOf ks vs) (Sum.inl k) = if k' = k then some v else valD ks vs k
    by_cases z : k' = k
    · rw [if_pos z, valV_pos (p := ((Sum.inl k' : Key), v)) (by rw [z])]
    · rw [if_neg z, valV_neg (p := ((Sum.inl k' : Key), v)) (fun e => z (Sum.inl.inj e))]
      exact kvsOf_val (by simpa using h) k
theorem kvsOf_len : ∀ {ks : List Int} {vs : List V}, ks.length = vs.length → (kvsOf ks vs).length = ks.length
  | [], [], _ => rfl
  | [], _ :: _, h => by simp at h
  | _ :: _, [], h => by simp at h
  | k' :: ks, v :: vs, h => by show (kvsOf ks vs).length + 1 = _; rw [kvsOf_len (by simpa using h)]; rfl
theorem kvsOf_any : ∀ {ks : List Int} {vs : List V}, ks.length = vs.length → ∀ k, (kvsOf ks vs).any (fun kv => decide (kv.1 = (Sum.inl k : Key))) = decide (k ∈ ks)
  | [], [], _, _ => rfl
  | [], _ :: _, h, _ => by simp at h
  | _ :: _, [], h, _ => by simp at h
  | k' :: ks, v :: vs, h, k => by
    show (decide ((Sum.inl k' : Key) = Sum.inl k) || (kvsOf ks vs).any _) = _
    rw [kvsOf_any (by simpa using h) k]
    have e : decide ((Sum.inl k' : Key) = Sum.inl k) = decide (k' = k) := by
      by_cases z : k' = k
      · rw [z]; simp
      · rw [decide_eq_false z, decide_eq_false (fun e => z (Sum.inl.inj e))]
    rw [e]
    simp only [List.mem_cons]
    by_cases z : k' = k
    · simp [z]
    · have : ¬ k = k' := fun y => z y.symm
      simp [z, this]
theorem kvsOf_map : ∀ {ks : List Int} {vs : List V}, ks.length = vs.length → ∀ (k : Int) (v : V), (kvsOf ks vs).map (fun kv => if kv.1 = (Sum.inl k : Key) then (kv.1, v) else kv) = kvsOf ks (repA ks vs k v)
  | [], [], _, _, _ => rfl
  | [], _ :: _, h, _, _ => by simp at h
  | _ :: _, [], h, _, _ => by simp at h
  | k' :: ks, u :: vs, h, k, v => by
    show (if (Sum.inl k' : Key) = Sum.inl k then ((Sum.inl k' : Key), v) else (Sum.inl k', u)) :: (kvsOf ks vs).map _ = (Sum.inl k', if k' = k then v else u) :: kvsOf ks (repA ks vs k v)
    rw [kvsOf_map (by simpa using h) k v]
    by_cases z : k' = k
    · rw [if_pos (by rw [z]), if_pos z]
    · rw [if_neg (fun e => z (Sum.inl.inj e)), if_neg z]
theorem kvsOf_snoc : ∀ {ks : List Int} {vs : List V}, ks.length = vs.length → ∀ (k : Int) (v : V), kvsOf ks vs ++ [(Sum.inl k, v)] = kvsOf (ks ++ [k]) (vs ++ [v])
  | [], [], _, _, _ => rfl
  | [], _ :: _, h, _, _ => by simp at h
  | _ :: _, [], h, _, _ => by simp at h
  | k' :: ks, u :: vs, h, k, v => by show _ :: (kvsOf ks vs ++ [(Sum.inl k, v)]) = _; rw [kvsOf_snoc (by simpa using h) k v]; rfl
theorem kvsOf_put {ks : List Int} {vs : List V} (h : ks.length = vs.length) (k : Int) (v : V) : putK (kvsOf ks vs) (Sum.inl k) v = kvsOf (putKs ks k) (putA ks vs k v) := by
  unfold putK putKs putA
  rw [kvsOf_any h]
  by_cases z : k ∈ ks
  · rw [if_pos (decide_eq_true z), if_pos z, if_pos z]; exact kvsOf_map h k v
  · rw [if_neg (by rw [decide_eq_false z]; decide), if_neg z, if_neg z]; exact kvsOf_snoc h k v
section
variable {K : PySem.W.Frag} {G : Hp}
theorem Reps.val : ∀ {ks : List Int} {ds : List D} {vs : List V} {k : Int} {d : D}, Reps K G ds vs → valD ks ds k = some d → ∃ v, valD ks vs k = some v ∧ Rep K G d v
  | [], _, _, _, _, _, e => by cases e
  | _ :: _, [], _, _, _, _, e => by cases e
  | k' :: ks, d' :: ds, _, k, d, ⟨v, r, h1, h2, h3⟩, e => by
    subst h1
    have e : (if k' = k then some d' else valD ks ds k) = some d := e
    show ∃ u, (if k' = k then some v else valD ks r k) = some u ∧ _
    by_cases z : k' = k
    · rw [if_pos z] at e ⊢; cases e; exact ⟨v, rfl, h2⟩
    · rw [if_neg z] at e ⊢; exact Reps.val h3 e
theorem Reps.repA : ∀ {ks : List Int} {ds : List D} {vs : List V} (k : Int) {d : D} {v : V}, Reps K G ds vs → Rep K G d v → Reps K G (Hk.repA ks ds k d) (Hk.repA ks vs k v)
  | [], _, _, _, _, _, h, _ => h
  | _ :: _, [], _, _, _, _, h, _ => by cases (show _ = [] from h); rfl
  | k' :: ks, d' :: ds, _, k, d, v, ⟨u, r, h1, h2, h3⟩, hv => by
    subst h1
    refine ⟨_, _, rfl, ?_, Reps.repA k h3 hv⟩
    by_cases z : k' = k
    · rw [if_pos z, if_pos z]; exact hv
    · rw [if_neg z, if_neg z]; exact h2
theorem Reps.putA {ks : List Int} {ds : List D} {vs : List V} (k : Int) {d : D} {v : V} (h : Reps K G ds vs) (hv : Rep K G d v) : Reps K G (Hk.putA ks ds k d) (Hk.putA ks vs k v) := by
  unfold Hk.putA
  by_cases z : k ∈ ks
  · rw [if_pos z, if_pos z]; exact h.repA k hv
  · rw [if_neg z, if_neg z]; exact h.app (Reps.cons hv Reps.nil)
end
def dicOf : Option (Option W) → Option (List Int × List D)
  | some (some (.od ks ds)) => some (ks, ds)
  | some (some (.sh (.dic ks ds))) => some (ks, ds)
  | _ => none
theorem Own.dic {K : PySem.W.Frag} {G0 : Hp} {H0 : Fr} {G : Hp} {ω : WSt} {σ : St} {H : Hp} {i : Nat} {ks : List Int} {ds : List D} (o : Own K G0 H0 G ω σ H) (h : dicOf ω[i]? = some (ks, ds)) :
    ∃ p vs, σ[i]? = some (some (.ref p)) ∧ Rd H p (.dK (kvsOf ks vs)) ∧ ks.length = ds.length ∧ Reps K G ds vs := by
  unfold dicOf at h
  split at h
  · rename_i q
    cases h
    obtain ⟨p, vs, h1, h2, _, _, h5, h6, _⟩ := o.od i _ _ q
    exact ⟨p, vs, h1, .inl h2, h5, h6⟩
  · rename_i q
    cases h
    obtain ⟨v, h1, p, vs, rfl, ⟨ob, h2⟩, h3, h4⟩ := o.sh i _ q
    exact ⟨p, vs, h1, .inr ⟨ob, o.gh _ _ h2⟩, h3, h4⟩
  · cases h
section
variable {X : Cx} {o k e : Expr} {pos pos' dpos : Pos} {i : Nat} {fk fv : FD}
theorem hu1 (hu : X.A.units + 64 < cLine) : X.A.units + 1 < cLine := by omega
def sDNew (i : Nat) : FS := fun ω => some (.nx, ω.set i (some (.od [] [])))
def sDSet (i : Nat) (fk fv : FD) : FS := fun ω => (fv ω).bind fun d => (fk ω).bind fun c => match c, ω[i]? with
  | .int k, some (some (.od ks ds)) => if ks.length < 1000000 then some (.nx, ω.set i (some (.od (putKs ks k) (putA ks ds k d)))) else none
  | _, _ => none
def fDGet (i : Nat) (fk : FD) : FE := fun ω => (dicOf ω[i]?).bind fun p => (fk ω).bind fun c => match c with
  | .int k => (valD p.1 p.2 k).map R.sh
  | _ => none
def tDHas (neg : Bool) (i : Nat) (fk : FD) : FT := fun ω => (fk ω).bind fun c => (dicOf ω[i]?).bind fun p => match c with
  | .int k => some (if neg then !(valD p.1 p.2 k).isSome else (valD p.1 p.2 k).isSome)
  | _ => none
end
end Hk
set_option maxRecDepth 100000
namespace Hk
open PySem L2
section
variable {X : Cx} {o k e : Expr} {pos pos' dpos : Pos} {i : Nat} {fk fv : FD}
def sDNew1 (i : Nat) (fk fv : FD) : FS := fun ω => (fk ω).bind fun c => (fv ω).bind fun d => match c with
  | .int k => some (.nx, ω.set i (some (.od [k] [d])))
  | _ => none
end
section
open PySem.Spec PyProof.Rows PySem.W
variable {prog : Program} {w : World} {A : Around} {E : Value → Shared → Prop} {s : Shared}
end
section
variable {X : Cx} {o : Expr} {i : Nat}
def fSortD (i : Nat) : FE := fun ω => (dicOf ω[i]?).bind fun p => if p.1.length < 64 then some (.fr ((sortZ p.1).map D.int)) else none
def mPop0 (i : Nat) : FM := fun ω => match ω[i]? with
  | some (some (.ow ds)) => (ds[ds.length - 1]?).map fun d => (d, ω.set i (some (.ow ds.dropLast)))
  | _ => none
theorem Reps.dropLast {K : PySem.W.Frag} {H : Hp} {ds : List D} {vs : List V} (h : Reps K H ds vs) : Reps K H ds.dropLast vs.dropLast := by
  rw [List.dropLast_eq_take, List.dropLast_eq_take, h.len]; exact h.take _
end
end Hk
set_option maxRecDepth 100000
namespace Hk
open PySem L2
def appA : List Int → List (List Int) → Int → Int → List (List Int)
  | k :: ks, x :: xs, a, b => if k = a then (x ++ [b]) :: xs else x :: appA ks xs a b
  | _, xs, _, _ => xs
theorem appA_len : ∀ (ks : List Int) (xs : List (List Int)) (a b : Int), (appA ks xs a b).length = xs.length
  | [], _, _, _ => rfl
  | _ :: _, [], _, _ => rfl
  | k :: ks, x :: xs, a, b => by
    unfold appA
    by_cases z : k = a
    · rw [if_pos z]; rfl
    · rw [if_neg z, List.length_cons, List.length_cons, appA_len ks xs a b]
structure Tab (G H0 H : Hp) (p : Addr) (ks : List Int) (ls : List Addr) (xss : List (List Int)) : Prop where
  dict : H p = some (.dK (kvsOf ks (ls.map V.ref)))
  gp : G p = none
  hp : H0 p = none
  len : ks.length = ls.length
  len2 : ls.length = xss.length
  lst : ∀ (j : Nat) l xs, ls[j]? = some l → xss[j]? = some xs → H l = some (.lst (xs.map V.int))
  gl : ∀ l ∈ ls, G l = none ∧ H0 l = none
  nd : ls.Nodup
theorem Tab.inn {G H0 H : Hp} {p : Addr} {ks : List Int} {ls : List Addr} {xss : List (List Int)} (T : Tab G H0 H p ks ls xss) {l : Addr} (h : l ∈ ls) : ∃ xs : List Int, H l = some (.lst (xs.map V.int)) := by
  obtain ⟨j, hj, rfl⟩ := List.mem_iff_getElem.mp h
  have hj2 : j < xss.length := by rw [← T.len2]; exact hj
  exact ⟨xss[j], T.lst j _ _ (List.getElem?_eq_getElem hj) (List.getElem?_eq_getElem hj2)⟩
theorem Tab.pl {G H0 H : Hp} {p : Addr} {ks : List Int} {ls : List Addr} {xss : List (List Int)} (T : Tab G H0 H p ks ls xss) : p ∉ ls := fun h => by
  obtain ⟨xs, e⟩ := T.inn h
  rw [T.dict] at e
  cases e
theorem Tab.keep {G G' H0 H H' : Hp} {p : Addr} {ks : List Int} {ls : List Addr} {xss : List (List Int)} (T : Tab G H0 H p ks ls xss) (x : Ext G H G' H') : Tab G' H0 H' p ks ls xss :=
  ⟨x.hh _ _ T.dict, x.new p T.gp (by rw [T.dict]; exact fun z => by cases z), T.hp, T.len, T.len2, fun j l xs h1 h2 => x.hh _ _ (T.lst j l xs h1 h2), fun l h => by
    obtain ⟨xs, e⟩ := T.inn h
    exact ⟨x.new l (T.gl l h).1 (by rw [e]; exact fun z => by cases z), (T.gl l h).2⟩, T.nd⟩
theorem val_ix : ∀ {ks : List Int} {ls : List Addr} {a : Int}, ks.length = ls.length → a ∈ ks → ∃ (j : Nat) (l : Addr), ks[j]? = some a ∧ ls[j]? = some l ∧ valD ks (ls.map V.ref) a = some (.ref l) ∧ ∀ (xss : List (List Int)) (b : Int), xss.length = ls.length → ∃ xs, xss[j]? = some xs ∧ appA ks xss a b = xss.set j (xs ++ [b])
  | [], _, _, _, h => by simp at h
  | _ :: _, [], _, h, _ => by simp at h
  | k :: ks, l :: ls, a, h, ha => by
    by_cases z : k = a
    · refine ⟨0, l, by rw [z]; rfl, rfl, if_pos z, fun xss b hx => ?_⟩
      cases xss with
      | nil => simp at hx
      | cons x xs => exact ⟨x, rfl, if_pos z⟩
    · have ha' : a ∈ ks := (List.mem_cons.mp ha).resolve_left fun e => z e.symm
      obtain ⟨j, l', e1, e2, e3, e4⟩ := val_ix (ks := ks) (ls := ls) (by simpa using h) ha'
      refine ⟨j + 1, l', e1, e2, ?_, fun xss b hx => ?_⟩
      · show (if k = a then _ else _) = _
        rw [if_neg z]; exact e3
      · cases xss with
        | nil => simp at hx
        | cons x xs =>
          obtain ⟨y, h1, h2⟩ := e4 xs b (by simpa using hx)
          refine ⟨y, h1, ?_⟩
          show (if k = a then _ else x :: appA ks xs a b) = _
          rw [if_neg z, h2]; rfl
theorem Tab.app {G H0 H : Hp} {p : Addr} {ks : List Int} {ls : List Addr} {xss : List (List Int)} (T : Tab G H0 H p ks ls xss) {a : Int} (b : Int) (ha : a ∈ ks) :
    ∃ (l : Addr) (xs : List Int), l ∈ ls ∧ xs ∈ xss ∧ valD ks (ls.map V.ref) a = some (.ref l) ∧ DGet H p (.int a) (some (.ref l)) ∧ H l = some (.lst (xs.map V.int)) ∧ Tab G H0 (upd H l (.lst ((xs ++ [b]).map V.int))) p ks ls (appA ks xss a b) := by
  obtain ⟨j, l, e1, e2, e3, e4⟩ := val_ix T.len ha
  obtain ⟨xs, e5, e6⟩ := e4 xss b T.len2.symm
  have hl : l ∈ ls := List.mem_of_getElem? e2
  have hlp : p ≠ l := fun z => T.pl (z ▸ hl)
  have g := DGet.k (k := (Sum.inl a : Key)) T.dict
  rw [kvsOf_val (by rw [List.length_map]; exact T.len), e3] at g
  refine ⟨l, xs, hl, List.mem_of_getElem? e5, e3, g, T.lst j l xs e2 e5, ?_⟩
  rw [e6]
  refine ⟨by rw [upd_ne hlp]; exact T.dict, T.gp, T.hp, T.len, by rw [List.length_set]; exact T.len2, fun i m ys h1 h2 => ?_, T.gl, T.nd⟩
  rcases get_set h2 with ⟨rfl, _, rfl⟩ | ⟨ne, h3⟩
  · rw [e2] at h1
    cases h1
    exact upd_same
  · have hm : m ≠ l := fun z => by
      subst z
      obtain ⟨i1, i2⟩ := List.getElem?_eq_some_iff.mp h1
      obtain ⟨j1, j2⟩ := List.getElem?_eq_some_iff.mp e2
      exact ne ((List.getElem_inj T.nd).mp (j2.trans i2.symm))
    rw [upd_ne hm]
    exact T.lst i m ys h1 h3
theorem Own.free {K : PySem.W.Frag} {G0 : Hp} {H0 : Fr} {G : Hp} {ω : WSt} {σ : St} {H : Hp} {q : Addr} {ob : HO} (o : Own K G0 H0 G ω σ H) (no : NoOw ω) (hG : G q = none) (h0 : H0 q = none) : Own K G0 H0 G ω σ (upd H q ob) :=
  ⟨⟨o.ext.gg, same_updR o.ext.gh hG _, same_updR o.ext.hh h0 _, o.ext.new⟩, o.len, o.sh, fun i ds h => absurd h (no.ow i ds), o.nd, fun i ks ds h => absurd h (no.od i ks ds), PwOk.no no.pw⟩
theorem Tab.put {G H0 H : Hp} {p : Addr} {ks : List Int} {ls : List Addr} {xss : List (List Int)} (T : Tab G H0 H p ks ls xss) {k : Int} {l : Addr} (hk : k ∉ ks) (hl : H l = none) (sg : Same G H) (s0 : Same H0 H) (hz : ks.length < 1000000) :
    ∃ H4, DPut (upd H l (.lst [])) p (.int k) (.ref l) H4 ∧ H4 = upd (upd H l (.lst [])) p (.dK (kvsOf (ks ++ [k]) ((ls ++ [l]).map V.ref))) ∧ Tab G H0 H4 p (ks ++ [k]) (ls ++ [l]) (xss ++ [[]]) := by
  have hpl : p ≠ l := fun z => by rw [← z, T.dict] at hl; cases hl
  have hlen : ks.length = (ls.map V.ref).length := by rw [List.length_map]; exact T.len
  have e : putK (kvsOf ks (ls.map V.ref)) (Sum.inl k) (.ref l) = kvsOf (ks ++ [k]) ((ls ++ [l]).map V.ref) := by
    rw [kvsOf_put hlen]
    unfold putKs putA
    rw [if_neg hk, if_neg hk, List.map_append]; rfl
  have d := DPut.k (H := upd H l (.lst [])) (a := p) (kvs := kvsOf ks (ls.map V.ref)) (k := (Sum.inl k : Key)) (v := .ref l) (by rw [upd_ne hpl]; exact T.dict) (by rw [kvsOf_len hlen, sizeLine_eq]; omega)
  rw [e] at d
  refine ⟨_, d, rfl, upd_same, T.gp, T.hp, by rw [List.length_append, List.length_append, T.len]; rfl, by rw [List.length_append, List.length_append, T.len2]; rfl, fun j m xs h1 h2 => ?_, fun m hm => ?_, ?_⟩
  · rcases Nat.lt_or_ge j ls.length with z | z
    · rw [List.getElem?_append_left z] at h1
      rw [List.getElem?_append_left (by rw [← T.len2]; exact z)] at h2
      have e1 := T.lst j m xs h1 h2
      have n1 : m ≠ p := fun y => T.pl (y ▸ List.mem_of_getElem? h1)
      have n2 : m ≠ l := fun y => by rw [y, hl] at e1; cases e1
      rw [upd_ne n1, upd_ne n2]; exact e1
    · rw [List.getElem?_append_right z] at h1
      rw [List.getElem?_append_right (by rw [← T.len2]; exact z), ← T.len2] at h2
      cases hj : j - ls.length with
      | zero =>
        rw [hj] at h1 h2
        cases h1
        cases h2
        rw [upd_ne (Ne.symm hpl)]; exact upd_same
      | succ n => rw [hj] at h1; cases h1
  · rcases List.mem_append.mp hm with h | h
    · exact T.gl m h
    · cases List.mem_singleton.mp h; exact ⟨sg.free hl, s0.free hl⟩
  · rw [List.nodup_append]
    refine ⟨T.nd, by simp, fun a ha b hb z => ?_⟩
    cases List.mem_singleton.mp hb
    obtain ⟨xs, e1⟩ := T.inn ha
    rw [z, hl] at e1
    cases e1
def pairsOf : List D → Option (List (Int × Int))
  | [] => some []
  | .tup [.int a, .int b] :: r => (pairsOf r).map fun l => (a, b) :: l
  | _ => none
def pairD2 (e : Int × Int) : D := .tup [.int e.1, .int e.2]
theorem pairsOf_of : ∀ {ds : List D} {es : List (Int × Int)}, pairsOf ds = some es → ds = es.map pairD2
  | [], _, h => by cases h; rfl
  | d :: r, es, h => by
    unfold pairsOf at h
    split at h
    · rename_i e; cases e
    · rename_i e
      cases e
      obtain ⟨l, h1, h2⟩ := mpd h
      subst h2
      rw [pairsOf_of h1]; rfl
    · cases h
theorem pairsOf_map : ∀ es : List (Int × Int), pairsOf (es.map pairD2) = some es
  | [] => rfl
  | e :: r => by show (pairsOf (r.map pairD2)).map _ = _; rw [pairsOf_map r]; rfl
theorem Own.other {K : PySem.W.Frag} {G0 : Hp} {H0 : Fr} {G : Hp} {ω : WSt} {σ : St} {H : Hp} {i : Nat} {v : Option V} (o : Own K G0 H0 G ω σ H) (no : NoOw ω) (hi : ∀ w, ω[i]? ≠ some (some w)) : Own K G0 H0 G ω (σ.set i v) H :=
  ⟨o.ext, by rw [List.length_set]; exact o.len, fun j d h => by
    obtain ⟨u, h1, h2⟩ := o.sh j d h
    exact ⟨u, by rw [List.getElem?_set_ne (fun z => hi _ (z ▸ h))]; exact h1, h2⟩, fun i ds h => absurd h (no.ow i ds), fun i j ds es l h => absurd h (no.ow i ds), fun i ks ds h => absurd h (no.od i ks ds), PwOk.no no.pw⟩
theorem appA_bd (n : Nat) : ∀ (ks : List Int) (xss : List (List Int)) (a b : Int), (∀ x ∈ xss, x.length ≤ n) → ∀ x ∈ appA ks xss a b, x.length ≤ n + 1
  | [], xss, _, _, h, x, hx => Nat.le_succ_of_le (h x hx)
  | _ :: _, [], _, _, h, x, hx => by cases hx
  | k :: ks, y :: xss, a, b, h, x, hx => by
    unfold appA at hx
    by_cases z : k = a
    · rw [if_pos z] at hx
      rcases List.mem_cons.mp hx with rfl | hx
      · have := h y List.mem_cons_self
        rw [List.length_append, List.length_singleton]; omega
      · exact Nat.le_succ_of_le (h x (List.mem_cons_of_mem _ hx))
    · rw [if_neg z] at hx
      rcases List.mem_cons.mp hx with rfl | hx
      · exact Nat.le_succ_of_le (h _ List.mem_cons_self)
      · exact appA_bd n ks xss a b (fun x h' => h x (List.mem_cons_of_mem _ h')) x hx
theorem Tab.told {K : PySem.W.Frag} {G0 G : Hp} {H0 : Fr} {H : Hp} {ω : WSt} {σ : St} {p : Addr} {ks : List Int} {ls : List Addr} {xss : List (List Int)} (T : Tab G H0 H p ks ls xss) (o : Own K G0 H0 G ω σ H) (no : NoOw ω) (ob : Obj) :
    ∃ G', Same G G' ∧ Own K G0 H0 G' ω σ (upd H p (.frz ob (.dK (kvsOf ks (ls.map V.ref))))) ∧ Rep K G' (.dic ks (xss.map fun xs => .lst (xs.map D.int))) (.ref p) := by
  obtain ⟨H', hH⟩ : ∃ H' : Hp, H' = upd H p (.frz ob (.dK (kvsOf ks (ls.map V.ref)))) := ⟨_, rfl⟩
  rw [← hH]
  have hp' : H' p = some (.frz ob (.dK (kvsOf ks (ls.map V.ref)))) := by rw [hH]; exact upd_same
  have hn' : ∀ b, b ≠ p → H' b = H b := fun b h => by rw [hH]; exact upd_ne h
  let G' : Hp := fun b => if b = p ∨ b ∈ ls then H' b else G b
  have hin : ∀ b, (b = p ∨ b ∈ ls) → G' b = H' b := fun b h => if_pos h
  have hout : ∀ b, ¬ (b = p ∨ b ∈ ls) → G' b = G b := fun b h => if_neg h
  have gn : ∀ b, (b = p ∨ b ∈ ls) → G b = none ∧ H0 b = none := fun b h => by
    rcases h with rfl | h
    · exact ⟨T.gp, T.hp⟩
    · exact T.gl b h
  have gg : Same G G' := fun b u z => by
    by_cases y : b = p ∨ b ∈ ls
    · rw [(gn b y).1] at z; cases z
    · rw [hout b y]; exact z
  have gh : Same G' H' := fun b u z => by
    by_cases y : b = p ∨ b ∈ ls
    · rw [hin b y] at z; exact z
    · rw [hout b y] at z; rw [hn' b fun w => y (.inl w)]; exact o.gh b u z
  have hh : Same H0.hp H' := fun b u z => by
    rw [hn' b fun w => by rw [w, T.hp] at z; cases z]; exact o.ext.hh b u z
  refine ⟨G', gg, ⟨⟨o.ext.gg.trans gg, gh, hh, fun b z1 z2 => ?_⟩, o.len, fun i d h => ?_, fun i ds h => absurd h (no.ow i ds), o.nd, fun i ks ds h => absurd h (no.od i ks ds), PwOk.no no.pw⟩, p, ls.map V.ref, rfl, ⟨ob, by rw [hin p (.inl rfl)]; exact hp'⟩, by rw [List.length_map, ← T.len2]; exact T.len, ?_⟩
  · by_cases y : b = p ∨ b ∈ ls
    · exact absurd (gn b y).2 z2
    · rw [hout b y]; exact o.ext.new b z1 z2
  · obtain ⟨v, h1, h2⟩ := o.sh i d h
    exact ⟨v, h1, h2.mono gg⟩
  · refine reps_refs (by rw [List.length_map]; exact T.len2.symm) fun j d t h1 h2 => ?_
    rw [List.getElem?_map] at h1
    cases q : xss[j]? with
    | none => rw [q] at h1; cases h1
    | some xs =>
      rw [q] at h1
      cases h1
      have hl := T.lst j t xs h2 q
      exact ⟨t, _, rfl, by rw [hin t (.inr (List.mem_of_getElem? h2)), hn' t fun w => by rw [w, T.dict] at hl; cases hl]; exact hl, Reps.ints xs⟩
section
variable {X : Cx}
end
end Hk
set_option maxRecDepth 100000
namespace Hk
open PySem L2
def dnew1S (i : Nat) (ω : WSt) (c d : Option D) : Option (Out × WSt) := c.bind fun c => d.bind fun d => match c with
  | .int k => some (.nx, ω.set i (some (.od [k] [d])))
  | _ => none
def dsetS (i : Nat) (ω : WSt) (v c : Option D) (w : Option (Option W)) : Option (Out × WSt) := v.bind fun d => c.bind fun c => match c, w with
  | .int k, some (some (.od ks ds)) => if ks.length < 1000000 then some (.nx, ω.set i (some (.od (putKs ks k) (putA ks ds k d)))) else none
  | _, _ => none
def dgetR (o : Option (List Int × List D)) (c : Option D) : Option R := o.bind fun p => c.bind fun c => match c with
  | .int k => (valD p.1 p.2 k).map R.sh
  | _ => none
def dhasT (neg : Bool) (c : Option D) (o : Option (List Int × List D)) : Option Bool := c.bind fun c => o.bind fun p => match c with
  | .int k => some (if neg then !(valD p.1 p.2 k).isSome else (valD p.1 p.2 k).isSome)
  | _ => none
def sortDR (o : Option (List Int × List D)) : Option R := o.bind fun p => if p.1.length < 64 then some (.fr ((sortZ p.1).map D.int)) else none
def pop0 (i : Nat) (ω : WSt) (w : Option (Option W)) : Option (D × WSt) := match w with
  | some (some (.ow ds)) => (ds[ds.length - 1]?).map fun d => (d, ω.set i (some (.ow ds.dropLast)))
  | _ => none
def pop0W (j i : Nat) (ω : WSt) (w : Option (Option W)) : Option (Out × WSt) := (pop0 i ω w).map fun p => (.nx, p.2.set j (some (.sh p.1)))
section
variable {ω : WSt} {fk fv : FD} {i j : Nat} {ks : List Int} {ds : List D} {k : Int} {d : D} {neg : Bool}
theorem e_dnew : sDNew i ω = some (.nx, ω.set i (some (.od [] []))) := rfl
theorem e_dnew1 : sDNew1 i fk fv ω = dnew1S i ω (fk ω) (fv ω) := rfl
theorem e_dn1 : dnew1S i ω (some (.int k)) (some d) = some (.nx, ω.set i (some (.od [k] [d]))) := rfl
theorem e_dset : sDSet i fk fv ω = dsetS i ω (fv ω) (fk ω) ω[i]? := rfl
theorem e_dget : fDGet i fk ω = dgetR (dicOf ω[i]?) (fk ω) := rfl
theorem e_dgr : dgetR (some (ks, ds)) (some (.int k)) = (valD ks ds k).map R.sh := rfl
theorem e_dco : dicOf (some (some (.od ks ds))) = some (ks, ds) := rfl
theorem e_dcs : dicOf (some (some (.sh (.dic ks ds)))) = some (ks, ds) := rfl
theorem e_dhas : tDHas neg i fk ω = dhasT neg (fk ω) (dicOf ω[i]?) := rfl
theorem e_dht : dhasT false (some (.int k)) (some (ks, ds)) = some (valD ks ds k).isSome := rfl
theorem e_dhn : dhasT true (some (.int k)) (some (ks, ds)) = some (!(valD ks ds k).isSome) := rfl
theorem e_dsort : fSortD i ω = sortDR (dicOf ω[i]?) := rfl
theorem e_dpop0 : sSetM j (mPop0 i) ω = pop0W j i ω ω[i]? := rfl
theorem e_dsh : shrS i ω (some (some (.od ks ds))) = ω.set i (some (.sh (.dic ks ds))) := rfl
end
end Hk
set_option maxRecDepth 100000
namespace Hk
open PySem L2
section
variable {X : Cx} {o k e : Expr} {pos pos' : Pos} {i : Nat} {fk fv : FD}
def sLSet (i : Nat) (fk fv : FD) : FS := fun ω => (fv ω).bind fun d => (fk ω).bind fun c => match c, ω[i]? with
  | .int k, some (some (.ow ds)) => (ixN ds.length k).map fun j => (.nx, ω.set i (some (.ow (ds.set j d))))
  | _, _ => none
theorem Reps.set {K : PySem.W.Frag} {H : Hp} : ∀ {ds : List D} {vs : List V} (n : Nat) {d : D} {v : V}, Reps K H ds vs → Rep K H d v → Reps K H (ds.set n d) (vs.set n v)
  | [], _, _, _, _, h, _ => by cases (show _ = _ from h); rfl
  | _ :: _, _, 0, _, _, ⟨v, r, h1, h2, h3⟩, hv => by rw [h1]; exact ⟨_, _, rfl, hv, h3⟩
  | _ :: _, _, n + 1, _, _, ⟨v, r, h1, h2, h3⟩, hv => by rw [h1]; exact ⟨v, _, rfl, h2, Reps.set n h3 hv⟩
end
end Hk
set_option maxRecDepth 100000
namespace Hk
open PySem L2
section
variable {X : Cx} {e : Expr} {pos pos' : Pos} {i : Nat} {fe : FD}
def sAug (g : Int → Int → Int) (i : Nat) (fe : FD) : FS := fun ω => (fe ω).bind fun d => match d, ω[i]? with
  | .int b, some (some (.sh (.int a))) => some (.nx, ω.set i (some (.sh (.int (g a b)))))
  | _, _ => none
end
section
open PySem.Spec PyProof.Rows
variable {X : Cx}
def mx3 (i j k : Int) : Int := if k > (if j > i then j else i) then k else if j > i then j else i
end
def bMax3 : List D → Option R
  | [.int i, .int j, .int k] => some (.sh (.int (mx3 i j k)))
  | _ => none
end Hk
namespace L2
open PySem PySem.Spec PyProof.Rows
end L2
namespace Hk
open PySem L2
def iRv (g : FA) : FI := fun ω => (g ω).bind fun ds => match ds with
  | [.lst a] => some a.reverse
  | _ => none
end Hk
set_option maxRecDepth 100000
namespace Hk
open PySem L2
def lsetS (i : Nat) (ω : WSt) (v c : Option D) (w : Option (Option W)) : Option (Out × WSt) := v.bind fun d => c.bind fun c => match c, w with
  | .int k, some (some (.ow ds)) => (ixN ds.length k).map fun j => (.nx, ω.set i (some (.ow (ds.set j d))))
  | _, _ => none
def augS (g : Int → Int → Int) (i : Nat) (ω : WSt) (v : Option D) (w : Option (Option W)) : Option (Out × WSt) := v.bind fun d => match d, w with
  | .int b, some (some (.sh (.int a))) => some (.nx, ω.set i (some (.sh (.int (g a b)))))
  | _, _ => none
def rvI (o : Option (List D)) : Option (List D) := o.bind fun ds => match ds with
  | [.lst a] => some a.reverse
  | _ => none
section
variable {ω : WSt} {fk fv : FD} {fa : FA} {i j : Nat} {ds : List D} {a b c : Int} {d : D} {g : Int → Int → Int}
theorem e_lset : sLSet i fk fv ω = lsetS i ω (fv ω) (fk ω) ω[i]? := rfl
theorem e_aug : sAug g i fv ω = augS g i ω (fv ω) ω[i]? := rfl
theorem e_augi : augS g i ω (some (.int b)) (some (some (.sh (.int a)))) = some (.nx, ω.set i (some (.sh (.int (g a b))))) := rfl
theorem e_irv : iRv fa ω = rvI (fa ω) := rfl
theorem e_irl : rvI (some [.lst ds]) = some ds.reverse := rfl
theorem e_max3 : bMax3 [.int a, .int b, .int c] = some (.sh (.int (mx3 a b c))) := rfl
end
end Hk
set_option maxRecDepth 100000
namespace Hk
open PySem L2
def cMulB (i j : Int) : Bool := decide (i.natAbs < 2 ^ 200) && decide (j.natAbs < 2 ^ 200)
abbrev oMulB : D → D → Option R := oInt cMulB fun i j => .int (i * j)
theorem mulB {i j : Int} (h : cMulB i j = true) : IntMulOk i j := by
  unfold cMulB at h
  rw [Bool.and_eq_true, decide_eq_true_iff, decide_eq_true_iff] at h
  have h1 := PyProof.Rows.intBits_le h.1
  have h2 := PyProof.Rows.intBits_le h.2
  unfold IntMulOk
  have : Builtin.Int.intTooBig ((Builtin.Int.intBits i : Int) + (Builtin.Int.intBits j : Int)) = false := by
    unfold Builtin.Int.intTooBig
    refine decide_eq_false ?_
    have : (400 : Int) ≤ bitsLine := by decide
    omega
  simp [this]
theorem op_mulB {X : Cx} : OpR X (binaryOp .Mult) (rI (fun i j => IntMulOk i j) fun i j => .int (i * j)) := opI fun _ _ _ _ _ _ _ hc q => PyProof.Rows.mul_int q hc
theorem xe_mulB {X : Cx} {a b : Expr} {f g : FD} {pos : Pos} (ha : XV X a f) (hb : XV X b g) : XE X (.BinOp a .Mult b pos) (fOpE oMulB f g) := xe_bin op_mulB (opv_int (fun _ _ h => mulB h) fun _ _ _ => rfl) ha hb
theorem oMulB_ii {a b : Int} (h : a.natAbs < 2 ^ 200) (h' : b.natAbs < 2 ^ 200) : oMulB (.int a) (.int b) = some (.sh (.int (a * b))) := if_pos (by unfold cMulB; rw [decide_eq_true h, decide_eq_true h']; rfl)
end Hk
set_option maxRecDepth 100000
namespace L2
open PySem PySem.Spec PyProof.Rows
def Ite (K : PySem.W.Frag) (a : Addr) : It :=
  ⟨fun i H => ∃ xs x, SqL K H a xs ∧ xs[i]? = some x,
   fun i H x H' => ∃ t x1, H t = none ∧ x = .ref t ∧ H' = upd H t (.tup [.int i, x1]) ∧ ∀ xs, SqL K H a xs → xs[i]? = some x1,
   fun i H => ∃ xs, SqL K H a xs ∧ xs[i]? = none⟩
theorem turn_enum {P : Program} {w : World} {K : PySem.W.Frag} {elts : List Expr} {kx} {tpos : Pos} (a e it : Addr) (hne : e ≠ it) (hae : a ≠ e) (hai : a ≠ it) :
    Turn P w K (.Tuple elts kx tpos) (Ite K a) [e, it] e (fun i h => (∃ old, IsEnum h e it (i : Int) old) ∧ h.IsListIter it a i) where
  mem := by simp
  obj := fun i h st c hc => by
    obtain ⟨⟨old, s1⟩, ⟨o4, e4, c4, d4⟩⟩ := st
    simp only [List.mem_cons, List.not_mem_nil, or_false] at hc
    rcases hc with rfl | rfl
    · exact ⟨_, s1, fun v y => by cases (show Data.fields _ = Data.cell v from y)⟩
    · exact ⟨_, e4, fun v y => by rw [d4] at y; cases y⟩
  keep := fun i h h' st k => by
    obtain ⟨⟨old, s1⟩, s4⟩ := st
    exact ⟨⟨old, k _ (by simp) _ s1⟩, s4.at fun o e => k _ (by simp) o e⟩
  item := by
    intro X hP hw hK hc i pins s σ H E I hf st hg
    subst hP hw hK
    obtain ⟨xs, x, hq, hx⟩ := hg
    obtain ⟨its, rv, p, hz⟩ := I.list hq
    obtain ⟨u, hu, ru⟩ := rv.get hx
    obtain ⟨⟨old, s1⟩, s4⟩ := st
    have ex : ∀ c ∈ [e, it], ∃ o, s.heap.get? c = some o := fun c hc => by
      simp only [List.mem_cons, List.not_mem_nil, or_false] at hc
      rcases hc with rfl | rfl
      · exact ⟨_, s1⟩
      · obtain ⟨o, e, _⟩ := s4; exact ⟨o, e⟩
    have nt : ∀ c ∈ [e, it], c ≠ s.heap.objs.size := fun c hc => by
      obtain ⟨o, e⟩ := ex c hc
      exact Nat.ne_of_lt (Heap.lt_size e)
    refine wpAny_pyNext_enum_item s1 s4 p.isList (x := u) (by simpa using hu) hne fun h' a1 a2 a3 a4 hk => ?_
    have hn : H s.heap.objs.size = none := I.hok.fresh (Nat.le_refl _)
    have I1 : Inv X pins σ (upd H s.heap.objs.size (.tup [.int i, x])) { s with heap := s.heap.push { cls := .type "tuple", data := .seq #[.int i s.toks, u] }, toks := s.toks + 1 } :=
      I.laid (fun b o e => Heap.get?_push_of_some _ e) (Nat.le_refl _) (show ObjOk X.prog X.w _ _ _ (.tup [.int i, x]) from ⟨by show 2 ≤ sizeLine; decide, [.int i s.toks, u], .cons ⟨_, rfl⟩ (.cons ru .nil), ⟨_, Heap.get?_push_size _ rfl, rfl, _, rfl⟩⟩)
    have hf' : ∀ c ∈ [e, it], FpOk X pins (upd H s.heap.objs.size (.tup [.int i, x])) c := fun c hc => by
      obtain ⟨f0, f⟩ := hf c hc
      exact ⟨by rw [upd_ne (nt c hc)]; exact f0, f⟩
    have I2 : Inv X pins σ (upd H s.heap.objs.size (.tup [.int i, x])) { s with heap := h', toks := s.toks + 1 } := I1.turnedL (fun b o hb e => by
      simp only [List.mem_cons, List.not_mem_nil, or_false, not_or] at hb
      by_cases q : b = s.heap.objs.size
      · subst q
        rw [Heap.get?_push_size _ rfl] at e
        cases e
        exact a3
      · have e' : s.heap.get? b = some o := by
          rcases Nat.lt_or_ge b s.heap.objs.size with l | l
          · obtain ⟨z1, z2⟩ := Heap.get?_some_iff.mp e
            refine Heap.get?_some_iff.mpr ⟨?_, z2⟩
            rw [← z1]
            show s.heap.objs[b]? = (s.heap.objs.push _)[b]?
            rw [Array.getElem?_push, if_neg q]
          · have := Heap.lt_size e
            rw [Heap.size_push] at this
            exact absurd (by simp only [Addr] at *; omega) q
        exact hk b o hb.1 hb.2 e') hf'
    refine ⟨_, rfl, wpAny_letOwnedTupleGo_enum a1 fun h2 b1 sb => ?_⟩
    have I3 : Inv X pins σ (upd H s.heap.objs.size (.tup [.int i, x])) { s with heap := h2, toks := s.toks + 1 } := I2.turnedL (fun b o hb e => (sb.2 b (fun q => hb (by simp [q]))).trans e) hf'
    have hi : ((i + 1 : Nat) : Int) = (i : Int) + 1 := by push_cast; rfl
    refine ⟨.ref s.heap.objs.size, _, I3, rfl, ⟨_, x, hn, rfl, rfl, fun xs' q1 => by rw [I.list_inj q1 hq]; exact hx⟩, ⟨⟨u, by rw [hi]; exact b1⟩, a2.extBut sb.extBut (Ne.symm hne)⟩, fun c hc => (hf' c hc).1⟩
  done := by
    intro X hP hw hK hc i pins s σ H E I hf st hg
    subst hP hw hK
    obtain ⟨xs, hq, hx⟩ := hg
    obtain ⟨its, rv, p, hz⟩ := I.list hq
    obtain ⟨⟨old, s1⟩, s4⟩ := st
    have l1 := rv.length
    refine wpAny_pyNext_enum_end (I.ok.hd hc) s1 s4 p.isList ?_ fun h' hk => ⟨rfl, I.turnedL (t' := s.toks) (fun b o hb e => ?_) hf⟩
    · rw [List.getElem?_eq_none_iff] at hx; simp; omega
    · simp only [List.mem_cons, List.not_mem_nil, or_false, not_or] at hb
      exact hk b o hb.2 e
  self := fun _ _ _ _ _ st h => by
    obtain ⟨⟨old, s1⟩, s4⟩ := st
    exact wpAny_pyIter_enum s1 h
def iEnum (K : PySem.W.Frag) (ta : TA) : TI := fun σ H R => ta σ H fun vs H1 => ∃ a xs, vs = [.ref a] ∧ SqL K H1 a xs ∧ R (Ite K a) H1
theorem pi_enum {X : Cx} {a : Expr} {ta : TA} {p pos tpos : Pos} {elts : List Expr} {kx} (hg : Gl X "enumerate") (hm : X.mg "enumerate" = none) (ha : PA X [a] ta) (hs : starEach [a] X.env = [(false, eval a X.env)] := by rfl) :
    PI X (.Tuple elts kx tpos) (.Call (.Name "enumerate" p) [a] [] pos) (iEnum X.K ta) := by
  intro pins s σ H R I h
  refine Call_ (ld_blt I hg hm PyProof.Rows.boot_enumerate (PyProof.Rows.callWith_type1 (thn (ha pos pins s σ H _ I h) fun us s1 ⟨vs, H1, I1, r1, q1⟩ => ?_) hs rfl))
  obtain ⟨l, xs, e, hq, q⟩ := q1
  subst e
  cases r1 with
  | cons r rr =>
    cases rr
    cases r
    obtain ⟨its, rv, p1, hz⟩ := I1.list hq
    have hlt : l < s1.heap.objs.size := by obtain ⟨_, _, e, _⟩ := p1; exact Heap.lt_size e
    refine call_enumerate_list p1.isList fun h' a1 a2 a3 hk => ?_
    refine wpAny_pyIter_enum a1 ?_
    refine ⟨s1.heap.objs.size + 1, [s1.heap.objs.size + 1, s1.heap.objs.size], _, _, H1, rfl, I1.kept (t' := s1.toks) hk, turn_enum l _ _ (Nat.succ_ne_self _) (Nat.ne_of_lt (Nat.lt_succ_of_lt hlt)) (Nat.ne_of_lt hlt), ⟨⟨_, a1⟩, a2⟩, fun c hc => ?_, q⟩
    have hle : s1.heap.objs.size ≤ c := by
      simp only [List.mem_cons, List.not_mem_nil, or_false] at hc
      simp only [Addr] at *
      omega
    exact I1.fpOk hle (I1.hok.fresh hle)
end L2
namespace Hk
open PySem L2
def enumL : Nat → List D → List D
  | i, a :: as => .tup [.int i, a] :: enumL (i + 1) as
  | _, [] => []
def iEn (g : FA) : FI := fun ω => (g ω).bind fun ds => match ds with
  | [.lst a] => some (enumL 0 a)
  | _ => none
end Hk
namespace Hk
open PySem L2
def enI (o : Option (List D)) : Option (List D) := o.bind fun ds => match ds with
  | [.lst a] => some (enumL 0 a)
  | _ => none
theorem e_ien {fa : FA} {ω : WSt} : iEn fa ω = enI (fa ω) := rfl
theorem e_enl {ds : List D} : enI (some [.lst ds]) = some (enumL 0 ds) := rfl
end Hk
namespace Hk
open PySem L2
section
open PyProof.Rows PySem.Spec
variable {prog : Program} {w : World} {A : Around} {E : Value → Shared → Prop} {s : Shared} {l : Addr} {xs : Array (Int × Tok)}
end
section
variable {X : Cx}
open PyProof.Rows PySem.Spec
end
end Hk
set_option maxRecDepth 100000
namespace Hk
open PySem PySem.Spec PyProof.Rows L2
section
variable {prog : Program} {w : World} {A : Around} {E : Value → Shared → Prop} {s : Shared}
end
end Hk
namespace L2
open PySem PySem.Spec PyProof.Rows Hk
end L2
namespace Hk
open PySem L2
end Hk
set_option maxRecDepth 100000
namespace Hk
open PySem PySem.Spec L2 PyProof.Rows
section
variable {P : Program} {w : World} {H : Hp} {h : Heap} {a : Addr} {o : HO}
end
section
variable {X : Cx} {pins : List (Addr × Obj)} {σ : L2.St} {H : Hp} {s : Shared} {h' : Heap}
end
end Hk
set_option maxRecDepth 100000
namespace Hk
open PySem PySem.Spec L2 PyProof.Rows
section
variable {X : Cx} {E : XK}
end
abbrev FX := WSt → Option Str
def yNo : FX := fun _ => none
def yRaise (x : Str) : FX := fun _ => some x
def yCall (g : List D → Option Str) (ga : FA) : FX := fun ω => (ga ω).bind g
def yIf (c : FT) (g g' : FX) : FX := fun ω => (c ω).bind fun b => if b = true then g ω else g' ω
section
variable {X : Cx} {E : XK} {st : Stmt} {rest : List Stmt} {e : Expr} {es : List Expr} {pos : Pos} {g g' : FX}
end
end Hk
set_option maxRecDepth 100000
namespace PySem
section
variable {M : Model} {A : Around} {E : Value → Shared → Prop} {nm q : Str} {C N : Addr} {bs bm : List Value} {hdct : Bool} {sn : List Str} {sub : List Value} {ab : Bool} {col : Option Bool} {dd : Option Addr} {k0 k1 k2 k3 k5 : Option Value} {newId : String}
variable {nm' q' : Str} {C' N' : Addr} {bs' bm' : List Value} {hdct' : Bool} {sn' : List Str} {sub' : List Value} {ab' : Bool} {col' : Option Bool} {dd' : Option Addr} {j0 j1 j2 j3 j5 : Option Value} {newId' : String}
end
end PySem
namespace Hk
open PySem PySem.Spec L2 PyProof.Rows
section
variable {X : Cx} {pins : List (Addr × Obj)} {σ : L2.St} {H : Hp} {s : Shared}
end
end Hk
set_option maxRecDepth 100000
namespace Hk
open PySem PySem.Spec L2 PyProof.Rows
section
variable {X : Cx} {st : Stmt} {rest : List Stmt} {e : Expr} {es : List Expr} {pos : Pos} {g g' : FX}
end
def sTry (f : FS) (g : FX) (cs : List Str) (i : Nat) (fh : FS) : FS := fun ω => match g ω with
  | some c => if c ∈ cs then (fh (ω.set i (some (.sh (.exc c))))).map fun p => (p.1, p.2.set i none) else none
  | none => f ω
section
variable {X : Cx} {pins : List (Addr × Obj)} {σ : L2.St} {H : Hp} {s : Shared}
end
end Hk
set_option maxRecDepth 100000
namespace Hk
open PySem PySem.Spec L2 PyProof.Rows
section
variable {K : PySem.W.Frag} {G0 : Hp} {H0 : Fr} {G : Hp} {ω : WSt} {σ : L2.St} {H : Hp}
end
section
variable {X : Cx}
end
end Hk
set_option maxRecDepth 100000
namespace PySem.W
open PySem PySem.Calls PyProof.Rows
open Builtin Builtin.ObjectAttr Builtin.Getset_descriptor
section
variable {prog : Program} {w : World} {A : Around} {E : Value → Shared → Prop} {K : Frag} {x C : Addr} {h : Heap} {g : Array GenState} {d : Drawn} {t : Nat} {os : OsState} {ob : Obj}
def Ex (h : Heap) (x C : Addr) (ob : Obj) : Prop := h.get? x = some ob ∧ ob.cls = .ref C
theorem Ex.ty (M : Model) (e : Ex h x C ob) : Looks M h (typeOf (.ref x)) (.ref C) := e.2 ▸ (Looks.ld e.1).andThen .now
end
end PySem.W
set_option maxRecDepth 100000
namespace Hk
open PySem PySem.Spec L2 PyProof.Rows
def fIsx (tab : List (Str × Bool)) (f : FD) : FE := fun ω => (f ω).bind fun d => match d with
  | .exc c => (tab.lookup c).map fun b => .sh (.bl b)
  | _ => none
section
variable {X : Cx} {a : Expr} {f : FD}
end
end Hk
set_option maxRecDepth 100000
namespace Hk
open PySem PySem.Spec L2 PyProof.Rows
section
variable {X : Cx} {E : XK} {st : Stmt} {rest : List Stmt} {g : FX}
end
def tryS (o : Option Str) (f : FS) (cs : List Str) (i : Nat) (fh : FS) (ω : WSt) : Option (Out × WSt) := match o with
  | some c => if c ∈ cs then (fh (ω.set i (some (.sh (.exc c))))).map fun p => (p.1, p.2.set i none) else none
  | none => f ω
def goS (i : Nat) (o : Option (Out × WSt)) : Option (Out × WSt) := o.map fun p => (p.1, p.2.set i none)
def ifX (o : Option Bool) (g g' : FX) (ω : WSt) : Option Str := o.bind fun b => if b = true then g ω else g' ω
def callX (m : List D → Option Str) (o : Option (List D)) : Option Str := o.bind m
def isxR (tab : List (Str × Bool)) (o : Option D) : Option R := o.bind fun d => match d with
  | .exc c => (tab.lookup c).map fun b => .sh (.bl b)
  | _ => none
def dropS (o : Option R) (ω : WSt) : Option (Out × WSt) := o.map fun _ => (.nx, ω)
section
variable {f fh : FS} {g g' : FX} {cs : List Str} {i : Nat} {ω w : WSt} {c : Str} {ft : FT} {fa : FA} {ds : List D} {fd : FD} {fe : FE} {o : Out} {r : R}
theorem e_xtry : sTry f g cs i fh ω = tryS (g ω) f cs i fh ω := rfl
theorem e_xtry_n : tryS none f cs i fh ω = f ω := rfl
theorem e_xtry_s (h : c ∈ cs) : tryS (some c) f cs i fh ω = goS i (fh (ω.set i (some (.sh (.exc c))))) := if_pos h
theorem e_xgo : goS i (some (o, w)) = some (o, w.set i none) := rfl
theorem e_xif : yIf ft g g' ω = ifX (ft ω) g g' ω := rfl
theorem e_xif_t : ifX (some true) g g' ω = g ω := rfl
theorem e_xif_f : ifX (some false) g g' ω = g' ω := rfl
theorem e_xno : yNo ω = none := rfl
theorem e_xraise : yRaise c ω = some c := rfl
theorem e_xcall {m} : yCall m fa ω = callX m (fa ω) := rfl
theorem e_xc {m} : callX m (some ds) = m ds := rfl
theorem e_xis {tab} : fIsx tab fd ω = isxR tab (fd ω) := rfl
theorem e_xi {tab} : isxR tab (some (.exc c)) = (tab.lookup c).map fun b => .sh (.bl b) := rfl
theorem e_xdrop : sDrop fe ω = dropS (fe ω) ω := rfl
theorem e_xd : dropS (some r) ω = some (.nx, ω) := rfl
end
end Hk
set_option maxRecDepth 100000
namespace Hk
open PySem PySem.Spec L2 PyProof.Rows
def sTry0 (f : FS) (g : FX) (cs : List Str) (fh : FS) : FS := fun ω => match g ω with
  | some c => if c ∈ cs then fh ω else none
  | none => f ω
section
variable {X : Cx}
end
def try0S (o : Option Str) (f : FS) (cs : List Str) (fh : FS) (ω : WSt) : Option (Out × WSt) := match o with
  | some c => if c ∈ cs then fh ω else none
  | none => f ω
section
variable {f fh : FS} {g : FX} {cs : List Str} {ω : WSt} {c : Str}
theorem e_xt0 : sTry0 f g cs fh ω = try0S (g ω) f cs fh ω := rfl
theorem e_xt0_n : try0S none f cs fh ω = f ω := rfl
theorem e_xt0_s (h : c ∈ cs) : try0S (some c) f cs fh ω = fh ω := if_pos h
end
end Hk
set_option maxRecDepth 100000
namespace L2
open PySem PySem.Spec PyProof.Rows
section
variable {X : Cx} {pins : List (Addr × Obj)} {σ : St} {H : Hp} {s : Shared} {a : Addr} {A : Around} {E : Value → Shared → Prop} {kvs : List (Key × V)} {k : Key} {u r : Value} {z : V}
theorem d_setdef {Q : Value → Shared → Prop} (I : Inv X pins σ H s) (e : H a = some (.dK kvs)) (hz : kvs.length < sizeLine) (ry : RelV (kV k) u) (rz : RelV z r)
    (h1 : ∀ v w' s', valV kvs k = some v → Inv X pins σ H s' → RelV v w' → Q w' s') (h2 : valV kvs k = none → ∀ s', Inv X pins σ (upd H a (.dK (putK kvs k z))) s' → Q r s') :
    wpAny (model X.prog X.w) A (call (.builtin "dict.setdefault") [.ref a, u, r]) Q E s := by
  obtain ⟨zl, hd, vs, rel, dd⟩ := dk_of I.hok e
  have rv := rel.val k
  refine call_meetsIn PySem.F.slot_dict_setdefault dd.typeIs PySem.F.entry_dict_setdefault (PySem.F.args_dict_setdefault_3 _ _ _) (kt_meets_setdefault (mixKind X.prog X.w) a (kV_is ry) hd r)
    ⟨vs, dd, by rw [← rel.length]; exact zl, fun v hv => ?_, fun hn h' dd' hs => ?_⟩
  · rw [hv] at rv
    cases q : valV kvs k with
    | none => rw [q] at rv; exact rv.elim
    | some v0 => rw [q] at rv; exact h1 v0 v _ q (I.tok _) rv
  · rw [hn] at rv
    cases q : valV kvs k with
    | some v0 => rw [q] at rv; exact rv.elim
    | none =>
      refine h2 q _ ?_
      have he : ∃ q, h'.get? a = some q := let ⟨q, _, _, hq, _⟩ := dd'; ⟨q, hq⟩
      have hl : (putK kvs k z).length ≤ sizeLine := by rw [putK_new z q, List.length_append, List.length_singleton]; exact hz
      exact d_write I (by rw [e]; exact True.intro) hs he (dk_new hl hd (rel.put k rz) dd')
end
def tDSd (td ty tx : TE) : TE := fun σ H Q => td σ H fun x H1 => ∃ a, x = .ref a ∧ IsD H1 a ∧ ty σ H1 fun y H2 => tx σ H2 fun z H3 => ∃ kvs k, H3 a = some (.dK kvs) ∧ y = kV k ∧ kvs.length < sizeLine ∧
  (∀ v, valV kvs k = some v → Q v H3) ∧ (valV kvs k = none → Q z (upd H3 a (.dK (putK kvs k z))))
theorem pe_dsd {X : Cx} {o e f : Expr} {apos cpos : Pos} {td ty tx : TE} (ho : PE X o td) (he : PE X e ty) (hf : PE X f tx) (m : M2 X o "setdefault" apos e f cpos) : PE X (.Call (.Attribute o "setdefault" apos) [e, f] [] cpos) (tDSd td ty tx) := by
  intro pins s σ H Q I h
  refine wpAny_Call_method m.base m.few m.line PySem.F.plainAttrs_dict PySem.F.slot_dict_setdefault PySem.F.type_dict_setdefault (thn (ho pins s σ H _ I h) fun u s1 ⟨x, H1, I1, rx, a, ex, d, q1⟩ => ?_)
  subst ex
  obtain rfl : u = Value.ref a := rx
  obtain ⟨t1, t2, _⟩ := isD_at I1 d
  refine ⟨t1, t2, ?_⟩
  rw [m.trees]
  refine Calls.callWith_builtin rfl (Calls.evalArgs_plain (Calls.spliced_cons (thn (he pins s1 σ H1 _ I1 q1) fun iv s2 ⟨y, H2, I2, ry, q2⟩ =>
    Calls.spliced_cons (thn (hf pins s2 σ H2 _ I2 q2) fun fv s3 ⟨z, H3, I3, rz, kvs, k, ea, ey, hz, g1, g2⟩ => Calls.spliced_nil ?_))))
  subst ey
  exact d_setdef I3 ea hz ry rz (fun v w' s4 hv I4 rw' => ⟨v, H3, I4, rw', g1 v hv⟩) fun hn s4 I4 => ⟨z, _, I4, rz, g2 hn⟩
end L2
set_option maxRecDepth 100000
namespace Hk
open PySem L2
theorem valD_isSome {α : Type} : ∀ {ks : List Int} {xs : List α} {k : Int}, ks.length = xs.length → (valD ks xs k).isSome = decide (k ∈ ks)
  | [], [], k, _ => by simp [valD]
  | [], _ :: _, _, h => by simp at h
  | _ :: _, [], _, h => by simp at h
  | k' :: ks, x :: xs, k, h => by
    show (if k' = k then some x else valD ks xs k).isSome = _
    by_cases z : k' = k
    · rw [if_pos z, decide_eq_true (by rw [z]; exact List.mem_cons_self)]; rfl
    · rw [if_neg z, valD_isSome (by simpa using h)]
      have : (k ∈ k' :: ks) ↔ k ∈ ks := ⟨fun m => (List.mem_cons.mp m).resolve_left fun e => z e.symm, List.mem_cons_of_mem _⟩
      rw [decide_eq_decide.mpr this]
theorem valD_last {α : Type} {v : α} : ∀ {ks : List Int} {xs : List α} {k : Int}, ks.length = xs.length → k ∉ ks → valD (ks ++ [k]) (xs ++ [v]) k = some v
  | [], [], k, _, _ => if_pos rfl
  | [], _ :: _, _, h, _ => by simp at h
  | _ :: _, [], _, h, _ => by simp at h
  | k' :: ks, x :: xs, k, h, hk => by
    show (if k' = k then some x else valD (ks ++ [k]) (xs ++ [v]) k) = some v
    rw [if_neg (fun z => hk (by rw [z]; exact List.mem_cons_self))]
    exact valD_last (by simpa using h) fun m => hk (List.mem_cons_of_mem _ m)
def byStep (st : List Int × List (List Int)) (n : Int) (a : Int) : List Int × List (List Int) :=
  if a ∈ st.1 then (st.1, appA st.1 st.2 a n) else (st.1 ++ [a], appA (st.1 ++ [a]) (st.2 ++ [[]]) a n)
def byS (as : List (Int × Int)) : Nat → List Int × List (List Int)
  | 0 => ([], [])
  | n + 1 => match as[n]? with
    | some a => byStep (byS as n) n a.1
    | none => byS as n
def spT (K : PySem.W.Frag) : Sp := fun vs H Q _ => ∃ (G : Hp) (as : List (Int × Int)), Same G H ∧ Reps K G [.lst (as.map pairD2)] vs ∧ as.length ≤ 3000 ∧
  ∀ G' p ls H', Ext G H G' H' → Tab G' H H' p (byS as as.length).1 ls (byS as as.length).2 → Q (.ref p) H'
theorem by_bd (as : List (Int × Int)) : ∀ n : Nat, (byS as n).1.length ≤ n ∧ ∀ xs ∈ (byS as n).2, xs.length ≤ n
  | 0 => ⟨Nat.le_refl _, fun xs h => by cases h⟩
  | n + 1 => by
    obtain ⟨h1, h2⟩ := by_bd as n
    unfold byS
    cases q : as[n]? with
    | none => exact ⟨by show (byS as n).1.length ≤ _; omega, fun xs hx => by have := h2 xs hx; omega⟩
    | some a =>
      show (byStep (byS as n) n a.1).1.length ≤ _ ∧ ∀ xs ∈ (byStep (byS as n) n a.1).2, _
      unfold byStep
      split
      · exact ⟨by show (byS as n).1.length ≤ _; omega, appA_bd n _ _ _ _ h2⟩
      · refine ⟨by show ((byS as n).1 ++ [a.1]).length ≤ _; rw [List.length_append, List.length_singleton]; omega, appA_bd n _ _ _ _ fun xs hx => ?_⟩
        rcases List.mem_append.mp hx with y | y
        · exact h2 xs y
        · cases List.mem_singleton.mp y; exact Nat.zero_le _
section
variable {K : PySem.W.Frag} {G0 : Hp} {H0 : Fr} {G : Hp} {ω : WSt} {σ : St} {H : Hp}
end
theorem noOw4 {d0 d2 d3 : Option D} : NoOw [d0.map W.sh, none, d2.map W.sh, d3.map W.sh] := by
  intro i w h
  match i, h with
  | 0, h => cases d0 <;> cases h; exact ⟨_, rfl⟩
  | 1, h => cases h
  | 2, h => cases d2 <;> cases h; exact ⟨_, rfl⟩
  | 3, h => cases d3 <;> cases h; exact ⟨_, rfl⟩
  | i + 4, h => simp at h
section
variable {X : Cx}
theorem by_turn {ta : TE} {g0 : FD} (k2 : SimD X.K ta g0) {G0 : Hp} {H0 : Fr} {G : Hp} {ω : WSt} {σ : St} {H : Hp} {p : Addr} {ks : List Int} {ls : List Addr} {xss : List (List Int)} {a n : Int} {Q : VK} (o : Own X.K G0 H0 G ω σ H) (no : NoOw ω) (s1 : σ[1]? = some (some (.ref p))) (s2 : σ[2]? = some (some (.int n))) (T : Tab G H0 H p ks ls xss)
    (h0 : g0 ω = some (.int a)) (hk : ks.length < 1000000) (hz : ∀ xs ∈ xss, xs.length < 1000000)
    (h : ∀ G' H' ls', Own X.K G0 H0 G' ω σ H' → Same G G' → Tab G' H0 H' p (byStep (ks, xss) n a).1 ls' (byStep (ks, xss) n a).2 → Q .non H') :
    tBM X.K "list" rAppend (tDSd (tVar 1) ta (tLst tNil)) (tCons (tVar 2) tNil) σ H Q := by
  have hlen : ks.length = (ls.map V.ref).length := by rw [List.length_map]; exact T.len
  refine ⟨.ref p, s1, p, rfl, .inl ⟨_, .inl T.dict⟩, k2 G0 H0 G ω σ H _ _ o h0 fun u G1 H1 x1 y1 => ?_⟩
  cases (show u = .int a from y1)
  have o1 := o.keep x1
  have T1 := T.keep x1
  refine ⟨by show 0 ≤ sizeLine; exact Nat.zero_le _, fun q hq => ?_⟩
  have hpq : p ≠ q := fun z => by rw [← z, T1.dict] at hq; cases hq
  have x2 := Ext.hide o1.gh hq (.lst [])
  have o2 := o1.keep x2
  have T2 := T1.keep x2
  have vv : valV (kvsOf ks (ls.map V.ref)) (Sum.inl a : Key) = valD ks (ls.map V.ref) a := kvsOf_val hlen a
  refine ⟨kvsOf ks (ls.map V.ref), Sum.inl a, T2.dict, rfl, by rw [kvsOf_len hlen, sizeLine_eq]; omega, fun v hv => ?_, fun hn => ?_⟩
  · -- the key is there
    have ha : a ∈ ks := by
      have := valD_isSome (ks := ks) (xs := ls.map V.ref) (k := a) hlen
      rw [vv] at hv
      rw [hv] at this
      exact of_decide_eq_true this.symm
    obtain ⟨l, xs, n1, n2, n3, n4, n5, n6⟩ := T2.app n ha
    rw [vv, n3] at hv
    cases hv
    refine ⟨.inl ⟨rfl, _, SqL.of n5⟩, .int n, s2, l, _, .int n, rfl, rfl, n5, by rw [List.length_map, sizeLine_eq]; have := hz xs n2; omega, ?_⟩
    rw [show xs.map V.int ++ [V.int n] = (xs ++ [n]).map V.int by rw [List.map_append]; rfl]
    refine h G1 _ ls (o2.free no (T2.gl l n1).1 (T2.gl l n1).2) x1.gg ?_
    unfold byStep
    rw [if_pos ha]; exact n6
  · have ha : a ∉ ks := fun ha => by
      have := valD_isSome (ks := ks) (xs := ls.map V.ref) (k := a) hlen
      rw [vv] at hn
      rw [hn, decide_eq_true ha] at this
      cases this
    obtain ⟨H4, _, e4, T4⟩ := T1.put (l := q) ha hq o1.gh o1.ext.hh hk
    have ep : putK (kvsOf ks (ls.map V.ref)) (Sum.inl a) (.ref q) = kvsOf (ks ++ [a]) ((ls ++ [q]).map V.ref) := by
      rw [kvsOf_put hlen]
      unfold putKs putA
      rw [if_neg ha, if_neg ha, List.map_append]; rfl
    rw [ep, ← e4]
    have gp := T1.gp
    have gq : G1 q = none := o1.gh.free hq
    have h0q : H0 q = none := o1.ext.hh.free hq
    have o4 : Own X.K G0 H0 G1 ω σ H4 := by rw [e4]; exact o2.free no T1.gp T1.hp
    obtain ⟨l, xs, n1, n2, n3, n4, n5, n6⟩ := T4.app n (a := a) (by simp)
    have hq4 : H4 q = some (.lst []) := by rw [e4, upd_ne (Ne.symm hpq)]; exact upd_same
    have lq : l = q := by
      have : valD (ks ++ [a]) ((ls ++ [q]).map V.ref) a = some (.ref q) := by
        rw [List.map_append]
        exact valD_last hlen ha
      rw [this] at n3
      cases n3; rfl
    subst lq
    rw [hq4] at n5
    have xe : xs = [] := by
      cases xs with
      | nil => rfl
      | cons y ys => cases n5
    subst xe
    refine ⟨.inl ⟨rfl, _, SqL.of hq4⟩, .int n, s2, l, _, .int n, rfl, rfl, hq4, by show 0 < sizeLine; rw [sizeLine_eq]; omega, ?_⟩
    refine h G1 _ (ls ++ [l]) (o4.free no gq h0q) x1.gg ?_
    unfold byStep
    rw [if_neg ha]; exact n6
theorem pss_nbs {x1 x2 x3 : Str} {o0 o1 e0 e1 e2 : Expr} {q1 q2 q3 q4 q5 q6 q9 q12 q15 a1 a2 c1 c2 ep ec tp : Pos} {kx} {g0 : FD} (hp : PassesOwn (model X.prog X.w) X.A X.env X.xe) (hc : X.calm = true) (hN : X.N.Nodup)
    (i1 : X.N[1]? = some x1) (i2 : X.N[2]? = some x2) (i3 : X.N[3]? = some x3) (l1 : Loc X.env.scope x1) (l2 : Loc X.env.scope x2) (l3 : Loc X.env.scope x3)
    (f1 : X.fn x1 = true ∨ X.env.scope.names.lookup x1 = some .local) (f2 : X.fn x2 = true ∨ X.env.scope.names.lookup x2 = some .local) (f3 : X.fn x3 = true ∨ X.env.scope.names.lookup x3 = some .local)
    (hge : Gl X "enumerate") (hme : X.mg "enumerate" = none) (h0 : PE X o0 (tVar 0)) (h1 : PE X o1 (tVar 1)) (h2 : PE X e1 (tVar 2)) (h3 : PE X e2 (tVar 1))
    (ha : XD X e0 g0) (hg0 : ∀ (ω : WSt) e, ω[3]? = some (some (.sh (pairD2 e))) → g0 ω = some (.int e.1)) (hl : X.N.length = 4)
    (m2 : M2 X o1 "setdefault" a1 e0 (.List [] q4) c1)
    (s1 : swapsWith (.Dict [] [] q1) (some (.Name x1 q2)) q3.line X.env = pure false)
    (sE : starEach [o0] X.env = [(false, eval o0 X.env)]) (ab : attributeBase (.Call (.Attribute o1 "setdefault" a1) [e0, .List [] q4] [] c1) "append" X.env (eval (.Call (.Attribute o1 "setdefault" a1) [e0, .List [] q4] [] c1) X.env) = eval (.Call (.Attribute o1 "setdefault" a1) [e0, .List [] q4] [] c1) X.env)
    (w1 : ((backTo c2 (starEach [e1] X.env)).all (fun x => !x.1) && (backToKw c2 (keywordEach [] X.env)).all (fun x => x.1.isSome) && decide (([e1] : List Expr).length + ([] : List Keyword).length + (if ([] : List Keyword).isEmpty then 0 else 1) < 30)) = true)
    (z1 : (a2.endLine == c2.line) = true) (t1 : starEach [e1] X.env = (false, eval e1 X.env) :: starEach [] X.env) (p1 : (backTo c2 (starEach [] X.env)).any (·.1) = false)
    (v1 : swapsWith (.Call (.Attribute (.Call (.Attribute o1 "setdefault" a1) [e0, .List [] q4] [] c1) "append" a2) [e1] [] c2) none q9.line X.env = pure false)
    (pg : ∀ t, PGs X [.Name x2 q5, .Name x3 q6] t → PG X (.Tuple [.Name x2 q5, .Name x3 q6] kx tp) (gTup X.K 2 t))
    (y1 : ∀ x, foldedSetIterable (.Call (.Name "enumerate" ep) [o0] [] ec) X.env x = pure x) {vs : List V} {H : Hp} {Q : VK} {E : XK} (sp : spT X.K vs H Q E) :
    ∃ t, PSs X [.Assign [.Name x1 q2] (.Dict [] [] q1) q3, .For (.Tuple [.Name x2 q5, .Name x3 q6] kx tp) (.Call (.Name "enumerate" ep) [o0] [] ec) [.Expr (.Call (.Attribute (.Call (.Attribute o1 "setdefault" a1) [e0, .List [] q4] [] c1) "append" a2) [e1] [] c2) q9] [] q12, .Return (some e2) q15] t ∧
      t { nx := fun _ H' => Q .non H', rt := Q } (L2.start X.N vs) H := by
  obtain ⟨ta, k1, k2⟩ := ha
  refine ⟨_, pss_cons (ps_set hN i1 l1 pe_dnewK s1 f1) (pss_cons (ps_for hp hc (pi_enum hge hme (pa_cons h0 pa_nil sE) sE) (pg _ (pgs_cons (pg_name hN i2 l2 f2) (pgs_cons (pg_name hN i3 l3 f3) pgs_nil)))
    (pss_one (ps_expr (pe_bm PySem.F.plainAttrs_list PySem.F.slot_list_append PySem.F.type_list_append mt_append (pe_dsd h1 k1 (pe_lst pa_nil) m2) (pa_cons h2 pa_nil t1) ab w1 z1 t1 p1) v1)) y1) (pss_one (ps_ret h3))), ?_⟩
  obtain ⟨G, as, sg, rp, hlen, fin⟩ := sp
  obtain ⟨v0, rfl, A0, vs0, rfl, r1, r2⟩ := rp.one
  have hl0 : as.length = vs0.length := by have := r2.len; rw [List.length_map] at this; exact this
  have hst : L2.start X.N [V.ref A0] = [some (.ref A0), none, none, none] := by
    unfold L2.start; rw [hl]; rfl
  rw [hst]
  intro p hp0
  have no0 : NoOw [some (W.sh (.lst (as.map pairD2))), none, none, none] := noOw4 (d0 := some (.lst (as.map pairD2))) (d2 := none) (d3 := none)
  have o0 : Own X.K G (fr H) G [some (W.sh (.lst (as.map pairD2))), none, none, none] [some (.ref A0), none, none, none] H := by
    refine ⟨Ext.refl sg, rfl, fun i d h => ?_, fun i ds h => absurd h (no0.ow i ds), fun i j ds es l h => absurd h (no0.ow i ds), fun i ks ds h => absurd h (no0.od i ks ds), PwOk.no no0.pw⟩
    match i, h with
    | 0, h => cases h; exact ⟨_, rfl, A0, vs0, rfl, r1, r2⟩
    | 1, h => cases h
    | 2, h => cases h
    | 3, h => cases h
    | i + 4, h => simp at h
  have o1 : Own X.K G (fr H) G [some (W.sh (.lst (as.map pairD2))), none, none, none] [some (.ref A0), some (.ref p), none, none] (upd H p (.dK [])) := (o0.free no0 (sg.free hp0) hp0).other (i := 1) no0 fun w z => by cases z
  have T0 : Tab G H (upd H p (.dK [])) p (byS as 0).1 [] (byS as 0).2 := ⟨upd_same, sg.free hp0, hp0, rfl, rfl, fun j l xs h => (by simp at h), fun l h => (by cases h), List.nodup_nil⟩
  refine ⟨.ref A0, rfl, A0, vs0, rfl, SqL.of (o1.gh _ _ r1), fun i m σ' H' => ∃ (G' : Hp) (ls : List Addr) (y2 y3 : Option D), Own X.K G (fr H) G' [some (W.sh (.lst (as.map pairD2))), none, y2.map W.sh, y3.map W.sh] σ' H' ∧ Same G G' ∧ σ'[1]? = some (some (.ref p)) ∧ Tab G' H H' p (byS as i).1 ls (byS as i).2 ∧ i ≤ as.length ∧ m = as.length - i,
    ⟨_, G, [], none, none, o1, Same.refl _, rfl, T0, Nat.zero_le _, rfl⟩, ?_⟩
  rintro i m σ' H' ⟨G', ls, y2, y3, o2, g2, s12, T2, hi, rfl⟩
  have hq := o2.gh _ _ (g2 _ _ r1)
  by_cases hlt : i < as.length
  · refine .inr ⟨⟨vs0, vs0[i]'(by omega), SqL.of hq, List.getElem?_eq_getElem _⟩, fun σ3 H3 => ∃ (G' : Hp) (ls : List Addr) (y2 y3 : Option D), Own X.K G (fr H) G' [some (W.sh (.lst (as.map pairD2))), none, y2.map W.sh, y3.map W.sh] σ3 H3 ∧ Same G G' ∧ σ3[1]? = some (some (.ref p)) ∧ Tab G' H H3 p (byS as (i + 1)).1 ls (byS as (i + 1)).2,
      fun σ3 H3 ⟨G3, ls3, z2, z3, b1, b2, b3, b4⟩ => ⟨as.length - (i + 1), by omega, G3, ls3, z2, z3, b1, b2, b3, b4, hlt, rfl⟩, fun x H3 hy => ?_⟩
    obtain ⟨t, w1', ht, rfl, rfl, hy⟩ := hy
    have hy := hy _ (SqL.of hq)
    have x3 := Ext.hide o2.gh ht (.tup [.int i, w1'])
    have o3 := o2.keep x3
    have T3 := T2.keep x3
    refine ⟨t, _, rfl, SqT.of upd_same, rfl, .int i, _, rfl, ?_⟩
    refine ⟨w1', _, rfl, rfl, ?_⟩
    obtain ⟨u, e1, e2⟩ := r2.get (i := i) (d := pairD2 as[i]) (by rw [List.getElem?_map, List.getElem?_eq_getElem hlt]; rfl)
    rw [hy] at e1
    cases e1
    have o4 := (o3.setSh (i := 2) (d := .int i) (v := .int i) rfl).setSh (i := 3) (d := pairD2 as[i]) (v := w1') (e2.mono g2)
    have o4' : Own X.K G (fr H) G' [some (W.sh (.lst (as.map pairD2))), none, (some (D.int i)).map W.sh, (some (pairD2 as[i])).map W.sh] ((σ'.set 2 (some (.int i))).set 3 (some w1')) (upd H' t (.tup [.int i, w1'])) := o4
    have hl4 : σ'.length = 4 := o2.len.symm
    have bd := by_bd as i
    refine by_turn k2 o4' (noOw4 (d0 := some (.lst (as.map pairD2))) (d2 := some _) (d3 := some _)) (by rw [List.getElem?_set_ne (by decide), List.getElem?_set_ne (by decide)]; exact s12) (by rw [List.getElem?_set_ne (by decide)]; exact List.getElem?_set_self (by rw [hl4]; decide)) T3 (hg0 _ as[i] rfl) (by omega) (fun xs hx => by have := bd.2 xs hx; omega) fun G5 H5 ls5 o5 g5 T5 => ?_
    have eb : byS as (i + 1) = byStep (byS as i) i as[i].1 := by
      show (match as[i]? with | some a => byStep (byS as i) i a.1 | none => byS as i) = _
      rw [List.getElem?_eq_getElem hlt]
    refine ⟨G5, ls5, _, _, o5, g2.trans g5, by rw [List.getElem?_set_ne (by decide), List.getElem?_set_ne (by decide)]; exact s12, ?_⟩
    rw [eb]; exact T5
  · have en : i = as.length := by omega
    subst en
    refine .inl ⟨⟨vs0, SqL.of hq, List.getElem?_eq_none (by omega)⟩, .ref p, s12, fin G' p ls H' ?_ T2⟩
    exact ⟨g2, o2.ext.gh, o2.ext.hh, o2.ext.new⟩
end
end Hk
set_option maxRecDepth 100000
namespace Hk
open PySem L2
def dropA : List Int → List (List Int) → Int → List (List Int)
  | k :: ks, x :: xs, a => if k = a then x.dropLast :: xs else x :: dropA ks xs a
  | _, xs, _ => xs
def getT (ks : List Int) (xss : List (List Int)) (h : Int) : List Int := (valD ks xss h).getD []
theorem val_ix2 : ∀ {ks : List Int} {ls : List Addr} {a : Int}, ks.length = ls.length → a ∈ ks → ∃ (j : Nat) (l : Addr), ls[j]? = some l ∧ valD ks (ls.map V.ref) a = some (.ref l) ∧ ∀ (xss : List (List Int)), xss.length = ls.length → ∃ xs, xss[j]? = some xs ∧ valD ks xss a = some xs ∧ dropA ks xss a = xss.set j xs.dropLast
  | [], _, _, _, h => by simp at h
  | _ :: _, [], _, h, _ => by simp at h
  | k :: ks, l :: ls, a, h, ha => by
    by_cases z : k = a
    · refine ⟨0, l, rfl, if_pos z, fun xss hx => ?_⟩
      cases xss with
      | nil => simp at hx
      | cons x xs => exact ⟨x, rfl, if_pos z, if_pos z⟩
    · have ha' : a ∈ ks := (List.mem_cons.mp ha).resolve_left fun e => z e.symm
      obtain ⟨j, l', e2, e3, e4⟩ := val_ix2 (ks := ks) (ls := ls) (by simpa using h) ha'
      refine ⟨j + 1, l', e2, ?_, fun xss hx => ?_⟩
      · show (if k = a then _ else _) = _
        rw [if_neg z]; exact e3
      · cases xss with
        | nil => simp at hx
        | cons x xs =>
          obtain ⟨y, h1, h2, h3⟩ := e4 xs (by simpa using hx)
          refine ⟨y, h1, ?_, ?_⟩
          · show (if k = a then _ else _) = _
            rw [if_neg z]; exact h2
          · show (if k = a then _ else x :: dropA ks xs a) = _
            rw [if_neg z, h3]; rfl
theorem Tab.pop {G H0 H : Hp} {p : Addr} {ks : List Int} {ls : List Addr} {xss : List (List Int)} (T : Tab G H0 H p ks ls xss) {a : Int} (ha : a ∈ ks) :
    ∃ (l : Addr) (xs : List Int), l ∈ ls ∧ valD ks xss a = some xs ∧ DGet H p (.int a) (some (.ref l)) ∧ H l = some (.lst (xs.map V.int)) ∧ Tab G H0 (upd H l (.lst (xs.dropLast.map V.int))) p ks ls (dropA ks xss a) := by
  obtain ⟨j, l, e2, e3, e4⟩ := val_ix2 T.len ha
  obtain ⟨xs, e5, e7, e6⟩ := e4 xss T.len2.symm
  have hl : l ∈ ls := List.mem_of_getElem? e2
  have hlp : p ≠ l := fun z => T.pl (z ▸ hl)
  have g := DGet.k (k := (Sum.inl a : Key)) T.dict
  rw [kvsOf_val (by rw [List.length_map]; exact T.len), e3] at g
  refine ⟨l, xs, hl, e7, g, T.lst j l xs e2 e5, ?_⟩
  rw [e6]
  refine ⟨by rw [upd_ne hlp]; exact T.dict, T.gp, T.hp, T.len, by rw [List.length_set]; exact T.len2, fun i m ys h1 h2 => ?_, T.gl, T.nd⟩
  rcases get_set h2 with ⟨rfl, _, rfl⟩ | ⟨ne, h3⟩
  · rw [e2] at h1
    cases h1
    exact upd_same
  · have hm : m ≠ l := fun z => by
      subst z
      obtain ⟨i1, i2⟩ := List.getElem?_eq_some_iff.mp h1
      obtain ⟨j1, j2⟩ := List.getElem?_eq_some_iff.mp e2
      exact ne ((List.getElem_inj T.nd).mp (j2.trans i2.symm))
    rw [upd_ne hm]
    exact T.lst i m ys h1 h3
theorem Tab.beside {G H0 H : Hp} {p q : Addr} {ob : HO} {ks : List Int} {ls : List Addr} {xss : List (List Int)} (T : Tab G H0 H p ks ls xss) (h1 : q ≠ p) (h2 : q ∉ ls) : Tab G H0 (upd H q ob) p ks ls xss :=
  ⟨by rw [upd_ne (Ne.symm h1)]; exact T.dict, T.gp, T.hp, T.len, T.len2, fun j l xs e1 e2 => by
    have hn : l ≠ q := fun z => h2 (by rw [← z]; exact List.mem_of_getElem? e1)
    rw [upd_ne hn]; exact T.lst j l xs e1 e2, T.gl, T.nd⟩
def rfRun (as : List (Int × Int)) (ks : List Int) : Nat → List (List Int) → List Int → List Int → Int → Option (List Int)
  | 0, _, _, _, _ => none
  | n + 1, xss, T, B, h => match (getT ks xss h).getLast? with
    | some k => if 0 ≤ k ∧ k < as.length ∧ T.length < 1000000 then rfRun as ks n (dropA ks xss h) (T ++ [k]) B (as.getD k.toNat (0, 0)).2 else none
    | none => match T.getLast? with
      | some k => if 0 ≤ k ∧ k < as.length ∧ B.length < 1000000 then rfRun as ks n xss T.dropLast (B ++ [k]) (as.getD k.toNat (0, 0)).1 else none
      | none => some B.reverse
structure RfS (K : PySem.W.Frag) (G0 : Hp) (H0 : Fr) (G : Hp) (s : Int) (as : List (Int × Int)) (p t b : Addr) (ks : List Int) (ls : List Addr) (xss : List (List Int)) (T B : List Int) (h : Int) (y : Option D) (σ : St) (H : Hp) : Prop where
  o : Own K G0 H0 G [some (W.sh (.int s)), some (.sh (.lst (as.map pairD2))), none, none, none, some (.sh (.int h)), y.map W.sh] σ H
  s2 : σ[2]? = some (some (.ref p))
  s3 : σ[3]? = some (some (.ref t))
  s4 : σ[4]? = some (some (.ref b))
  s5 : σ[5]? = some (some (.int h))
  tab : Tab G H0 H p ks ls xss
  ht : H t = some (.lst (T.map V.int))
  gt : G t = none
  ht0 : H0 t = none
  hb : H b = some (.lst (B.map V.int))
  gb : G b = none
  hb0 : H0 b = none
  tb : t ≠ b
  tl : t ∉ ls
  bl : b ∉ ls
theorem noOw7 {d0 d1 d5 d6 : Option D} : NoOw [d0.map W.sh, d1.map W.sh, none, none, none, d5.map W.sh, d6.map W.sh] := by
  intro i w h
  match i, h with
  | 0, h => cases d0 <;> cases h; exact ⟨_, rfl⟩
  | 1, h => cases d1 <;> cases h; exact ⟨_, rfl⟩
  | 2, h => cases h
  | 3, h => cases h
  | 4, h => cases h
  | 5, h => cases d5 <;> cases h; exact ⟨_, rfl⟩
  | 6, h => cases d6 <;> cases h; exact ⟨_, rfl⟩
  | i + 7, h => simp at h
section
variable {K : PySem.W.Frag} {G0 : Hp} {H0 : Fr} {G : Hp} {s : Int} {as : List (Int × Int)} {p t b : Addr} {ks : List Int} {ls : List Addr} {xss : List (List Int)} {T B : List Int} {h : Int} {y : Option D} {σ : St} {H : Hp}
theorem RfS.no (S : RfS K G0 H0 G s as p t b ks ls xss T B h y σ H) : NoOw [some (W.sh (.int s)), some (.sh (.lst (as.map pairD2))), none, none, none, some (.sh (.int h)), y.map W.sh] :=
  noOw7 (d0 := some (.int s)) (d1 := some (.lst (as.map pairD2))) (d5 := some (.int h)) (d6 := y)
theorem RfS.keep {G' H' : Hp} (S : RfS K G0 H0 G s as p t b ks ls xss T B h y σ H) (x : Ext G H G' H') : RfS K G0 H0 G' s as p t b ks ls xss T B h y σ H' :=
  ⟨S.o.keep x, S.s2, S.s3, S.s4, S.s5, S.tab.keep x, x.hh _ _ S.ht, x.new t S.gt (by rw [S.ht]; exact fun z => by cases z), S.ht0, x.hh _ _ S.hb, x.new b S.gb (by rw [S.hb]; exact fun z => by cases z), S.hb0, S.tb, S.tl, S.bl⟩
theorem RfS.tp (S : RfS K G0 H0 G s as p t b ks ls xss T B h y σ H) : t ≠ p ∧ b ≠ p := by
  have h1 := S.ht
  have h2 := S.hb
  have h3 := S.tab.dict
  refine ⟨fun z => ?_, fun z => ?_⟩
  · rw [z, h3] at h1; cases h1
  · rw [z, h3] at h2; cases h2
theorem RfS.setT {T' : List Int} (S : RfS K G0 H0 G s as p t b ks ls xss T B h y σ H) : RfS K G0 H0 G s as p t b ks ls xss T' B h y σ (upd H t (.lst (T'.map V.int))) :=
  ⟨S.o.free S.no S.gt S.ht0, S.s2, S.s3, S.s4, S.s5, S.tab.beside S.tp.1 S.tl, upd_same, S.gt, S.ht0, by rw [upd_ne (Ne.symm S.tb)]; exact S.hb, S.gb, S.hb0, S.tb, S.tl, S.bl⟩
theorem RfS.setB {B' : List Int} (S : RfS K G0 H0 G s as p t b ks ls xss T B h y σ H) : RfS K G0 H0 G s as p t b ks ls xss T B' h y σ (upd H b (.lst (B'.map V.int))) :=
  ⟨S.o.free S.no S.gb S.hb0, S.s2, S.s3, S.s4, S.s5, S.tab.beside S.tp.2 S.bl, by rw [upd_ne S.tb]; exact S.ht, S.gt, S.ht0, upd_same, S.gb, S.hb0, S.tb, S.tl, S.bl⟩
theorem RfS.len (S : RfS K G0 H0 G s as p t b ks ls xss T B h y σ H) : σ.length = 7 := S.o.len.symm
theorem RfS.setN (S : RfS K G0 H0 G s as p t b ks ls xss T B h y σ H) (k : Int) : RfS K G0 H0 G s as p t b ks ls xss T B h (some (.int k)) (σ.set 6 (some (.int k))) H :=
  ⟨S.o.setSh (i := 6) (d := .int k) (v := .int k) rfl, by rw [List.getElem?_set_ne (by decide)]; exact S.s2, by rw [List.getElem?_set_ne (by decide)]; exact S.s3, by rw [List.getElem?_set_ne (by decide)]; exact S.s4, by rw [List.getElem?_set_ne (by decide)]; exact S.s5, S.tab, S.ht, S.gt, S.ht0, S.hb, S.gb, S.hb0, S.tb, S.tl, S.bl⟩
theorem RfS.setH (S : RfS K G0 H0 G s as p t b ks ls xss T B h y σ H) (k : Int) : RfS K G0 H0 G s as p t b ks ls xss T B k y (σ.set 5 (some (.int k))) H :=
  ⟨S.o.setSh (i := 5) (d := .int k) (v := .int k) rfl, by rw [List.getElem?_set_ne (by decide)]; exact S.s2, by rw [List.getElem?_set_ne (by decide)]; exact S.s3, by rw [List.getElem?_set_ne (by decide)]; exact S.s4, List.getElem?_set_self (by rw [S.len]; decide), S.tab, S.ht, S.gt, S.ht0, S.hb, S.gb, S.hb0, S.tb, S.tl, S.bl⟩
theorem RfS.popW (S : RfS K G0 H0 G s as p t b ks ls xss T B h y σ H) {l : Addr} {H' : HO} (hl : l ∈ ls) {xss' : List (List Int)} (T' : Tab G H0 (upd H l H') p ks ls xss') : RfS K G0 H0 G s as p t b ks ls xss' T B h y σ (upd H l H') :=
  have n1 : t ≠ l := fun z => S.tl (by rw [z]; exact hl)
  have n2 : b ≠ l := fun z => S.bl (by rw [z]; exact hl)
  ⟨S.o.free S.no (S.tab.gl l hl).1 (S.tab.gl l hl).2, S.s2, S.s3, S.s4, S.s5, T', by rw [upd_ne n1]; exact S.ht, S.gt, S.ht0, by rw [upd_ne n2]; exact S.hb, S.gb, S.hb0, S.tb, S.tl, S.bl⟩
theorem rf_get (S : RfS K G0 H0 G s as p t b ks ls xss T B h y σ H) {Q : Bool → Hp → Prop} (q : ∀ H', RfS K G0 H0 G s as p t b ks ls xss T B h y σ H' → Q (!(getT ks xss h).isEmpty) H') :
    (tDGet2 (tVar 2) (tVar 5) (tLst tNil)) σ H fun x H' => ∃ k, TruV K x H' k ∧ Q k H' := by
  refine ⟨.ref p, S.s2, p, rfl, .inl ⟨_, .inl S.tab.dict⟩, .int h, S.s5, by show 0 ≤ sizeLine; exact Nat.zero_le _, fun r hr => ?_⟩
  have S1 := S.keep (Ext.hide S.o.gh hr (.lst []))
  have hlen : ks.length = (ls.map V.ref).length := by rw [List.length_map]; exact S.tab.len
  have g := DGet.k (k := (Sum.inl h : Key)) S1.tab.dict
  rw [kvsOf_val hlen] at g
  refine ⟨_, g, ?_⟩
  by_cases hk : h ∈ ks
  · obtain ⟨l, xs, e1, e2, e3, e4, _⟩ := S1.tab.pop hk
    have ev : valD ks (ls.map V.ref) h = some (.ref l) := by
      obtain ⟨j, l', f2, f3, f4⟩ := val_ix2 S.tab.len hk
      obtain ⟨xs', f5, f7, f6⟩ := f4 xss S.tab.len2.symm
      have g2 := DGet.k (k := (Sum.inl h : Key)) S1.tab.dict
      rw [kvsOf_val hlen, f3] at g2
      rcases e3 with ⟨kvs, k, d1, d2, d3⟩ | ⟨kvs, k, b, d1, d2, _⟩
      · rcases d1 with d1 | ⟨ob, d1⟩
        · rw [S1.tab.dict] at d1
          cases d1
          cases k with
          | inl i => cases d2; rw [kvsOf_val hlen] at d3; exact d3.symm
          | inr x => cases d2
        · rw [S1.tab.dict] at d1; cases d1
      · cases d2
    rw [ev]
    refine ⟨!xs.isEmpty, ?_, ?_⟩
    · refine .inl ⟨_, SqL.of e4, ?_⟩
      rw [List.isEmpty_map]
    · have : getT ks xss h = xs := by unfold getT; rw [e2]; rfl
      rw [← this]; exact q _ S1
  · have ev : valD ks (ls.map V.ref) h = none := by
      have := valD_isSome (ks := ks) (xs := ls.map V.ref) (k := h) hlen
      rw [decide_eq_false hk] at this
      cases z : valD ks (ls.map V.ref) h with
      | none => rfl
      | some v => rw [z] at this; cases this
    have ev2 : getT ks xss h = [] := by
      have := valD_isSome (ks := ks) (xs := xss) (k := h) (by rw [S.tab.len]; exact S.tab.len2)
      rw [decide_eq_false hk] at this
      unfold getT
      cases z : valD ks xss h with
      | none => rfl
      | some v => rw [z] at this; cases this
    rw [ev]
    refine ⟨false, ?_, by have := q _ S1; rw [ev2] at this; exact this⟩
    exact .inl ⟨_, SqL.of upd_same, rfl⟩
end
end Hk
set_option maxRecDepth 100000
namespace Hk
open PySem L2
def trT (K : PySem.W.Frag) (t : TE) : TT := fun σ H Q => t σ H fun x H' => ∃ k, TruV K x H' k ∧ Q k H'
def rfGet : TE := tDGet2 (tVar 2) (tVar 5) (tLst tNil)
def rfPush (K : PySem.W.Frag) (td : TE) : TS := tSeq (tAsg (tBM0 K "list" rPop (tDGet (tVar 2) (tVar 5))) (gName 6)) (tSeq (tDrop (tBM K "list" rAppend (tVar 3) (tCons (tVar 6) tNil))) (tAsg td (gName 5)))
def rfBack (K : PySem.W.Frag) (td : TE) : TS := tSeq (tAsg (tBM0 K "list" rPop (tVar 3)) (gName 6)) (tSeq (tDrop (tBM K "list" rAppend (tVar 4) (tCons (tVar 6) tNil))) (tAsg td (gName 5)))
section
variable {K : PySem.W.Frag} {G0 : Hp} {H0 : Fr} {G : Hp} {s : Int} {as : List (Int × Int)} {p t b : Addr} {ks : List Int} {ls : List Addr} {xss : List (List Int)} {T B : List Int} {h : Int} {y : Option D} {σ : St} {H : Hp}
theorem last_ints {xs : List Int} {k : Int} (e : xs.getLast? = some k) : (xs.map V.int)[(xs.map V.int).length - 1]? = some (.int k) ∧ (xs.map V.int).dropLast = xs.dropLast.map V.int := by
  rw [List.getLast?_eq_getElem?] at e
  refine ⟨by rw [List.length_map, List.getElem?_map, e]; rfl, by rw [List.map_dropLast]⟩
theorem RfS.s6 (S : RfS K G0 H0 G s as p t b ks ls xss T B h y σ H) (k : Int) : (σ.set 6 (some (.int k)))[6]? = some (some (.int k)) := List.getElem?_set_self (by rw [S.len]; decide)
theorem rf_push {td : TE} {f : FD} (hd : SimD K td f) (hf : ∀ (ω : WSt) (k : Int), ω[1]? = some (some (.sh (.lst (as.map pairD2)))) → ω[6]? = some (some (.sh (.int k))) → 0 ≤ k → k < as.length → f ω = some (.int (as.getD k.toNat (0, 0)).2))
    (S : RfS K G0 H0 G s as p t b ks ls xss T B h y σ H) {k : Int} (e : (getT ks xss h).getLast? = some k) (k0 : 0 ≤ k) (k1 : k < as.length) (hT : T.length < 1000000) {D0 : Ends}
    (q : ∀ G' σ' H', RfS K G0 H0 G' s as p t b ks ls (dropA ks xss h) (T ++ [k]) B (as.getD k.toNat (0, 0)).2 (some (.int k)) σ' H' → D0.nx σ' H') : rfPush K td D0 σ H := by
  have hk : h ∈ ks := by
    have := valD_isSome (ks := ks) (xs := xss) (k := h) (by rw [S.tab.len]; exact S.tab.len2)
    unfold getT at e
    cases z : valD ks xss h with
    | none => rw [z] at e; cases e
    | some v => rw [z] at this; exact of_decide_eq_true this.symm
  obtain ⟨l, xs, e1, e2, e3, e4, e5⟩ := S.tab.pop hk
  have ex : xs.getLast? = some k := by unfold getT at e; rw [e2] at e; exact e
  obtain ⟨m1, m2⟩ := last_ints ex
  refine ⟨.ref p, S.s2, .int h, S.s5, p, .ref l, rfl, e3, .inl ⟨rfl, _, SqL.of e4⟩, l, _, .int k, rfl, rfl, e4, m1, ?_⟩
  rw [m2]
  have S1 := (S.popW e1 e5).setN k
  show tSeq (tDrop (tBM K "list" rAppend (tVar 3) (tCons (tVar 6) tNil))) (tAsg td (gName 5)) D0 (σ.set 6 (some (.int k))) _
  refine ⟨.ref t, S1.s3, .inl ⟨rfl, _, SqL.of S1.ht⟩, .int k, S.s6 k, t, _, .int k, rfl, rfl, S1.ht, by rw [List.length_map, sizeLine_eq]; omega, ?_⟩
  rw [show T.map V.int ++ [V.int k] = (T ++ [k]).map V.int by rw [List.map_append]; rfl]
  have S2 := S1.setT (T' := T ++ [k])
  show td _ _ _
  refine hd G0 H0 G _ _ _ _ _ S2.o (hf _ k rfl rfl k0 k1) fun u G1 H1 x1 y1 => ?_
  cases (show u = .int _ from y1)
  exact q G1 _ H1 ((S2.keep x1).setH _)
theorem rf_back {td : TE} {f : FD} (hd : SimD K td f) (hf : ∀ (ω : WSt) (k : Int), ω[1]? = some (some (.sh (.lst (as.map pairD2)))) → ω[6]? = some (some (.sh (.int k))) → 0 ≤ k → k < as.length → f ω = some (.int (as.getD k.toNat (0, 0)).1))
    (S : RfS K G0 H0 G s as p t b ks ls xss T B h y σ H) {k : Int} (e : T.getLast? = some k) (k0 : 0 ≤ k) (k1 : k < as.length) (hB : B.length < 1000000) {D0 : Ends}
    (q : ∀ G' σ' H', RfS K G0 H0 G' s as p t b ks ls xss T.dropLast (B ++ [k]) (as.getD k.toNat (0, 0)).1 (some (.int k)) σ' H' → D0.nx σ' H') : rfBack K td D0 σ H := by
  obtain ⟨m1, m2⟩ := last_ints e
  refine ⟨.ref t, S.s3, .inl ⟨rfl, _, SqL.of S.ht⟩, t, _, .int k, rfl, rfl, S.ht, m1, ?_⟩
  rw [m2]
  have S1 := (S.setT (T' := T.dropLast)).setN k
  show tSeq (tDrop (tBM K "list" rAppend (tVar 4) (tCons (tVar 6) tNil))) (tAsg td (gName 5)) D0 (σ.set 6 (some (.int k))) _
  refine ⟨.ref b, S1.s4, .inl ⟨rfl, _, SqL.of S1.hb⟩, .int k, S.s6 k, b, _, .int k, rfl, rfl, S1.hb, by rw [List.length_map, sizeLine_eq]; omega, ?_⟩
  rw [show B.map V.int ++ [V.int k] = (B ++ [k]).map V.int by rw [List.map_append]; rfl]
  have S2 := S1.setB (B' := B ++ [k])
  show td _ _ _
  refine hd G0 H0 G _ _ _ _ _ S2.o (hf _ k rfl rfl k0 k1) fun u G1 H1 x1 y1 => ?_
  cases (show u = .int _ from y1)
  exact q G1 _ H1 ((S2.keep x1).setH _)
end
def tRF (K : PySem.W.Frag) (E : XK) (td1 td0 : TE) : TS :=
  tSeq (tAsg (tCall (spT K) [] E (tCons (tVar 1) tNil)) (gName 2)) (tSeq (tAsg (tLst tNil) (gName 3)) (tSeq (tAsg (tLst tNil) (gName 4)) (tSeq (tAsg (tVar 0) (gName 5))
    (tSeq (tWhile (tOr (trT K (tVar 3)) (trT K rfGet)) (tIfS (trT K rfGet) (rfPush K td1) (rfBack K td0))) (tRet (tCB rLR (tCons (tVar 4) tNil)))))))
def roundM (s : Int) (as : List (Int × Int)) : Option (List Int) := if as.length ≤ 3000 then rfRun as (byS as as.length).1 100000 (byS as as.length).2 [] [] s else none
def mRF : List D → Option O
  | [.int s, .lst ds] => (pairsOf ds).bind fun as => (roundM s as).map fun row => .fr (row.map D.int)
  | _ => none
theorem rf_ok {K : PySem.W.Frag} {E E' : XK} {td1 td0 : TE} {f1 f0 : FD} (h1 : SimD K td1 f1) (h0 : SimD K td0 f0)
    (hf1 : ∀ (as : List (Int × Int)) (ω : WSt) (k : Int), ω[1]? = some (some (.sh (.lst (as.map pairD2)))) → ω[6]? = some (some (.sh (.int k))) → 0 ≤ k → k < as.length → f1 ω = some (.int (as.getD k.toNat (0, 0)).2))
    (hf0 : ∀ (as : List (Int × Int)) (ω : WSt) (k : Int), ω[1]? = some (some (.sh (.lst (as.map pairD2)))) → ω[6]? = some (some (.sh (.int k))) → 0 ≤ k → k < as.length → f0 ω = some (.int (as.getD k.toNat (0, 0)).1))
    {N : List Str} (hN : N.length = 7) {vs : List V} {H : Hp} {Q : VK} (sp : spD K 2 mRF vs H Q E') : tRF K E td1 td0 { nx := fun _ H' => Q .non H', rt := Q } (L2.start N vs) H := by
  obtain ⟨G, ds, r, e, hl, sg, rp, fin⟩ := sp
  match ds, e with
  | [.int s, .lst ds], e =>
    obtain ⟨as, ea, e⟩ := bnd e
    obtain ⟨row, er, e⟩ := mpd e
    subst e
    have hds := pairsOf_of ea
    subst hds
    clear ea
    unfold roundM at er
    by_cases hlen : as.length ≤ 3000
    case neg => rw [if_neg hlen] at er; cases er
    rw [if_pos hlen] at er
    obtain ⟨v0, v1, rfl, r0, r1⟩ := rp.two
    cases (show v0 = .int s from r0)
    have hst : L2.start N [V.int s, v1] = [some (.int s), some v1, none, none, none, none, none] := by
      unfold L2.start; rw [hN]; rfl
    rw [hst]
    have no0 : NoOw [some (W.sh (.int s)), some (.sh (.lst (as.map pairD2))), none, none, none, none, none] := noOw7 (d0 := some (.int s)) (d1 := some (.lst (as.map pairD2))) (d5 := none) (d6 := none)
    have o0 : Own K G (fr H) G [some (W.sh (.int s)), some (.sh (.lst (as.map pairD2))), none, none, none, none, none] [some (.int s), some v1, none, none, none, none, none] H := by
      refine ⟨Ext.refl sg, rfl, fun i d h => ?_, fun i ds h => absurd h (no0.ow i ds), fun i j ds es l h => absurd h (no0.ow i ds), fun i ks ds h => absurd h (no0.od i ks ds), PwOk.no no0.pw⟩
      match i, h with
      | 0, h => cases h; exact ⟨_, rfl, rfl⟩
      | 1, h => cases h; exact ⟨_, rfl, r1⟩
      | 2, h => cases h
      | 3, h => cases h
      | 4, h => cases h
      | 5, h => cases h
      | 6, h => cases h
      | i + 7, h => simp at h
    refine ⟨v1, rfl, G, as, sg, Reps.cons r1 Reps.nil, hlen, fun G1 p ls H1 x1 T1 => ?_⟩
    have o1 := (o0.keep x1).other (i := 2) (v := some (.ref p)) no0 fun w z => by cases z
    refine ⟨by show 0 ≤ sizeLine; exact Nat.zero_le _, fun t ht => ?_⟩
    have x2 := Ext.hide o1.gh ht (.lst [])
    have o2 := (o1.keep x2).other (i := 3) (v := some (.ref t)) no0 fun w z => by cases z
    have T2 := T1.keep x2
    refine ⟨by show 0 ≤ sizeLine; exact Nat.zero_le _, fun b hb => ?_⟩
    have x3 := Ext.hide o2.gh hb (.lst [])
    have o3 := (o2.keep x3).other (i := 4) (v := some (.ref b)) no0 fun w z => by cases z
    have T3 := T2.keep x3
    have tb : t ≠ b := fun z => by rw [← z, upd_same] at hb; cases hb
    have tl : t ∉ ls := fun z => by
      obtain ⟨xs, w⟩ := T1.inn z
      rw [ht] at w; cases w
    have bl : b ∉ ls := fun z => by
      obtain ⟨xs, w⟩ := T2.inn z
      rw [hb] at w; cases w
    have o4 := o3.setSh (i := 5) (d := .int s) (v := .int s) rfl
    have S0 : RfS K G (fr H) G1 s as p t b (byS as as.length).1 ls (byS as as.length).2 [] [] s none [some (.int s), some v1, some (.ref p), some (.ref t), some (.ref b), some (.int s), none] (upd (upd H1 t (.lst [])) b (.lst [])) :=
      ⟨o4, rfl, rfl, rfl, rfl, T3, by rw [upd_ne tb]; exact upd_same, o1.gh.free ht, o1.ext.hh.free ht, upd_same, o2.gh.free hb, o2.ext.hh.free hb, tb, tl, bl⟩
    refine ⟨.int s, rfl, ?_⟩
    generalize (byS as as.length).1 = ks at S0 er
    generalize (byS as as.length).2 = xss at S0 er
    refine ⟨fun m σ' H' => ∃ G' xss T B h y, RfS K G (fr H) G' s as p t b ks ls xss T B h y σ' H' ∧ rfRun as ks m xss T B h = some row, ⟨100000, G1, xss, [], [], s, none, S0, er⟩, ?_⟩
    rintro m σ' H' ⟨G', xss, T, B, h, y, S, run⟩
    cases m with
    | zero => cases run
    | succ n =>
      have body : ∀ Hx, RfS K G (fr H) G' s as p t b ks ls xss T B h y σ' Hx → (T ≠ [] ∨ getT ks xss h ≠ []) → ∀ D0 : Ends, ∃ NN : St → Hp → Prop, (∀ σ2 H2, NN σ2 H2 → ∃ m', m' < n + 1 ∧ ∃ G' xss T B h y, RfS K G (fr H) G' s as p t b ks ls xss T B h y σ2 H2 ∧ rfRun as ks m' xss T B h = some row) ∧ tIfS (trT K rfGet) (rfPush K td1) (rfBack K td0) { D0 with nx := NN, ct := NN, bk := D0.nx } σ' Hx := by
        intro Hx Sx hne D0
        refine ⟨fun σ2 H2 => ∃ G' xss T B h y, RfS K G (fr H) G' s as p t b ks ls xss T B h y σ2 H2 ∧ rfRun as ks n xss T B h = some row, fun σ2 H2 z => ⟨n, Nat.lt_succ_self n, z⟩, ?_⟩
        refine rf_get Sx fun Hy Sy => ?_
        unfold rfRun at run
        cases eg : (getT ks xss h).getLast? with
        | some k =>
          rw [eg] at run
          have run : (if 0 ≤ k ∧ k < as.length ∧ T.length < 1000000 then rfRun as ks n (dropA ks xss h) (T ++ [k]) B (as.getD k.toNat (0, 0)).2 else none) = some row := run
          have hne : (getT ks xss h).isEmpty = false := by
            cases z : getT ks xss h with
            | nil => rw [z] at eg; cases eg
            | cons a r => rfl
          rw [hne]
          show (if (!false) = true then _ else _)
          rw [if_pos (show (!false) = true from rfl)]
          by_cases c : 0 ≤ k ∧ k < as.length ∧ T.length < 1000000
          · rw [if_pos c] at run
            exact rf_push h1 (hf1 as) Sy eg c.1 c.2.1 c.2.2 fun G2 σ2 H2 S2 => ⟨G2, _, _, _, _, _, S2, run⟩
          · rw [if_neg c] at run; cases run
        | none =>
          rw [eg] at run
          have hem : getT ks xss h = [] := List.getLast?_eq_none_iff.mp eg
          rw [hem]
          show (if (!true) = true then _ else _)
          rw [if_neg (by decide)]
          cases et : T.getLast? with
          | none => exact absurd (List.getLast?_eq_none_iff.mp et) (hne.resolve_right fun z => z hem)
          | some k =>
            have run : (match T.getLast? with
              | some k => if 0 ≤ k ∧ k < as.length ∧ B.length < 1000000 then rfRun as ks n xss T.dropLast (B ++ [k]) (as.getD k.toNat (0, 0)).1 else none
              | none => some B.reverse) = some row := run
            rw [et] at run
            have run : (if 0 ≤ k ∧ k < as.length ∧ B.length < 1000000 then rfRun as ks n xss T.dropLast (B ++ [k]) (as.getD k.toNat (0, 0)).1 else none) = some row := run
            by_cases c : 0 ≤ k ∧ k < as.length ∧ B.length < 1000000
            · rw [if_pos c] at run
              exact rf_back h0 (hf0 as) Sy et c.1 c.2.1 c.2.2 fun G2 σ2 H2 S2 => ⟨G2, _, _, _, _, _, S2, run⟩
            · rw [if_neg c] at run; cases run
      refine ⟨.ref t, S.s3, !(T.map V.int).isEmpty, .inl ⟨_, SqL.of S.ht, rfl⟩, ?_⟩
      cases T with
      | cons a r =>
        show (if (!false) = true then _ else _)
        rw [if_pos (show (!false) = true from rfl)]
        show (if true = true then _ else _)
        rw [if_pos rfl]
        exact body H' S (.inl (by simp)) _
      | nil =>
        show (if (!true) = true then _ else _)
        rw [if_neg (by decide)]
        refine rf_get S fun Hx Sx => ?_
        cases eg : getT ks xss h with
        | cons a r =>
          show (if (!false) = true then _ else _)
          rw [if_pos (show (!false) = true from rfl)]
          exact body Hx Sx (.inr (by rw [eg]; simp)) _
        | nil =>
          show (if (!true) = true then _ else _)
          rw [if_neg (by decide)]
          have rw0 : row = B.reverse := by
            unfold rfRun at run
            rw [eg] at run
            have run : some B.reverse = some row := run
            exact (Option.some.inj run).symm
          subst rw0
          refine ⟨.ref b, Sx.s4, b, _, rfl, Sx.hb, fun Sa hS => ?_⟩
          have x9 := Ext.hide Sx.o.gh hS (.lst (B.map V.int).reverse)
          have o9 := Sx.o.keep x9
          refine fin (.ref Sa) G' _ o9.ext ⟨Sa, _, rfl, Sx.o.ext.hh.free hS, Sx.o.gh.free hS, upd_same, ?_⟩
          rw [← List.map_reverse]
          exact Reps.ints _
end Hk
namespace Hk
open PySem L2
theorem rf_it0 {ω : WSt} {e : Int × Int} (h : ω[3]? = some (some (.sh (pairD2 e)))) : dOf (fOpE oIx (vOf (fVar 3)) (fC (.int 0))) ω = some (.int e.1) := by
  unfold dOf fOpE vOf fVar fC
  rw [h]; rfl
theorem rf_at {as : List (Int × Int)} {k : Int} (k0 : 0 ≤ k) (k1 : k < as.length) : atI (as.map pairD2) k = some (pairD2 (as.getD k.toNat (0, 0))) := by
  rw [atI_nn k0 (by rw [List.length_map]; exact k1)]
  have hk : k.toNat < as.length := by omega
  rw [List.getElem_map, List.getD_eq_getElem?_getD, List.getElem?_eq_getElem hk]; rfl
theorem rf_dst {as : List (Int × Int)} {ω : WSt} {k : Int} (h1 : ω[1]? = some (some (.sh (.lst (as.map pairD2))))) (h6 : ω[6]? = some (some (.sh (.int k)))) (k0 : 0 ≤ k) (k1 : k < as.length) :
    dOf (fOpE oIx (vOf (fOpE oIx (vOf (fVar 1)) (vOf (fVar 6)))) (fC (.int 1))) ω = some (.int (as.getD k.toNat (0, 0)).2) := by
  have e := rf_at (as := as) k0 k1
  show dR (op2 oIx (vR (op2 oIx (vR (varR ω[1]?)) (vR (varR ω[6]?)))) (some (.int 1))) = _
  rw [h1, h6]
  show dR (op2 oIx (vR ((atI (as.map pairD2) k).map R.sh)) (some (.int 1))) = _
  rw [e]; rfl
theorem rf_src {as : List (Int × Int)} {ω : WSt} {k : Int} (h1 : ω[1]? = some (some (.sh (.lst (as.map pairD2))))) (h6 : ω[6]? = some (some (.sh (.int k)))) (k0 : 0 ≤ k) (k1 : k < as.length) :
    dOf (fOpE oIx (vOf (fOpE oIx (vOf (fVar 1)) (vOf (fVar 6)))) (fC (.int 0))) ω = some (.int (as.getD k.toNat (0, 0)).1) := by
  have e := rf_at (as := as) k0 k1
  show dR (op2 oIx (vR (op2 oIx (vR (varR ω[1]?)) (vR (varR ω[6]?)))) (some (.int 0))) = _
  rw [h1, h6]
  show dR (op2 oIx (vR ((atI (as.map pairD2) k).map R.sh)) (some (.int 0))) = _
  rw [e]; rfl
end Hk
namespace Hk
open PySem L2
theorem rf_fin {X : Cx} {e1 e0 : Expr} {E E' : XK} {f1 f0 : FD} (h1 : XD X e1 f1) (h0 : XD X e0 f0)
    (hf1 : ∀ (as : List (Int × Int)) (ω : WSt) (k : Int), ω[1]? = some (some (.sh (.lst (as.map pairD2)))) → ω[6]? = some (some (.sh (.int k))) → 0 ≤ k → k < as.length → f1 ω = some (.int (as.getD k.toNat (0, 0)).2))
    (hf0 : ∀ (as : List (Int × Int)) (ω : WSt) (k : Int), ω[1]? = some (some (.sh (.lst (as.map pairD2)))) → ω[6]? = some (some (.sh (.int k))) → 0 ≤ k → k < as.length → f0 ω = some (.int (as.getD k.toNat (0, 0)).1))
    {N : List Str} (hN : N.length = 7) {vs : List V} {H : Hp} {Q : VK} (sp : spD X.K 2 mRF vs H Q E') {sts : List Stmt} (hb : ∀ {td1 td0 : TE}, PE X e1 td1 → PE X e0 td0 → PSs X sts (tRF X.K E td1 td0)) :
    ∃ t, PSs X sts t ∧ t { nx := fun _ H' => Q .non H', rt := Q } (L2.start N vs) H := by
  obtain ⟨td1, p1, q1⟩ := h1
  obtain ⟨td0, p0, q0⟩ := h0
  exact ⟨_, hb p1 p0, rf_ok q1 q0 hf1 hf0 hN sp⟩
end Hk
set_option maxRecDepth 100000
namespace Hk
open PySem L2
abbrev Cal (P : Program) (w : World) (K : PySem.W.Frag) (mg : Str → Option Value) (base : Heap) (k : Nat) (f : Addr) (d : FuncData) (x : Str) (ps : List Str) (n : Nat) (m : List D → Option O) : Prop :=
  FnOk P w K mg base CX0 k f d ps (spD K n m) ∧ mg x = some (.ref f) ∧ PySem.W.keepIn K (.ref f) = true ∧ Binds K d ps []
section
variable {X : Cx} {x : Str} {pos : Pos}
theorem xc {e : Expr} {es : List Expr} {k k0 : Nat} {f : Addr} {fd : FuncData} {ps : List Str} {m : List D → Option O} {p : Pos} {g : FA} (c : Cal X.prog X.w X.K X.mg X.base k f fd x ps (e :: es).length m) (hr : Room k0 X.A) (ha : XA X (e :: es) g)
    (hk : k ≤ k0 := by decide) (hg : Gl X x := by exact rfl) (hdb : (x == ("__debug__" : Str)) = false := by decide) (he : starEach (e :: es) X.env = (false, eval e X.env) :: starEach es X.env := by rfl) (hpl : (backTo pos (starEach es X.env)).any (·.1) = false := by rfl) :
    XE X (.Call (.Name x p) (e :: es) [] pos) (fCall m g) := xe_call c.1 (hr.mono hk) hg c.2.1 c.2.2.1 c.2.2.2 pass0 ha hdb he hpl
theorem vE (i : Nat) (hN : X.N[i]? = some x := by rfl) (hv : Vis X.env.scope x := by first | exact Or.inl rfl | exact Or.inr (Or.inl rfl) | exact Or.inr (Or.inr rfl)) (hd : (x == ("__debug__" : Str)) = false := by decide) (hcd : (x == ("__classdict__" : Str)) = false := by decide) : XE X (.Name x pos) (fVar i) := xe_var i (pv i hN hv hd hcd)
theorem vV (i : Nat) (hN : X.N[i]? = some x := by rfl) (hv : Vis X.env.scope x := by first | exact Or.inl rfl | exact Or.inr (Or.inl rfl) | exact Or.inr (Or.inr rfl)) (hd : (x == ("__debug__" : Str)) = false := by decide) (hcd : (x == ("__classdict__" : Str)) = false := by decide) : XV X (.Name x pos) (vOf (fVar i)) := XE.toV (xe_var i (pv i hN hv hd hcd))
theorem vD (i : Nat) (hN : X.N[i]? = some x := by rfl) (hv : Vis X.env.scope x := by first | exact Or.inl rfl | exact Or.inr (Or.inl rfl) | exact Or.inr (Or.inr rfl)) (hd : (x == ("__debug__" : Str)) = false := by decide) (hcd : (x == ("__classdict__" : Str)) = false := by decide) : XD X (.Name x pos) (dOf (fVar i)) := XE.toD (xe_var i (pv i hN hv hd hcd))
end
end Hk
set_option maxRecDepth 100000
namespace So
open PySem PyProof.Rows
def gallop' : Bool → Keyed → Array Keyed → Nat → Nat → Nat → StateT SortSt Sem (Option Nat) := sortPriv% PySem.Builtin.gallop
def bey (left : Bool) (k : Int) (arr : Array Keyed) (i : Nat) : Bool := if left = true then decide (K arr i < k) else !decide (k < K arr i)
section
variable {prog : Program} {w : World} {A : Around} {E : Value → Shared → Prop} {s : Shared}
theorem at_int {arr : Array Keyed} (h0 : IntKeys arr) {i : Nat} (hi : i < arr.size) : ∃ p t q, arr[i]? = some p ∧ p = (Value.int (K arr i) t, q) := by
  have hm : arr[i] ∈ arr.toList := by simp
  obtain ⟨n, t, hn⟩ := h0 _ hm
  have e : arr[i]? = some arr[i] := getElem?_pos _ i hi
  have e2 : arr[i] = (Value.int n t, arr[i].2) := Prod.ext hn rfl
  refine ⟨_, t, arr[i].2, e, ?_⟩
  unfold K
  rw [e, e2]; rfl
theorem wpS_lt {st : SortSt} {a b : Int} {t u : Tok} {p q : Value} {Q : Option Bool → SortSt → Prop} (hk : kindOf st = oneType') (h : Q (some (decide (a < b))) st) : wpS (model prog w) A E s (lt' (.int a t, p) (.int b u, q)) Q st := by
  rw [lt'_eq]
  refine wpS_bind (wpS_get ?_)
  rw [hk, keyLt'_oneType]
  refine wpS_bind (wpS_lift (wpAny_attempt (oneLt_int ⟨rfl, ?_⟩)))
  exact wpS_pure h
theorem wpS_elem {st : SortSt} {arr : Array Keyed} {i : Nat} {p : Keyed} {Q : Keyed → SortSt → Prop} (h : arr[i]? = some p) (hq : Q p st) : wpS (model prog w) A E s (elem' arr i) Q st := by
  rw [elem'_eq, h]; exact wpS_pure hq
theorem wpS_bey {st : SortSt} {left : Bool} {k : Int} {t : Tok} {q : Value} {arr : Array Keyed} {i : Nat} {Q : Option Bool → SortSt → Prop} (h0 : IntKeys arr) (hi : i < arr.size) (hk : kindOf st = oneType') (h : Q (some (bey left k arr i)) st) :
    wpS (model prog w) A E s (do let x ← elem' arr i; if left = true then lt' x (.int k t, q) else do let l ← lt' (.int k t, q) x; pure (Option.map (fun x => !x) l)) Q st := by
  obtain ⟨p, u, r, e1, rfl⟩ := at_int h0 hi
  refine wpS_bind (wpS_elem e1 ?_)
  cases left with
  | true => exact wpS_lt hk h
  | false => exact wpS_bind (wpS_lt hk (wpS_pure h))
theorem bey_mono {left : Bool} {k : Int} {arr : Array Keyed} {i j : Nat} (h : K arr i ≤ K arr j) (hj : bey left k arr j = true) : bey left k arr i = true := by
  unfold bey at *
  cases left with
  | true => simp only [if_true, decide_eq_true_eq] at *; omega
  | false => simp only [Bool.false_eq_true, if_false, Bool.not_eq_true', decide_eq_false_iff_not] at *; omega
theorem wpS_gallop {left : Bool} {k : Int} {t : Tok} {q : Value} {arr : Array Keyed} {base n hint : Nat} {st : SortSt} {Q : Option Nat → SortSt → Prop} (h0 : IntKeys arr) (hk : kindOf st = oneType') (hsz : base + n ≤ arr.size) (hh : hint < n)
    (hs : ∀ i j, i ≤ j → j < n → K arr (base + i) ≤ K arr (base + j))
    (h : ∀ m, m ≤ n → (∀ i, i < m → bey left k arr (base + i) = true) → (∀ i, m ≤ i → i < n → bey left k arr (base + i) = false) → Q (some m) st) : wpS (model prog w) A E s (gallop' left (.int k t, q) arr base n hint) Q st := by
  refine wpS_bind (wpS_bey (k := k) h0 (by omega) hk ?_)
  dsimp only
  cases hr : bey left k arr (base + hint) with
  | true =>
    rw [if_pos rfl]
    refine wpS_bind (wpS_mono (wpS_forRange (I := fun x c st' => st' = st ∧ ∃ lo of, c = (none, lo, of) ∧ hint + lo < n ∧ bey left k arr (base + (hint + lo)) = true ∧ lo < of ∧ x + 1 ≤ of) (Q := fun c st' => st' = st ∧ ∃ lo of, c = (none, lo, of) ∧ hint + lo < n ∧ bey left k arr (base + (hint + lo)) = true ∧ lo < of ∧ (of ≥ n - hint ∨ bey left k arr (base + (hint + of)) = false)) ?_ ?_ ⟨rfl, 0, 1, rfl, by omega, hr, by omega, by omega⟩) ?_)
    · rintro x c st' _ hx ⟨rfl, lo, of, rfl, b1, b2, b3, b4⟩
      dsimp only
      by_cases z : of ≥ n - hint
      · rw [if_pos z]
        exact wpS_pure ⟨rfl, lo, of, rfl, b1, b2, b3, .inl z⟩
      · rw [if_neg z]
        refine wpS_bind (wpS_bey (k := k) h0 (by omega) hk ?_)
        dsimp only
        cases hb : bey left k arr (base + (hint + of)) with
        | true =>
          rw [if_neg (by decide)]
          exact wpS_pure ⟨rfl, of, 2 * of + 1, rfl, by omega, hb, by omega, by omega⟩
        | false =>
          rw [if_pos (by decide)]
          exact wpS_pure ⟨rfl, lo, of, rfl, b1, b2, b3, .inr hb⟩
    · rintro c st' ⟨rfl, lo, of, rfl, b1, b2, b3, b4⟩
      exact ⟨rfl, lo, of, rfl, b1, b2, b3, .inl (by omega)⟩
    · rintro c st' ⟨rfl, lo, of, rfl, b1, b2, b3, b4⟩
      dsimp only
      refine wpS_bind (wpS_mono (Q := fun c st2 => st2 = st' ∧ ∃ lo hi, c = (none, lo, hi) ∧ lo ≤ hi ∧ hi ≤ n ∧ hi - lo ≤ 0 ∧ (∀ i, i < lo → bey left k arr (base + i) = true) ∧ (∀ i, hi ≤ i → i < n → bey left k arr (base + i) = false)) ?_ ?_)
      · refine wpS_forRange (I := fun x c st2 => st2 = st' ∧ ∃ lo hi, c = (none, lo, hi) ∧ lo ≤ hi ∧ hi ≤ n ∧ hi - lo ≤ n - x ∧ (∀ i, i < lo → bey left k arr (base + i) = true) ∧ (∀ i, hi ≤ i → i < n → bey left k arr (base + i) = false)) ?_ ?_ ?_
        · rintro x c st2 _ hx ⟨e2, lo, hi, rfl, b1, b2, b3, b4, b5⟩
          subst e2
          dsimp only
          by_cases z : lo ≥ hi
          · rw [if_pos z]
            exact wpS_pure ⟨rfl, lo, hi, rfl, by omega, b2, by omega, b4, b5⟩
          · rw [if_neg z]
            refine wpS_bind (wpS_bey (k := k) h0 (by omega) hk ?_)
            dsimp only
            cases hb : bey left k arr (base + (lo + (hi - lo) / 2)) with
            | true =>
              rw [if_pos rfl]
              refine wpS_pure ⟨rfl, _, _, rfl, by omega, b2, by omega, fun i hi' => ?_, b5⟩
              exact bey_mono (hs _ _ (show i ≤ lo + (hi - lo) / 2 by omega) (by omega)) hb
            | false =>
              rw [if_neg (by decide)]
              refine wpS_pure ⟨rfl, _, _, rfl, by omega, by omega, by omega, b4, fun i hi' hin => ?_⟩
              cases hc : bey left k arr (base + i) with
              | false => rfl
              | true => rw [bey_mono (hs _ _ hi' hin) hc] at hb; cases hb
        · rintro c st2 ⟨e2, lo, hi, rfl, b1, b2, b3, b4, b5⟩
          exact ⟨e2, lo, hi, rfl, b1, b2, by omega, b4, b5⟩
        refine ⟨rfl, _, _, rfl, by omega, by omega, by omega, fun i hi => ?_, fun i hi hin => ?_⟩
        · exact bey_mono (hs _ _ (by omega) b1) b2
        · rcases b4 with b4 | b4
          · omega
          · cases hc : bey left k arr (base + i) with
            | false => rfl
            | true => rw [bey_mono (hs (hint + of) i (by omega) hin) hc] at b4; cases b4
      · rintro c st2 ⟨e2, lo, hi, rfl, c1, c2, c3, c4, c5⟩
        subst e2
        exact wpS_pure (h hi c2 (fun i hi' => c4 i (by omega)) c5)
  | false =>
    rw [if_neg (by decide)]
    refine wpS_bind (wpS_mono (wpS_forRange (I := fun x c st' => st' = st ∧ ∃ lo of, c = (none, lo, of) ∧ lo ≤ hint ∧ bey left k arr (base + (hint - lo)) = false ∧ lo < of ∧ x + 1 ≤ of) (Q := fun c st' => st' = st ∧ ∃ lo of, c = (none, lo, of) ∧ lo ≤ hint ∧ bey left k arr (base + (hint - lo)) = false ∧ lo < of ∧ (of ≥ hint + 1 ∨ bey left k arr (base + (hint - of)) = true)) ?_ ?_ ⟨rfl, 0, 1, rfl, by omega, hr, by omega, by omega⟩) ?_)
    · rintro x c st' _ hx ⟨rfl, lo, of, rfl, b1, b2, b3, b4⟩
      dsimp only
      by_cases z : of ≥ hint + 1
      · rw [if_pos z]
        exact wpS_pure ⟨rfl, lo, of, rfl, b1, b2, b3, .inl z⟩
      · rw [if_neg z]
        refine wpS_bind (wpS_bey (k := k) h0 (by omega) hk ?_)
        dsimp only
        cases hb : bey left k arr (base + (hint - of)) with
        | true =>
          rw [if_pos rfl]
          exact wpS_pure ⟨rfl, lo, of, rfl, b1, b2, b3, .inr hb⟩
        | false =>
          rw [if_neg (by decide)]
          exact wpS_pure ⟨rfl, of, 2 * of + 1, rfl, by omega, hb, by omega, by omega⟩
    · rintro c st' ⟨rfl, lo, of, rfl, b1, b2, b3, b4⟩
      exact ⟨rfl, lo, of, rfl, b1, b2, b3, .inl (by omega)⟩
    · rintro c st' ⟨rfl, lo, of, rfl, b1, b2, b3, b4⟩
      dsimp only
      refine wpS_bind (wpS_mono (Q := fun c st2 => st2 = st' ∧ ∃ lo hi, c = (none, lo, hi) ∧ lo ≤ hi ∧ hi ≤ n ∧ hi - lo ≤ 0 ∧ (∀ i, i < lo → bey left k arr (base + i) = true) ∧ (∀ i, hi ≤ i → i < n → bey left k arr (base + i) = false)) ?_ ?_)
      · refine wpS_forRange (I := fun x c st2 => st2 = st' ∧ ∃ lo hi, c = (none, lo, hi) ∧ lo ≤ hi ∧ hi ≤ n ∧ hi - lo ≤ n - x ∧ (∀ i, i < lo → bey left k arr (base + i) = true) ∧ (∀ i, hi ≤ i → i < n → bey left k arr (base + i) = false)) ?_ ?_ ?_
        · rintro x c st2 _ hx ⟨e2, lo, hi, rfl, b1, b2, b3, b4, b5⟩
          subst e2
          dsimp only
          by_cases z : lo ≥ hi
          · rw [if_pos z]
            exact wpS_pure ⟨rfl, lo, hi, rfl, by omega, b2, by omega, b4, b5⟩
          · rw [if_neg z]
            refine wpS_bind (wpS_bey (k := k) h0 (by omega) hk ?_)
            dsimp only
            cases hb : bey left k arr (base + (lo + (hi - lo) / 2)) with
            | true =>
              rw [if_pos rfl]
              refine wpS_pure ⟨rfl, _, _, rfl, by omega, b2, by omega, fun i hi' => ?_, b5⟩
              exact bey_mono (hs _ _ (show i ≤ lo + (hi - lo) / 2 by omega) (by omega)) hb
            | false =>
              rw [if_neg (by decide)]
              refine wpS_pure ⟨rfl, _, _, rfl, by omega, by omega, by omega, b4, fun i hi' hin => ?_⟩
              cases hc : bey left k arr (base + i) with
              | false => rfl
              | true => rw [bey_mono (hs _ _ hi' hin) hc] at hb; cases hb
        · rintro c st2 ⟨e2, lo, hi, rfl, b1, b2, b3, b4, b5⟩
          exact ⟨e2, lo, hi, rfl, b1, b2, by omega, b4, b5⟩
        refine ⟨rfl, _, _, rfl, by omega, by omega, by omega, fun i hi => ?_, fun i hi hin => ?_⟩
        · rcases b4 with b4 | b4
          · omega
          · exact bey_mono (hs _ _ (by omega) (by omega)) b4
        · cases hc : bey left k arr (base + i) with
          | false => rfl
          | true => rw [bey_mono (hs (hint - lo) i (by omega) hin) hc] at b2; cases b2
      · rintro c st2 ⟨e2, lo, hi, rfl, c1, c2, c3, c4, c5⟩
        subst e2
        exact wpS_pure (h hi c2 (fun i hi' => c4 i (by omega)) c5)
end
end So
set_option maxRecDepth 100000
namespace So
open PySem PyProof.Rows
def ke (p : Keyed) : Int := numOf p.1
abbrev Le (x y : Keyed) : Prop := ke x ≤ ke y
abbrev Srt (l : List Keyed) : Prop := l.Pairwise Le
structure Mg (al bl out : List Keyed) (i j : Nat) : Prop where
  perm : (out ++ (al.drop i ++ bl.drop j)).Perm (al ++ bl)
  srt : Srt out
  lea : ∀ x ∈ out, ∀ y ∈ al.drop i, Le x y
  leb : ∀ x ∈ out, ∀ y ∈ bl.drop j, Le x y
structure Done (al bl r : List Keyed) : Prop where
  perm : r.Perm (al ++ bl)
  srt : Srt r
variable {al bl out : List Keyed} {i j : Nat}
theorem srt_drop (h : Srt al) (k : Nat) : Srt (al.drop k) := h.sublist (List.drop_sublist k al)
theorem split_at (l : List Keyed) (i k : Nat) : l.drop i = (l.drop i).take k ++ l.drop (i + k) := by
  rw [← List.drop_drop, List.take_append_drop]
theorem Mg.a (m : Mg al bl out i j) (sa : Srt al) (k : Nat) (h : ∀ x ∈ (al.drop i).take k, ∀ y ∈ bl.drop j, Le x y) : Mg al bl (out ++ (al.drop i).take k) (i + k) j := by
  have e := split_at al i k
  have sd : Srt ((al.drop i).take k ++ al.drop (i + k)) := by rw [← e]; exact srt_drop sa i
  obtain ⟨s1, s2, s3⟩ := List.pairwise_append.mp sd
  have hin : ∀ y ∈ (al.drop i).take k, y ∈ al.drop i := fun y hy => List.mem_of_mem_take hy
  have hout : ∀ y ∈ al.drop (i + k), y ∈ al.drop i := fun y hy => by rw [e]; exact List.mem_append_right _ hy
  refine ⟨?_, ?_, fun x hx y hy => ?_, fun x hx y hy => ?_⟩
  · have : out ++ (al.drop i).take k ++ (al.drop (i + k) ++ bl.drop j) = out ++ (al.drop i ++ bl.drop j) := by
      rw [List.append_assoc, ← List.append_assoc ((al.drop i).take k), ← e]
    rw [this]; exact m.perm
  · exact List.pairwise_append.mpr ⟨m.srt, s1, fun x hx y hy => m.lea x hx y (hin y hy)⟩
  · rcases List.mem_append.mp hx with hx | hx
    · exact m.lea x hx y (hout y hy)
    · exact s3 x hx y hy
  · rcases List.mem_append.mp hx with hx | hx
    · exact m.leb x hx y hy
    · exact h x hx y hy
theorem Mg.b (m : Mg al bl out i j) (sb : Srt bl) (k : Nat) (h : ∀ x ∈ (bl.drop j).take k, ∀ y ∈ al.drop i, Le x y) : Mg al bl (out ++ (bl.drop j).take k) i (j + k) := by
  have e := split_at bl j k
  have sd : Srt ((bl.drop j).take k ++ bl.drop (j + k)) := by rw [← e]; exact srt_drop sb j
  obtain ⟨s1, s2, s3⟩ := List.pairwise_append.mp sd
  have hin : ∀ y ∈ (bl.drop j).take k, y ∈ bl.drop j := fun y hy => List.mem_of_mem_take hy
  have hout : ∀ y ∈ bl.drop (j + k), y ∈ bl.drop j := fun y hy => by rw [e]; exact List.mem_append_right _ hy
  refine ⟨?_, ?_, fun x hx y hy => ?_, fun x hx y hy => ?_⟩
  · refine List.Perm.trans ?_ m.perm
    rw [List.append_assoc]
    refine List.Perm.append_left out ?_
    refine List.Perm.trans ?_ (List.Perm.append_left (al.drop i) (List.Perm.of_eq e.symm))
    rw [← List.append_assoc, ← List.append_assoc]
    exact List.Perm.append_right _ List.perm_append_comm
  · exact List.pairwise_append.mpr ⟨m.srt, s1, fun x hx y hy => m.leb x hx y (hin y hy)⟩
  · rcases List.mem_append.mp hx with hx | hx
    · exact m.lea x hx y hy
    · exact h x hx y hy
  · rcases List.mem_append.mp hx with hx | hx
    · exact m.leb x hx y (hout y hy)
    · exact s3 x hx y hy
theorem Mg.done (m : Mg al bl out i j) (sa : Srt al) (sb : Srt bl) (h : ∀ x ∈ al.drop i, ∀ y ∈ bl.drop j, Le x y) : Done al bl (out ++ al.drop i ++ bl.drop j) := by
  refine ⟨by rw [List.append_assoc]; exact m.perm, ?_⟩
  rw [List.append_assoc]
  exact List.pairwise_append.mpr ⟨m.srt, List.pairwise_append.mpr ⟨srt_drop sa i, srt_drop sb j, h⟩, fun x hx y hy => (List.mem_append.mp hy).elim (m.lea x hx y) (m.leb x hx y)⟩
theorem Mg.last (m : Mg al bl out i j) (sa : Srt al) (sb : Srt bl) (h : ∀ y ∈ bl.drop j, ∀ x ∈ al.drop i, Le y x) : Done al bl (out ++ bl.drop j ++ al.drop i) := by
  refine ⟨?_, ?_⟩
  · rw [List.append_assoc]
    exact (List.Perm.append_left out List.perm_append_comm).trans m.perm
  · rw [List.append_assoc]
    exact List.pairwise_append.mpr ⟨m.srt, List.pairwise_append.mpr ⟨srt_drop sb j, srt_drop sa i, h⟩, fun x hx y hy => (List.mem_append.mp hy).elim (m.leb x hx y) (m.lea x hx y)⟩
end So
set_option maxRecDepth 100000
namespace So
open PySem PyProof.Rows
def mergeLo' : Array Keyed → Array Keyed → StateT SortSt Sem (Array Keyed) := sortPriv% PySem.Builtin.mergeLo
structure Kp (st st' : SortSt) : Prop where
  kind : kindOf st' = kindOf st
  arr : arrOf st' = arrOf st
  pend : pendingOf st' = pendingOf st
  fail : failedOf st' = failedOf st
theorem Kp.refl (st : SortSt) : Kp st st := ⟨rfl, rfl, rfl, rfl⟩
theorem K_ke {xs : Array Keyed} {i : Nat} {p : Keyed} (h : xs[i]? = some p) : K xs i = ke p := by unfold K ke; rw [h]
theorem drop_one {xs : Array Keyed} {i : Nat} {p : Keyed} (h : xs[i]? = some p) : xs.toList.drop i = p :: xs.toList.drop (i + 1) := by
  obtain ⟨hi, e⟩ := Array.getElem?_eq_some_iff.mp h
  rw [List.drop_eq_getElem_cons (by simpa using hi)]
  congr 1
theorem ext_to {xs : Array Keyed} {i : Nat} : (xs.extract i xs.size).toList = xs.toList.drop i := by
  rw [Array.toList_extract, List.extract_eq_take_drop]
  exact List.take_of_length_le (by simp)
theorem ext_take {xs : Array Keyed} {i k : Nat} : (xs.extract i (i + k)).toList = (xs.toList.drop i).take k := by
  simp [Array.toList_extract, List.extract_eq_drop_take]
theorem srt_head {l : List Keyed} (s : Srt l) {i : Nat} {p : Keyed} {t : List Keyed} (h : l.drop i = p :: t) : ∀ y ∈ l.drop i, Le p y := by
  have := srt_drop s i
  rw [h] at this ⊢
  intro y hy
  rcases List.mem_cons.mp hy with rfl | hy
  · exact Int.le_refl _
  · exact (List.pairwise_cons.mp this).1 y hy
theorem drop_all {xs : Array Keyed} {i : Nat} (h : xs.size ≤ i) : xs.toList.drop i = [] := List.drop_eq_nil_of_le (by simpa using h)
theorem Mg.b1 {a b out : Array Keyed} {i j : Nat} {p q : Keyed} (m : Mg a.toList b.toList out.toList i j) (sa : Srt a.toList) (sb : Srt b.toList) (hp : b[j]? = some p) (hq : a[i]? = some q) (h : Le p q) : Mg a.toList b.toList (out.push p).toList i (j + 1) := by
  have e := drop_one hp
  have := m.b sb 1 (by
    rw [e]
    intro x hx y hy
    have : x = p := by simpa using hx
    subst this
    exact Int.le_trans h (srt_head sa (drop_one hq) y hy))
  rw [e] at this
  simpa using this
theorem Mg.a1 {a b out : Array Keyed} {i j : Nat} {p q : Keyed} (m : Mg a.toList b.toList out.toList i j) (sa : Srt a.toList) (sb : Srt b.toList) (hp : a[i]? = some p) (hq : b[j]? = some q) (h : Le p q) : Mg a.toList b.toList (out.push p).toList (i + 1) j := by
  have e := drop_one hp
  have := m.a sa 1 (by
    rw [e]
    intro x hx y hy
    have : x = p := by simpa using hx
    subst this
    exact Int.le_trans h (srt_head sb (drop_one hq) y hy))
  rw [e] at this
  simpa using this
theorem Mg.dB {a b out : Array Keyed} {i j : Nat} (m : Mg a.toList b.toList out.toList i j) (sa : Srt a.toList) (sb : Srt b.toList) (h : b.size ≤ j) : Done a.toList b.toList (out ++ a.extract i a.size ++ b.extract j b.size).toList := by
  have := m.done sa sb (fun x _ y hy => by rw [drop_all h] at hy; cases hy)
  rw [Array.toList_append, Array.toList_append, ext_to, ext_to]; exact this
theorem Mg.dA {a b out : Array Keyed} {i j : Nat} (m : Mg a.toList b.toList out.toList i j) (sa : Srt a.toList) (sb : Srt b.toList) (h : a.size ≤ i) : Done a.toList b.toList (out ++ a.extract i a.size ++ b.extract j b.size).toList := by
  have := m.done sa sb (fun x hx => by rw [drop_all h] at hx; cases hx)
  rw [Array.toList_append, Array.toList_append, ext_to, ext_to]; exact this
theorem Mg.dL {a b out : Array Keyed} {i j : Nat} (m : Mg a.toList b.toList out.toList i j) (sa : Srt a.toList) (sb : Srt b.toList) (hl : ∀ y ∈ b.toList, ∀ x ∈ a.toList.drop (a.size - 1), Le y x) (h : i + 1 = a.size) : Done a.toList b.toList (out ++ b.extract j b.size ++ a.extract i a.size).toList := by
  have := m.last sa sb (fun y hy x hx => hl y (List.mem_of_mem_drop hy) x (by rw [show a.size - 1 = i by omega]; exact hx))
  rw [Array.toList_append, Array.toList_append, ext_to, ext_to]; exact this
end So
set_option maxRecDepth 100000
set_option maxHeartbeats 1000000
namespace So
open PySem PyProof.Rows
section
variable {prog : Program} {w : World} {A : Around} {E : Value → Shared → Prop} {s : Shared}
theorem elem_at {xs : Array Keyed} {i : Nat} (h0 : IntKeys xs) (h : i < xs.size) : ∃ t q, xs[i]? = some (Value.int (K xs i) t, q) := by
  obtain ⟨p, t, q, e, rfl⟩ := at_int h0 h
  exact ⟨t, q, e⟩
theorem K_srt {xs : Array Keyed} (hs : Srt xs.toList) {i j : Nat} (h1 : i ≤ j) (h2 : j < xs.size) : K xs i ≤ K xs j := by
  have e1 : xs[i]? = some xs[i] := getElem?_pos _ i (by omega)
  have e2 : xs[j]? = some xs[j] := getElem?_pos _ j h2
  rw [K_ke e1, K_ke e2]
  rcases Nat.lt_or_ge i j with z | z
  · exact List.pairwise_iff_getElem.mp hs i j (by simp; omega) (by simpa using h2) z
  · have : i = j := by omega
    subst this; exact Int.le_refl _
def setMin' : Nat → StateT SortSt Sem Unit := sortPriv% PySem.Builtin.setMinGallop
theorem Kp.trans {a b c : SortSt} (h : Kp a b) (h' : Kp b c) : Kp a c := ⟨h'.kind.trans h.kind, h'.arr.trans h.arr, h'.pend.trans h.pend, h'.fail.trans h.fail⟩
theorem wpS_setMin {g : Nat} {st : SortSt} {Q : Unit → SortSt → Prop} (h : ∀ st', Kp st st' → Q () st') : wpS (model prog w) A E s (setMin' g) Q st := wpS_modify (h _ ⟨rfl, rfl, rfl, rfl⟩)
theorem chunk_le {xs : Array Keyed} {i k : Nat} {v : Int} (h : ∀ t, t < k → i + t < xs.size → K xs (i + t) ≤ v) : ∀ x ∈ (xs.toList.drop i).take k, ke x ≤ v := by
  intro x hx
  obtain ⟨t, ht, e⟩ := List.mem_iff_getElem.mp hx
  rw [List.getElem_take, List.getElem_drop] at e
  rw [List.length_take, List.length_drop] at ht
  have hl : i + t < xs.size := by simp at ht; omega
  have e2 : xs[i + t]? = some x := by rw [getElem?_pos xs (i + t) hl, ← e]; rfl
  have := h t (by omega) hl
  rw [K_ke e2] at this
  exact this
theorem bey_f {k : Int} {xs : Array Keyed} {i : Nat} : (bey false k xs i = true → K xs i ≤ k) ∧ (bey false k xs i = false → k < K xs i) := by
  unfold bey
  simp only [Bool.false_eq_true, if_false, Bool.not_eq_true', decide_eq_false_iff_not, Bool.not_eq_false', decide_eq_true_eq]
  exact ⟨fun h => by omega, id⟩
theorem bey_t {k : Int} {xs : Array Keyed} {i : Nat} : (bey true k xs i = true → K xs i < k) ∧ (bey true k xs i = false → k ≤ K xs i) := by
  unfold bey
  simp only [if_true, decide_eq_true_eq, decide_eq_false_iff_not]
  exact ⟨id, fun h => by omega⟩
theorem wpS_mergeLo {a b : Array Keyed} {st : SortSt} {Q : Array Keyed → SortSt → Prop} (ha : IntKeys a) (hb : IntKeys b) (sa : Srt a.toList) (sb : Srt b.toList) (na : 1 ≤ a.size) (nb : 1 ≤ b.size) (h1 : K b 0 ≤ K a 0) (hl : ∀ y ∈ b.toList, ∀ x ∈ a.toList.drop (a.size - 1), Le y x) (hk : kindOf st = oneType')
    (h : ∀ r st', Done a.toList b.toList r.toList → Kp st st' → Q r st') : wpS (model prog w) A E s (mergeLo' a b) Q st := by
  refine wpS_bind (wpS_lift (wpAny_rule ⟨rfl, ?_⟩))
  obtain ⟨t0, q0, eb0⟩ := elem_at hb (show 0 < b.size by omega)
  obtain ⟨u0, r0, ea0⟩ := elem_at ha (show 0 < a.size by omega)
  refine wpS_bind (wpS_elem eb0 ?_)
  have m0 : Mg a.toList b.toList (#[] : Array Keyed).toList 0 0 := ⟨by simp, List.Pairwise.nil, fun x hx => by simp at hx, fun x hx => by simp at hx⟩
  have m1 := m0.b1 sa sb eb0 ea0 (show K b 0 ≤ K a 0 from h1)
  have m1 : Mg a.toList b.toList (#[(Value.int (K b 0) t0, q0)] : Array Keyed).toList 0 1 := m1
  dsimp only
  by_cases z1 : b.size = 1
  · rw [if_pos (by rw [z1]; rfl)]
    exact wpS_pure (h _ st (m1.dB sa sb (by omega)) (Kp.refl st))
  rw [if_neg (by simp; omega)]
  by_cases z2 : a.size = 1
  · rw [if_pos (by rw [z2]; rfl)]
    exact wpS_pure (h _ st (m1.dL sa sb hl (by omega)) (Kp.refl st))
  rw [if_neg (by simp; omega)]
  refine wpS_bind (wpS_get ?_)
  refine wpS_bind (wpS_mono (wpS_forRange
    (I := fun x c st' => ∃ o i j g, c = (none, o, i, j, g) ∧ Mg a.toList b.toList o.toList i j ∧ i + 1 < a.size ∧ j < b.size ∧ x + 1 ≤ i + j ∧ Kp st st')
    (Q := fun c st' => ∃ r z, c = (some r, z) ∧ Done a.toList b.toList r.toList ∧ Kp st st') ?_ ?_ ⟨_, _, _, _, rfl, m1, by omega, by omega, by omega, Kp.refl st⟩) ?_)
  · rintro x c st1 _ hx ⟨o, i, j, g, rfl, m, b1, b2, b3, kp⟩
    dsimp only
    refine wpS_bind (wpS_mono (wpS_forRange
      (I := fun y c st' => ∃ o' i' j' ac bc, c = (none, o', i', j', ac, bc) ∧ Mg a.toList b.toList o'.toList i' j' ∧ i' + 1 < a.size ∧ j' < b.size ∧ i + j + y ≤ i' + j' ∧ Kp st st')
      (Q := fun c st' => (∃ r z, c = (some r, z) ∧ Done a.toList b.toList r.toList ∧ Kp st st') ∨ ∃ o' i' j' ac bc, c = (none, o', i', j', ac, bc) ∧ Mg a.toList b.toList o'.toList i' j' ∧ i' + 1 < a.size ∧ j' < b.size ∧ i + j + 1 ≤ i' + j' ∧ Kp st st') ?_ ?_ ⟨_, _, _, _, _, rfl, m, b1, b2, by omega, kp⟩) ?_)
    · rintro y c st2 _ hy ⟨o', i', j', ac, bc, rfl, m', d1, d2, d3, kp'⟩
      dsimp only
      obtain ⟨t1, q1, eb⟩ := elem_at hb d2
      obtain ⟨u1, r1, ea⟩ := elem_at ha (show i' < a.size by omega)
      have hk' : kindOf st2 = oneType' := kp'.kind.trans hk
      refine wpS_bind (wpS_elem eb (wpS_bind (wpS_elem ea (wpS_bind (wpS_lt hk' ?_)))))
      dsimp only
      by_cases hw : K b j' < K a i'
      · rw [decide_eq_true hw, if_pos rfl]
        have m2 := m'.b1 sa sb eb ea (show K b j' ≤ K a i' by omega)
        refine wpS_bind (wpS_elem eb ?_)
        by_cases z : j' + 1 = b.size
        · rw [if_pos (by rw [z]; exact beq_self_eq_true _)]
          exact wpS_pure (.inl ⟨_, _, rfl, m2.dB sa sb (by omega), kp'⟩)
        · rw [if_neg (by simpa using z)]
          split
          · exact wpS_pure (.inr ⟨_, _, _, _, _, rfl, m2, d1, by omega, by omega, kp'⟩)
          · exact wpS_pure ⟨_, _, _, _, _, rfl, m2, d1, by omega, by omega, kp'⟩
      · rw [decide_eq_false hw, if_neg (by decide)]
        have m2 := m'.a1 sa sb ea eb (show K a i' ≤ K b j' by omega)
        refine wpS_bind (wpS_elem ea ?_)
        by_cases z : i' + 1 + 1 = a.size
        · rw [if_pos (by rw [z]; exact beq_self_eq_true _)]
          exact wpS_pure (.inl ⟨_, _, rfl, m2.dL sa sb hl z, kp'⟩)
        · rw [if_neg (by simpa using z)]
          split
          · exact wpS_pure (.inr ⟨_, _, _, _, _, rfl, m2, by omega, d2, by omega, kp'⟩)
          · exact wpS_pure ⟨_, _, _, _, _, rfl, m2, by omega, d2, by omega, kp'⟩
    · rintro c st2 ⟨o', i', j', ac, bc, rfl, m', d1, d2, d3, kp'⟩
      omega
    · rintro c st2 (⟨r, z, rfl, dn, kp'⟩ | ⟨o', i', j', ac, bc, rfl, m', d1, d2, d3, kp'⟩)
      · exact wpS_pure ⟨r, _, rfl, dn, kp'⟩
      · dsimp only
        refine wpS_bind (wpS_lift (wpAny_rule ⟨rfl, ?_⟩))
        refine wpS_bind (wpS_mono (wpS_forRange
          (I := fun y c st' => ∃ o2 i2 j2 g2 ac bc, c = (none, o2, i2, j2, g2, ac, bc) ∧ Mg a.toList b.toList o2.toList i2 j2 ∧ i2 + 1 < a.size ∧ j2 < b.size ∧ i' + j' + y ≤ i2 + j2 ∧ Kp st st')
          (Q := fun c st' => (∃ r z, c = (some r, z) ∧ Done a.toList b.toList r.toList ∧ Kp st st') ∨ ∃ o2 i2 j2 g2 ac bc, c = (none, o2, i2, j2, g2, ac, bc) ∧ Mg a.toList b.toList o2.toList i2 j2 ∧ i2 + 1 < a.size ∧ j2 < b.size ∧ i' + j' ≤ i2 + j2 ∧ Kp st st') ?_ ?_ ⟨_, _, _, _, _, _, rfl, m', d1, d2, by omega, kp'⟩) ?_)
        · rintro y c st3 _ hy ⟨o2, i2, j2, g2, ac2, bc2, rfl, m2, e1, e2, e3, kp3⟩
          dsimp only
          obtain ⟨t2, q2, eb⟩ := elem_at hb e2
          obtain ⟨u2, r2, ea⟩ := elem_at ha (show i2 < a.size by omega)
          by_cases hg : g2 > 1
          case' pos => rw [if_pos hg]
          case' neg => rw [if_neg hg]
          all_goals
            refine wpS_bind (wpS_setMin fun st4 kp4 => ?_)
            replace kp4 := kp3.trans kp4
            have hk4 : kindOf st4 = oneType' := kp4.kind.trans hk
            refine wpS_bind (wpS_elem eb ?_)
            refine wpS_bind (wpS_gallop (k := K b j2) ha hk4 (by omega) (by omega) (fun s t h1 h2 => K_srt sa (by omega) (by omega)) fun k g1 g2 g3 => ?_)
            dsimp only
            by_cases hk0 : k > 0
            case' pos =>
              rw [if_pos hk0]
              have mA := m2.a sa k (fun x hx y hy => Int.le_trans (chunk_le (v := K b j2) (fun t h1 h2 => bey_f.1 (g2 t h1)) x hx) (srt_head sb (drop_one eb) y hy))
              have mA : Mg a.toList b.toList (o2 ++ a.extract i2 (i2 + k)).toList (i2 + k) j2 := by rw [Array.toList_append, ext_take]; exact mA
              by_cases z : i2 + k + 1 = a.size
              · rw [if_pos (by rw [z]; exact beq_self_eq_true _)]
                exact wpS_pure (.inl ⟨_, _, rfl, mA.dL sa sb hl z, kp4⟩)
              rw [if_neg (by simpa using z)]
              by_cases z' : i2 + k = a.size
              · rw [if_pos (by rw [z']; exact beq_self_eq_true _)]
                exact wpS_pure (.inl ⟨_, _, rfl, mA.dA sa sb (by omega), kp4⟩)
              rw [if_neg (by simpa using z')]
              have i1 : i2 + k + 1 < a.size := by omega
              have hlt : K b j2 ≤ K a (i2 + k) := Int.le_of_lt (bey_f.2 (g3 k (Nat.le_refl _) (by omega)))
              have le1 : i2 ≤ i2 + k := by omega
              generalize o2 ++ a.extract i2 (i2 + k) = oA at mA ⊢
              generalize i2 + k = iA at mA i1 hlt le1 ⊢
            case' neg =>
              rw [if_neg hk0]
              have mA := m2
              have i1 : i2 + 1 < a.size := e1
              have hlt : K b j2 ≤ K a i2 := Int.le_of_lt (bey_f.2 (g3 0 (by omega) (by omega)))
              generalize o2 = oA at mA ⊢
              generalize hiA : i2 = iA at mA i1 hlt ⊢
              have le1 : i2 ≤ iA := by omega
            all_goals
              obtain ⟨u3, r3, eA⟩ := elem_at ha (show iA < a.size by omega)
              have mB := mA.b1 sa sb eb eA hlt
              refine wpS_bind (wpS_elem eb ?_)
              by_cases z3 : j2 + 1 = b.size
              · rw [if_pos (by rw [z3]; exact beq_self_eq_true _)]
                exact wpS_pure (.inl ⟨_, _, rfl, mB.dB sa sb (by omega), kp4⟩)
              rw [if_neg (by simpa using z3)]
              refine wpS_bind (wpS_elem eA ?_)
              refine wpS_bind (wpS_gallop (k := K a iA) hb hk4 (by omega) (by omega) (fun s t h1 h2 => K_srt sb (by omega) (by omega)) fun k2 p1 p2 p3 => ?_)
              dsimp only
              by_cases hk2 : k2 > 0
              case' pos =>
                rw [if_pos hk2]
                have mC := mB.b sb k2 (fun x hx y hy => Int.le_trans (chunk_le (v := K a iA) (fun t h1 h2 => Int.le_of_lt (bey_t.1 (p2 t h1))) x hx) (srt_head sa (drop_one eA) y hy))
                rw [← ext_take, ← Array.toList_append] at mC
                by_cases z4 : j2 + 1 + k2 = b.size
                · rw [if_pos (by rw [z4]; exact beq_self_eq_true _)]
                  exact wpS_pure (.inl ⟨_, _, rfl, mC.dB sa sb (by omega), kp4⟩)
                rw [if_neg (by simpa using z4)]
                have j1 : j2 + 1 + k2 < b.size := by omega
                have hle : K a iA ≤ K b (j2 + 1 + k2) := bey_t.2 (p3 k2 (Nat.le_refl _) (by omega))
                have le2 : j2 + 1 ≤ j2 + 1 + k2 := by omega
                generalize oA.push (Value.int (K b j2) t2, q2) ++ b.extract (j2 + 1) (j2 + 1 + k2) = oB at mC ⊢
                generalize j2 + 1 + k2 = jB at mC j1 hle le2 ⊢
              case' neg =>
                rw [if_neg hk2]
                have mC := mB
                have j1 : j2 + 1 < b.size := by omega
                have hle : K a iA ≤ K b (j2 + 1) := bey_t.2 (p3 0 (by omega) (by omega))
                generalize oA.push (Value.int (K b j2) t2, q2) = oB at mC ⊢
                generalize hjB : j2 + 1 = jB at mC j1 hle ⊢
                have le2 : j2 + 1 ≤ jB := by omega
              all_goals
                obtain ⟨t5, q5, eB⟩ := elem_at hb j1
                have mD := mC.a1 sa sb eA eB hle
                refine wpS_bind (wpS_elem eA ?_)
                by_cases z5 : iA + 1 + 1 = a.size
                · rw [if_pos (by rw [z5]; exact beq_self_eq_true _)]
                  exact wpS_pure (.inl ⟨_, _, rfl, mD.dL sa sb hl z5, kp4⟩)
                rw [if_neg (by simpa using z5)]
                by_cases z6 : (decide (k < 7) && decide (k2 < 7)) = true
                · rw [if_pos z6]
                  exact wpS_pure (.inr ⟨_, _, _, _, _, _, rfl, mD, by omega, j1, by omega, kp4⟩)
                · rw [if_neg z6]
                  exact wpS_pure ⟨_, _, _, _, _, _, rfl, mD, by omega, j1, by omega, kp4⟩
        · rintro c st3 ⟨o2, i2, j2, g2, ac2, bc2, rfl, m2, e1, e2, e3, kp3⟩
          omega
        · rintro c st3 (⟨r, z, rfl, dn, kp3⟩ | ⟨o2, i2, j2, g2, ac2, bc2, rfl, m2, e1, e2, e3, kp3⟩)
          · exact wpS_pure ⟨r, _, rfl, dn, kp3⟩
          · dsimp only
            refine wpS_bind (wpS_setMin fun st4 kp4 => ?_)
            exact wpS_pure ⟨_, _, _, _, rfl, m2, e1, e2, by omega, kp3.trans kp4⟩
  · rintro c st1 ⟨o, i, j, g, rfl, m, b1, b2, b3, kp⟩
    omega
  · rintro c st1 ⟨r, z, rfl, dn, kp⟩
    exact wpS_pure (h r st1 dn kp)
end
end So
set_option maxRecDepth 100000
set_option maxHeartbeats 1000000
namespace So
open PySem PyProof.Rows
structure Mh (al bl out : List Keyed) (i j : Nat) : Prop where
  perm : (al.take i ++ (bl.take j ++ out.reverse)).Perm (al ++ bl)
  srt : Srt out.reverse
  lea : ∀ x ∈ al.take i, ∀ y ∈ out, Le x y
  leb : ∀ x ∈ bl.take j, ∀ y ∈ out, Le x y
theorem srt_take {l : List Keyed} (h : Srt l) (k : Nat) : Srt (l.take k) := h.sublist (List.take_sublist k l)
theorem cut_at (l : List Keyed) {i k : Nat} (h : k ≤ i) : l.take i = l.take k ++ (l.take i).drop k := by
  have := (List.take_append_drop k (l.take i)).symm
  rw [List.take_take, Nat.min_eq_left h] at this
  exact this
variable {al bl out : List Keyed} {i j : Nat}
theorem Mh.a (m : Mh al bl out i j) (sa : Srt al) {k : Nat} (hk : k ≤ i) (h : ∀ x ∈ bl.take j, ∀ y ∈ (al.take i).drop k, Le x y) : Mh al bl (out ++ ((al.take i).drop k).reverse) k j := by
  have e := cut_at al hk
  have sd : Srt (al.take k ++ (al.take i).drop k) := by rw [← e]; exact srt_take sa i
  obtain ⟨s1, s2, s3⟩ := List.pairwise_append.mp sd
  refine ⟨?_, ?_, fun x hx y hy => ?_, fun x hx y hy => ?_⟩
  · rw [List.reverse_append, List.reverse_reverse]
    refine List.Perm.trans ?_ m.perm
    have e2 : al.take i ++ (bl.take j ++ out.reverse) = al.take k ++ ((al.take i).drop k ++ (bl.take j ++ out.reverse)) := by rw [← List.append_assoc (al.take k), ← e]
    rw [e2]
    refine List.Perm.append_left _ ?_
    rw [← List.append_assoc, ← List.append_assoc]
    exact List.Perm.append_right _ List.perm_append_comm
  · rw [List.reverse_append, List.reverse_reverse]
    exact List.pairwise_append.mpr ⟨s2, m.srt, fun x hx y hy => m.lea x (List.mem_of_mem_drop hx) y (List.mem_reverse.mp hy)⟩
  · rcases List.mem_append.mp hy with hy | hy
    · exact m.lea x (by rw [e]; exact List.mem_append_left _ hx) y hy
    · exact s3 x hx y (List.mem_reverse.mp hy)
  · rcases List.mem_append.mp hy with hy | hy
    · exact m.leb x hx y hy
    · exact h x hx y (List.mem_reverse.mp hy)
theorem Mh.b (m : Mh al bl out i j) (sb : Srt bl) {k : Nat} (hk : k ≤ j) (h : ∀ x ∈ al.take i, ∀ y ∈ (bl.take j).drop k, Le x y) : Mh al bl (out ++ ((bl.take j).drop k).reverse) i k := by
  have e := cut_at bl hk
  have sd : Srt (bl.take k ++ (bl.take j).drop k) := by rw [← e]; exact srt_take sb j
  obtain ⟨s1, s2, s3⟩ := List.pairwise_append.mp sd
  refine ⟨?_, ?_, fun x hx y hy => ?_, fun x hx y hy => ?_⟩
  · rw [List.reverse_append, List.reverse_reverse]
    have e2 : bl.take k ++ ((bl.take j).drop k ++ out.reverse) = bl.take j ++ out.reverse := by rw [← List.append_assoc (bl.take k), ← e]
    rw [e2]; exact m.perm
  · rw [List.reverse_append, List.reverse_reverse]
    exact List.pairwise_append.mpr ⟨s2, m.srt, fun x hx y hy => m.leb x (List.mem_of_mem_drop hx) y (List.mem_reverse.mp hy)⟩
  · rcases List.mem_append.mp hy with hy | hy
    · exact m.lea x hx y hy
    · exact h x hx y (List.mem_reverse.mp hy)
  · rcases List.mem_append.mp hy with hy | hy
    · exact m.leb x (by rw [e]; exact List.mem_append_left _ hx) y hy
    · exact s3 x hx y (List.mem_reverse.mp hy)
theorem Mh.done (m : Mh al bl out i j) (sa : Srt al) (sb : Srt bl) (h : ∀ x ∈ al.take i, ∀ y ∈ bl.take j, Le x y) : Done al bl (al.take i ++ bl.take j ++ out.reverse) := by
  refine ⟨by rw [List.append_assoc]; exact m.perm, ?_⟩
  refine List.pairwise_append.mpr ⟨List.pairwise_append.mpr ⟨srt_take sa i, srt_take sb j, h⟩, m.srt, fun x hx y hy => ?_⟩
  exact (List.mem_append.mp hx).elim (fun hx => m.lea x hx y (List.mem_reverse.mp hy)) (fun hx => m.leb x hx y (List.mem_reverse.mp hy))
theorem Mh.first (m : Mh al bl out i j) (sa : Srt al) (sb : Srt bl) (h : ∀ y ∈ bl.take j, ∀ x ∈ al.take i, Le y x) : Done al bl (bl.take j ++ al.take i ++ out.reverse) := by
  refine ⟨?_, ?_⟩
  · refine List.Perm.trans ?_ m.perm
    rw [← List.append_assoc]
    exact List.Perm.append_right _ List.perm_append_comm
  · refine List.pairwise_append.mpr ⟨List.pairwise_append.mpr ⟨srt_take sb j, srt_take sa i, h⟩, m.srt, fun x hx y hy => ?_⟩
    exact (List.mem_append.mp hx).elim (fun hx => m.leb x hx y (List.mem_reverse.mp hy)) (fun hx => m.lea x hx y (List.mem_reverse.mp hy))
theorem take_one {xs : Array Keyed} {i : Nat} {p : Keyed} (h : xs[i]? = some p) : (xs.toList.take (i + 1)).drop i = [p] := by
  obtain ⟨hi, e⟩ := Array.getElem?_eq_some_iff.mp h
  rw [List.drop_take, List.drop_eq_getElem_cons (by simpa using hi)]
  simp [e]
theorem srt_tail {xs : Array Keyed} (s : Srt xs.toList) {i : Nat} {p : Keyed} (h : xs[i]? = some p) : ∀ y ∈ xs.toList.take (i + 1), Le y p := by
  have sd := srt_take s (i + 1)
  have e := cut_at xs.toList (show i ≤ i + 1 by omega)
  rw [take_one h] at e
  rw [e] at sd ⊢
  intro y hy
  rcases List.mem_append.mp hy with hy | hy
  · exact (List.pairwise_append.mp sd).2.2 y hy p (by simp)
  · have : y = p := by simpa using hy
    rw [this]; exact Int.le_refl _
theorem Mh.a1 {a b out : Array Keyed} {i j : Nat} {p q : Keyed} (m : Mh a.toList b.toList out.toList (i + 1) (j + 1)) (sa : Srt a.toList) (sb : Srt b.toList) (hp : a[i]? = some p) (hq : b[j]? = some q) (h : Le q p) : Mh a.toList b.toList (out.push p).toList i (j + 1) := by
  have := m.a sa (k := i) (by omega) (by
    rw [take_one hp]
    intro x hx y hy
    have : y = p := by simpa using hy
    subst this
    exact Int.le_trans (srt_tail sb hq x hx) h)
  rw [take_one hp] at this
  simpa using this
theorem Mh.b1 {a b out : Array Keyed} {i j : Nat} {p q : Keyed} (m : Mh a.toList b.toList out.toList (i + 1) (j + 1)) (sa : Srt a.toList) (sb : Srt b.toList) (hp : b[j]? = some p) (hq : a[i]? = some q) (h : Le q p) : Mh a.toList b.toList (out.push p).toList (i + 1) j := by
  have := m.b sb (k := j) (by omega) (by
    rw [take_one hp]
    intro x hx y hy
    have : y = p := by simpa using hy
    subst this
    exact Int.le_trans (srt_tail sa hq x hx) h)
  rw [take_one hp] at this
  simpa using this
theorem ext_0 {xs : Array Keyed} {i : Nat} : (xs.extract 0 i).toList = xs.toList.take i := by
  rw [Array.toList_extract, List.extract_eq_take_drop]; simp
theorem ext_mid {xs : Array Keyed} {i k : Nat} : (xs.extract k i).toList = (xs.toList.take i).drop k := by
  rw [Array.toList_extract, List.extract_eq_take_drop, List.drop_take]
theorem Mh.d0 {a b out : Array Keyed} {i j : Nat} (m : Mh a.toList b.toList out.toList i j) (sa : Srt a.toList) (sb : Srt b.toList) (h : i = 0 ∨ j = 0) : Done a.toList b.toList (a.extract 0 i ++ b.extract 0 j ++ out.reverse).toList := by
  have := m.done sa sb (fun x hx y hy => by
    rcases h with rfl | rfl
    · simp at hx
    · simp at hy)
  rw [Array.toList_append, Array.toList_append, ext_0, ext_0, Array.toList_reverse]; exact this
theorem Mh.dF {a b out : Array Keyed} {i j : Nat} (m : Mh a.toList b.toList out.toList i j) (sa : Srt a.toList) (sb : Srt b.toList) (hf : ∀ y ∈ b.toList.take 1, ∀ x ∈ a.toList, Le y x) (h : j = 1) : Done a.toList b.toList (b.extract 0 j ++ a.extract 0 i ++ out.reverse).toList := by
  have := m.first sa sb (fun y hy x hx => hf y (by rw [h] at hy; exact hy) x (List.mem_of_mem_take hx))
  rw [Array.toList_append, Array.toList_append, ext_0, ext_0, Array.toList_reverse]; exact this
end So
set_option maxRecDepth 100000
set_option maxHeartbeats 1000000
namespace So
open PySem PyProof.Rows
def mergeHi' : Array Keyed → Array Keyed → StateT SortSt Sem (Array Keyed) := sortPriv% PySem.Builtin.mergeHi
section
variable {prog : Program} {w : World} {A : Around} {E : Value → Shared → Prop} {s : Shared}
theorem chunk_ge {xs : Array Keyed} {i k : Nat} {v : Int} (h : ∀ t, k ≤ t → t < i → v ≤ K xs t) : ∀ x ∈ (xs.toList.take i).drop k, v ≤ ke x := by
  intro x hx
  obtain ⟨t, ht, e⟩ := List.mem_iff_getElem.mp hx
  rw [List.getElem_drop, List.getElem_take] at e
  rw [List.length_drop, List.length_take] at ht
  have hl : k + t < xs.size := by simp at ht; omega
  have e2 : xs[k + t]? = some x := by rw [getElem?_pos xs (k + t) hl, ← e]; rfl
  have := h (k + t) (by omega) (by omega)
  rw [K_ke e2] at this
  exact this
theorem wpS_mergeHi {a b : Array Keyed} {st : SortSt} {Q : Array Keyed → SortSt → Prop} (ha : IntKeys a) (hb : IntKeys b) (sa : Srt a.toList) (sb : Srt b.toList) (na : 1 ≤ a.size) (nb : 1 ≤ b.size) (h1 : K b (b.size - 1) ≤ K a (a.size - 1)) (hf : ∀ y ∈ b.toList.take 1, ∀ x ∈ a.toList, Le y x) (hk : kindOf st = oneType')
    (h : ∀ r st', Done a.toList b.toList r.toList → Kp st st' → Q r st') : wpS (model prog w) A E s (mergeHi' a b) Q st := by
  refine wpS_bind (wpS_lift (wpAny_rule ⟨rfl, ?_⟩))
  obtain ⟨t0, q0, ea0⟩ := elem_at ha (show a.size - 1 < a.size by omega)
  obtain ⟨u0, r0, eb0⟩ := elem_at hb (show b.size - 1 < b.size by omega)
  refine wpS_bind (wpS_elem ea0 ?_)
  have m0 : Mh a.toList b.toList (#[] : Array Keyed).toList (a.size - 1 + 1) (b.size - 1 + 1) := by
    rw [show a.size - 1 + 1 = a.size by omega, show b.size - 1 + 1 = b.size by omega]
    refine ⟨?_, List.Pairwise.nil, fun x _ y hy => by simp at hy, fun x _ y hy => by simp at hy⟩
    rw [List.take_of_length_le (by simp), List.take_of_length_le (by simp)]; simp
  have m1 := m0.a1 sa sb ea0 eb0 (show K b (b.size - 1) ≤ K a (a.size - 1) from h1)
  rw [show b.size - 1 + 1 = b.size by omega] at m1
  have m1 : Mh a.toList b.toList (#[(Value.int (K a (a.size - 1)) t0, q0)] : Array Keyed).toList (a.size - 1) b.size := m1
  dsimp only
  by_cases z1 : a.size - 1 = 0
  · rw [if_pos (by rw [z1]; rfl)]
    exact wpS_pure (h _ st (m1.d0 sa sb (.inl z1)) (Kp.refl st))
  rw [if_neg (by simpa using z1)]
  by_cases z2 : b.size = 1
  · rw [if_pos (by rw [z2]; rfl)]
    exact wpS_pure (h _ st (m1.dF sa sb hf z2) (Kp.refl st))
  rw [if_neg (by simpa using z2)]
  refine wpS_bind (wpS_get ?_)
  refine wpS_bind (wpS_mono (wpS_forRange
    (I := fun x c st' => ∃ o i j g, c = (none, i, j, o, g) ∧ Mh a.toList b.toList o.toList i j ∧ 1 ≤ i ∧ 2 ≤ j ∧ i ≤ a.size ∧ j ≤ b.size ∧ x + 1 + i + j ≤ a.size + b.size ∧ Kp st st')
    (Q := fun c st' => ∃ r z, c = (some r, z) ∧ Done a.toList b.toList r.toList ∧ Kp st st') ?_ ?_ ⟨_, _, _, _, rfl, m1, by omega, by omega, by omega, by omega, by omega, Kp.refl st⟩) ?_)
  · rintro x c st1 _ hx ⟨o, i, j, g, rfl, m, b1, b2, b3, b4, b5, kp⟩
    dsimp only
    refine wpS_bind (wpS_mono (wpS_forRange
      (I := fun y c st' => ∃ o' i' j' ac bc, c = (none, i', j', o', ac, bc) ∧ Mh a.toList b.toList o'.toList i' j' ∧ 1 ≤ i' ∧ 2 ≤ j' ∧ i' ≤ a.size ∧ j' ≤ b.size ∧ y + i' + j' ≤ i + j ∧ Kp st st')
      (Q := fun c st' => (∃ r z, c = (some r, z) ∧ Done a.toList b.toList r.toList ∧ Kp st st') ∨ ∃ o' i' j' ac bc, c = (none, i', j', o', ac, bc) ∧ Mh a.toList b.toList o'.toList i' j' ∧ 1 ≤ i' ∧ 2 ≤ j' ∧ i' ≤ a.size ∧ j' ≤ b.size ∧ 1 + i' + j' ≤ i + j ∧ Kp st st') ?_ ?_ ⟨_, _, _, _, _, rfl, m, b1, b2, b3, b4, by omega, kp⟩) ?_)
    · rintro y c st2 _ hy ⟨o', i', j', ac, bc, rfl, m', c1, c2, c3, c4, c5, kp'⟩
      dsimp only
      obtain ⟨i', rfl⟩ : ∃ n, i' = n + 1 := ⟨i' - 1, by omega⟩
      obtain ⟨j', rfl⟩ : ∃ n, j' = n + 1 := ⟨j' - 1, by omega⟩
      simp only [Nat.add_sub_cancel]
      obtain ⟨t1, q1, eb⟩ := elem_at hb (show j' < b.size by omega)
      obtain ⟨u1, r1, ea⟩ := elem_at ha (show i' < a.size by omega)
      have hk' : kindOf st2 = oneType' := kp'.kind.trans hk
      refine wpS_bind (wpS_elem eb (wpS_bind (wpS_elem ea (wpS_bind (wpS_lt hk' ?_)))))
      dsimp only
      by_cases hw : K b j' < K a i'
      · rw [decide_eq_true hw, if_pos rfl]
        have m2 := m'.a1 sa sb ea eb (show K b j' ≤ K a i' by omega)
        refine wpS_bind (wpS_elem ea ?_)
        by_cases z : i' = 0
        · rw [if_pos (by rw [z]; rfl)]
          exact wpS_pure (.inl ⟨_, _, rfl, m2.d0 sa sb (.inl z), kp'⟩)
        · rw [if_neg (by simpa using z)]
          split
          · exact wpS_pure (.inr ⟨_, _, _, _, _, rfl, m2, by omega, by omega, by omega, by omega, by omega, kp'⟩)
          · exact wpS_pure ⟨_, _, _, _, _, rfl, m2, by omega, by omega, by omega, by omega, by omega, kp'⟩
      · rw [decide_eq_false hw, if_neg (by decide)]
        have m2 := m'.b1 sa sb eb ea (show K a i' ≤ K b j' by omega)
        refine wpS_bind (wpS_elem eb ?_)
        by_cases z : j' = 1
        · rw [if_pos (by rw [z]; rfl)]
          exact wpS_pure (.inl ⟨_, _, rfl, m2.dF sa sb hf z, kp'⟩)
        · rw [if_neg (by simpa using z)]
          split
          · exact wpS_pure (.inr ⟨_, _, _, _, _, rfl, m2, by omega, by omega, by omega, by omega, by omega, kp'⟩)
          · exact wpS_pure ⟨_, _, _, _, _, rfl, m2, by omega, by omega, by omega, by omega, by omega, kp'⟩
    · rintro c st2 ⟨o', i', j', ac, bc, rfl, m', c1, c2, c3, c4, c5, kp'⟩
      omega
    · rintro c st2 (⟨r, z, rfl, dn, kp'⟩ | ⟨o', i', j', ac, bc, rfl, m', c1, c2, c3, c4, c5, kp'⟩)
      · exact wpS_pure ⟨r, _, rfl, dn, kp'⟩
      · dsimp only
        refine wpS_bind (wpS_lift (wpAny_rule ⟨rfl, ?_⟩))
        refine wpS_bind (wpS_mono (wpS_forRange
          (I := fun y c st' => ∃ o2 i2 j2 g2 ac bc, c = (none, i2, j2, o2, g2, ac, bc) ∧ Mh a.toList b.toList o2.toList i2 j2 ∧ 1 ≤ i2 ∧ 2 ≤ j2 ∧ i2 ≤ a.size ∧ j2 ≤ b.size ∧ y + i2 + j2 ≤ i' + j' ∧ Kp st st')
          (Q := fun c st' => (∃ r z, c = (some r, z) ∧ Done a.toList b.toList r.toList ∧ Kp st st') ∨ ∃ o2 i2 j2 g2 ac bc, c = (none, i2, j2, o2, g2, ac, bc) ∧ Mh a.toList b.toList o2.toList i2 j2 ∧ 1 ≤ i2 ∧ 2 ≤ j2 ∧ i2 ≤ a.size ∧ j2 ≤ b.size ∧ i2 + j2 ≤ i' + j' ∧ Kp st st') ?_ ?_ ⟨_, _, _, _, _, _, rfl, m', c1, c2, c3, c4, by omega, kp'⟩) ?_)
        · rintro y c st3 _ hy ⟨o2, i2, j2, g2, ac2, bc2, rfl, m2, e1, e2, e3, e4, e5, kp3⟩
          dsimp only
          obtain ⟨jB, rfl⟩ : ∃ n, j2 = n + 1 := ⟨j2 - 1, by omega⟩
          simp only [Nat.add_sub_cancel]
          obtain ⟨t2, q2, eb⟩ := elem_at hb (show jB < b.size by omega)
          by_cases hg : g2 > 1
          case' pos => rw [if_pos hg]
          case' neg => rw [if_neg hg]
          all_goals
            refine wpS_bind (wpS_setMin fun st4 kp4 => ?_)
            replace kp4 := kp3.trans kp4
            have hk4 : kindOf st4 = oneType' := kp4.kind.trans hk
            refine wpS_bind (wpS_elem eb ?_)
            refine wpS_bind (wpS_gallop (k := K b jB) ha hk4 (by omega) (by omega) (fun s t h1 h2 => K_srt sa (by omega) (by omega)) fun k g1 g2 g3 => ?_)
            simp only [Nat.zero_add] at g2 g3
            dsimp only
            by_cases hk0 : i2 - k > 0
            case' pos =>
              rw [if_pos hk0]
              have mA := m2.a sa g1 (fun x hx y hy => Int.le_trans (srt_tail sb eb x hx) (chunk_ge (v := K b jB) (fun t h1 h2 => Int.le_of_lt (bey_f.2 (g3 t h1 h2))) y hy))
              have mA : Mh a.toList b.toList (o2 ++ (a.extract k i2).reverse).toList k (jB + 1) := by rw [Array.toList_append, Array.toList_reverse, ext_mid]; exact mA
              by_cases z : k = 0
              · rw [if_pos (by rw [z]; rfl)]
                exact wpS_pure (.inl ⟨_, _, rfl, mA.d0 sa sb (.inl z), kp4⟩)
              rw [if_neg (by simpa using z)]
              have hle : K a (k - 1) ≤ K b jB := bey_f.1 (g2 (k - 1) (by omega))
              have i1 : 1 ≤ k ∧ k ≤ i2 := ⟨by omega, g1⟩
              generalize o2 ++ (a.extract k i2).reverse = oA at mA ⊢
              generalize i2 - k = kA
              generalize k = iA at mA hle i1 ⊢
            case' neg =>
              rw [if_neg hk0]
              have mA := m2
              have hle : K a (i2 - 1) ≤ K b jB := bey_f.1 (g2 (i2 - 1) (by omega))
              have i1 : 1 ≤ i2 ∧ i2 ≤ i2 := ⟨e1, Nat.le_refl _⟩
              generalize o2 = oA at mA ⊢
              generalize i2 - k = kA
              generalize hiA : i2 = iA at mA hle ⊢
              rw [hiA] at i1
              have i1 : 1 ≤ iA ∧ iA ≤ i2 := ⟨i1.1, by omega⟩
            all_goals
              obtain ⟨iB, rfl⟩ : ∃ n, iA = n + 1 := ⟨iA - 1, by omega⟩
              simp only [Nat.add_sub_cancel] at hle ⊢
              obtain ⟨u3, r3, eA⟩ := elem_at ha (show iB < a.size by omega)
              have mB := mA.b1 sa sb eb eA hle
              refine wpS_bind (wpS_elem eb ?_)
              by_cases z3 : jB = 1
              · rw [if_pos (by rw [z3]; rfl)]
                exact wpS_pure (.inl ⟨_, _, rfl, mB.dF sa sb hf z3, kp4⟩)
              rw [if_neg (by simpa using z3)]
              refine wpS_bind (wpS_elem eA ?_)
              refine wpS_bind (wpS_gallop (k := K a iB) hb hk4 (by omega) (by omega) (fun s t h1 h2 => K_srt sb (by omega) (by omega)) fun k2 p1 p2 p3 => ?_)
              simp only [Nat.zero_add] at p2 p3
              dsimp only
              by_cases hk2 : jB - k2 > 0
              case' pos =>
                rw [if_pos hk2]
                have mC := mB.b sb p1 (fun x hx y hy => Int.le_trans (srt_tail sa eA x hx) (chunk_ge (v := K a iB) (fun t h1 h2 => bey_t.2 (p3 t h1 h2)) y hy))
                rw [← ext_mid, ← Array.toList_reverse, ← Array.toList_append] at mC
                by_cases z4 : k2 = 1
                · rw [if_pos (by rw [z4]; rfl)]
                  exact wpS_pure (.inl ⟨_, _, rfl, mC.dF sa sb hf z4, kp4⟩)
                rw [if_neg (by simpa using z4)]
                by_cases z4' : k2 = 0
                · rw [if_pos (by rw [z4']; rfl)]
                  exact wpS_pure (.inl ⟨_, _, rfl, mC.d0 sa sb (.inr z4'), kp4⟩)
                rw [if_neg (by simpa using z4')]
                have hle2 : K b (k2 - 1) ≤ K a iB := Int.le_of_lt (bey_t.1 (p2 (k2 - 1) (by omega)))
                have j1 : 2 ≤ k2 ∧ k2 ≤ jB := ⟨by omega, p1⟩
                generalize oA.push (Value.int (K b jB) t2, q2) ++ (b.extract k2 jB).reverse = oB at mC ⊢
                generalize jB - k2 = kB
                generalize k2 = jC at mC hle2 j1 ⊢
              case' neg =>
                rw [if_neg hk2]
                have mC := mB
                have hle2 : K b (jB - 1) ≤ K a iB := Int.le_of_lt (bey_t.1 (p2 (jB - 1) (by omega)))
                generalize oA.push (Value.int (K b jB) t2, q2) = oB at mC ⊢
                generalize jB - k2 = kB
                generalize hjC : jB = jC at mC hle2 ⊢
                have j1 : 2 ≤ jC ∧ jC ≤ jB := ⟨by omega, by omega⟩
              all_goals
                obtain ⟨jD, rfl⟩ : ∃ n, jC = n + 1 := ⟨jC - 1, by omega⟩
                simp only [Nat.add_sub_cancel] at hle2
                obtain ⟨t5, q5, eB⟩ := elem_at hb (show jD < b.size by omega)
                have mD := mC.a1 sa sb eA eB hle2
                refine wpS_bind (wpS_elem eA ?_)
                by_cases z5 : iB = 0
                · rw [if_pos (by rw [z5]; rfl)]
                  exact wpS_pure (.inl ⟨_, _, rfl, mD.d0 sa sb (.inl z5), kp4⟩)
                rw [if_neg (by simpa using z5)]
                by_cases z6 : (decide (kA < 7) && decide (kB < 7)) = true
                · rw [if_pos z6]
                  exact wpS_pure (.inr ⟨_, _, _, _, _, _, rfl, mD, by omega, by omega, by omega, by omega, by omega, kp4⟩)
                · rw [if_neg z6]
                  exact wpS_pure ⟨_, _, _, _, _, _, rfl, mD, by omega, by omega, by omega, by omega, by omega, kp4⟩
        · rintro c st3 ⟨o2, i2, j2, g2, ac2, bc2, rfl, m2, e1, e2, e3, e4, e5, kp3⟩
          omega
        · rintro c st3 (⟨r, z, rfl, dn, kp3⟩ | ⟨o2, i2, j2, g2, ac2, bc2, rfl, m2, e1, e2, e3, e4, e5, kp3⟩)
          · exact wpS_pure ⟨r, _, rfl, dn, kp3⟩
          · dsimp only
            refine wpS_bind (wpS_setMin fun st4 kp4 => ?_)
            exact wpS_pure ⟨_, _, _, _, rfl, m2, e1, e2, e3, e4, by omega, kp3.trans kp4⟩
  · rintro c st1 ⟨o, i, j, g, rfl, m, b1, b2, b3, b4, b5, kp⟩
    omega
  · rintro c st1 ⟨r, z, rfl, dn, kp⟩
    exact wpS_pure (h r st1 dn kp)
end
end So
set_option maxRecDepth 100000
set_option maxHeartbeats 1000000
namespace So
open PySem PyProof.Rows
theorem set_mid {P : List Keyed} {x y : Keyed} {S : List Keyed} {n : Nat} (h : n = P.length) : (P ++ x :: S).set n y = P ++ y :: S := by
  subst h
  rw [List.set_append_right _ _ (Nat.le_refl _), Nat.sub_self]; rfl
theorem put_list (s : Nat) : ∀ (ys : List Keyed) (n : Nat) (xs : Array Keyed) (P M S : List Keyed), xs.toList = P ++ M ++ S → P.length = s + n → M.length = ys.length →
    ((ys.zipIdx n).foldl (fun a p => a.setIfInBounds (s + p.2) p.1) xs).toList = P ++ ys ++ S
  | [], n, xs, P, M, S, h, hp, hm => by
    have : M = [] := List.length_eq_zero_iff.mp hm
    subst this
    exact h
  | y :: ys, n, xs, P, M, S, h, hp, hm => by
    cases M with
    | nil => cases hm
    | cons x M =>
      rw [List.zipIdx_cons, List.foldl_cons]
      have h2 : (xs.setIfInBounds (s + n) y).toList = (P ++ [y]) ++ M ++ S := by
        rw [Array.toList_setIfInBounds, h]
        have : P ++ x :: M ++ S = P ++ x :: (M ++ S) := by simp
        rw [this, set_mid (by omega)]; simp
      rw [put_list s ys (n + 1) _ (P ++ [y]) M S h2 (by simp; omega) (by simpa using hm)]
      simp
section
variable {prog : Program} {w : World} {A : Around} {E : Value → Shared → Prop} {s : Shared}
theorem intKeys_sub {xs ys : Array Keyed} (h : IntKeys xs) (hs : ∀ p ∈ ys.toList, p ∈ xs.toList) : IntKeys ys := fun p hp => h p (hs p hp)
theorem srt_three {X M Y : List Keyed} (h1 : Srt X) (h2 : Srt M) (h3 : Srt Y) (h12 : ∀ x ∈ X, ∀ y ∈ M, Le x y) (h13 : ∀ x ∈ X, ∀ y ∈ Y, Le x y) (h23 : ∀ x ∈ M, ∀ y ∈ Y, Le x y) : Srt (X ++ M ++ Y) :=
  List.pairwise_append.mpr ⟨List.pairwise_append.mpr ⟨h1, h2, h12⟩, h3, fun x hx y hy => (List.mem_append.mp hx).elim (fun hx => h13 x hx y hy) (fun hx => h23 x hx y hy)⟩
theorem wpS_set {σ : Type} {M : Model} {x : σ} {Q : PUnit → σ → Prop} {st : σ} (h : Q ⟨⟩ x) : wpS M A E s (set x : StateT σ Sem PUnit) Q st := by
  unfold wpS; rw [StateT.run_set]; exact wpAny_pure ⟨rfl, h⟩
theorem seg_get {arr : Array Keyed} {P X S : List Keyed} {s0 t : Nat} (hl : arr.toList = P ++ X ++ S) (hp : P.length = s0) (ht : t < X.length) : arr[s0 + t]? = X[t]? := by
  rw [← Array.getElem?_toList, hl, List.append_assoc, List.getElem?_append_right (by omega), show s0 + t - P.length = t by omega, List.getElem?_append_left ht]
theorem seg_K {arr : Array Keyed} {P X S : List Keyed} {s0 t : Nat} (hl : arr.toList = P ++ X ++ S) (hp : P.length = s0) (ht : t < X.length) : K arr (s0 + t) = ke X[t] := by
  have := seg_get hl hp ht
  rw [List.getElem?_eq_getElem ht] at this
  exact K_ke this
theorem seg_srt {arr : Array Keyed} {P X S : List Keyed} {s0 : Nat} (hl : arr.toList = P ++ X ++ S) (hp : P.length = s0) (hs : Srt X) : ∀ i j, i ≤ j → j < X.length → K arr (s0 + i) ≤ K arr (s0 + j) := fun i j h1 h2 => by
  rw [seg_K hl hp (by omega), seg_K hl hp h2]
  rcases Nat.lt_or_ge i j with z | z
  · exact List.pairwise_iff_getElem.mp hs i j (by omega) h2 z
  · have : i = j := by omega
    subst this; exact Int.le_refl _
theorem mem_take_ix {X : List Keyed} {k : Nat} {x : Keyed} (h : x ∈ X.take k) : ∃ t, ∃ (ht : t < X.length), t < k ∧ X[t] = x := by
  obtain ⟨t, ht, e⟩ := List.mem_iff_getElem.mp h
  rw [List.length_take] at ht
  rw [List.getElem_take] at e
  exact ⟨t, by omega, by omega, e⟩
theorem mem_drop_ix {X : List Keyed} {k : Nat} {x : Keyed} (h : x ∈ X.drop k) : ∃ t, ∃ (ht : t < X.length), k ≤ t ∧ X[t] = x := by
  obtain ⟨t, ht, e⟩ := List.mem_iff_getElem.mp h
  rw [List.length_drop] at ht
  rw [List.getElem_drop] at e
  exact ⟨k + t, by omega, by omega, e⟩
theorem seg_ext {arr : Array Keyed} {P X S : List Keyed} {s0 e0 : Nat} (hl : arr.toList = P ++ X ++ S) (hp : P.length = s0) (he : e0 = s0 + X.length) : (arr.extract s0 e0).toList = X := by
  rw [ext_mid, hl, List.append_assoc]
  subst he
  rw [← hp, ← List.length_append, ← List.append_assoc, List.take_left, List.drop_left]
theorem wpS_mergeAt {st : SortSt} {i sa na pw sb nb pw2 : Nat} {P S RA RB : List Keyed} {Q : Bool → SortSt → Prop} (h0 : IntKeys (arrOf st)) (hk : kindOf st = oneType') (hfl : failedOf st = none)
    (p1 : (pendingOf st)[i]? = some (sa, na, pw)) (p2 : (pendingOf st)[i + 1]? = some (sb, nb, pw2)) (hl : (arrOf st).toList = P ++ RA ++ RB ++ S) (lP : P.length = sa) (lA : RA.length = na) (lB : RB.length = nb) (hsb : sb = sa + na) (n1 : 1 ≤ na) (n2 : 1 ≤ nb) (sA : Srt RA) (sB : Srt RB)
    (h : ∀ st' R, kindOf st' = oneType' → failedOf st' = none → pendingOf st' = ((pendingOf st).setIfInBounds i (sa, na + nb, pw)).eraseIdxIfInBounds (i + 1) → (arrOf st').toList = P ++ R ++ S → R.Perm (RA ++ RB) → Srt R → Q true st') : wpS (model prog w) A E s (mergeAt' i) Q st := by
  cases st with
  | mk kd arr pe gl fa =>
  dsimp only [arrOf, kindOf, pendingOf, failedOf] at h0 hk hfl p1 p2 hl
  refine wpS_bind (wpS_get ?_)
  dsimp only
  rw [p1, p2]
  dsimp only
  refine wpS_bind (wpS_set ?_)
  generalize hst2 : SortSt.mk' kd arr ((pe.setIfInBounds i (sa, na + nb, pw)).eraseIdxIfInBounds (i + 1)) gl fa = st2
  have k2 : kindOf st2 = oneType' := by rw [← hst2]; exact hk
  have f2 : failedOf st2 = none := by rw [← hst2]; exact hfl
  have pd2 : pendingOf st2 = (pe.setIfInBounds i (sa, na + nb, pw)).eraseIdxIfInBounds (i + 1) := by rw [← hst2]
  have ar2 : arrOf st2 = arr := by rw [← hst2]
  change wpS _ _ _ _ _ _ (SortSt.mk' kd arr ((pe.setIfInBounds i (sa, na + nb, pw)).eraseIdxIfInBounds (i + 1)) gl fa)
  rw [hst2]
  have hlA : arr.toList = P ++ RA ++ (RB ++ S) := by rw [hl]; simp
  have hlB : arr.toList = (P ++ RA) ++ RB ++ S := by rw [hl]
  have lPA : (P ++ RA).length = sb := by rw [List.length_append]; omega
  have hsz : arr.size = sa + na + nb + S.length := by
    have := congrArg List.length hl
    simp only [List.length_append, Array.length_toList] at this
    omega
  obtain ⟨t0, q0, eb0⟩ := elem_at h0 (show sb < arr.size by omega)
  have kb0 : K arr sb = ke RB[0] := seg_K (t := 0) hlB lPA (by omega)
  refine wpS_bind (wpS_elem eb0 ?_)
  refine wpS_bind (wpS_gallop (k := K arr sb) h0 k2 (by omega) (by omega) (fun i j h1 h2 => seg_srt hlA lP sA i j h1 (by omega)) fun k g1 g2 g3 => ?_)
  dsimp only
  have a1 : ∀ x ∈ RA.take k, ke x ≤ K arr sb := fun x hx => by
    obtain ⟨t, ht, hk', rfl⟩ := mem_take_ix hx
    rw [← seg_K hlA lP ht]; exact bey_f.1 (g2 t hk')
  have a2 : ∀ x ∈ RA.drop k, K arr sb < ke x := fun x hx => by
    obtain ⟨t, ht, hk', rfl⟩ := mem_drop_ix hx
    rw [← seg_K hlA lP ht]; exact bey_f.2 (g3 t hk' (by omega))
  have bb : ∀ x ∈ RB, K arr sb ≤ ke x := fun x hx => by
    obtain ⟨t, ht, rfl⟩ := List.mem_iff_getElem.mp hx
    rw [← seg_K hlB lPA ht]; exact seg_srt hlB lPA sB 0 t (by omega) ht
  by_cases z1 : na - k = 0
  · rw [if_pos (by rw [z1]; rfl)]
    refine wpS_pure (h st2 (RA ++ RB) k2 f2 pd2 (by rw [ar2, hl]; simp) (List.Perm.refl _) (List.pairwise_append.mpr ⟨sA, sB, fun x hx y hy => ?_⟩))
    have e : RA.take k = RA := List.take_of_length_le (by omega)
    exact Int.le_trans (a1 x (by rw [e]; exact hx)) (bb y hy)
  rw [if_neg (by simpa using z1)]
  have hla : sa + k + (na - k) - 1 = sa + (na - 1) := by omega
  rw [hla]
  obtain ⟨t1, q1, ea1⟩ := elem_at h0 (show sa + (na - 1) < arr.size by omega)
  have ka : K arr (sa + (na - 1)) = ke RA[na - 1] := seg_K hlA lP (by omega)
  refine wpS_bind (wpS_elem ea1 ?_)
  refine wpS_bind (wpS_gallop (k := K arr (sa + (na - 1))) h0 k2 (by omega) (by omega) (fun i j h1 h2 => seg_srt hlB lPA sB i j h1 (by omega)) fun m c1 c2 c3 => ?_)
  dsimp only
  have b1 : ∀ x ∈ RB.take m, ke x < K arr (sa + (na - 1)) := fun x hx => by
    obtain ⟨t, ht, hk', rfl⟩ := mem_take_ix hx
    rw [← seg_K hlB lPA ht]; exact bey_t.1 (c2 t hk')
  have b2 : ∀ x ∈ RB.drop m, K arr (sa + (na - 1)) ≤ ke x := fun x hx => by
    obtain ⟨t, ht, hk', rfl⟩ := mem_drop_ix hx
    rw [← seg_K hlB lPA ht]; exact bey_t.2 (c3 t hk' (by omega))
  have aa : ∀ x ∈ RA, ke x ≤ K arr (sa + (na - 1)) := fun x hx => by
    obtain ⟨t, ht, rfl⟩ := List.mem_iff_getElem.mp hx
    rw [← seg_K hlA lP ht]; exact seg_srt hlA lP sA t (na - 1) (by omega) (by omega)
  by_cases z2 : m = 0
  · rw [if_pos (by rw [z2]; rfl)]
    refine wpS_pure (h st2 (RA ++ RB) k2 f2 pd2 (by rw [ar2, hl]; simp) (List.Perm.refl _) (List.pairwise_append.mpr ⟨sA, sB, fun x hx y hy => ?_⟩))
    exact Int.le_trans (aa x hx) (b2 y (by rw [z2]; exact hy))
  rw [if_neg (by simpa using z2)]
  have eA : RA = RA.take k ++ RA.drop k := (List.take_append_drop k RA).symm
  have eB : RB = RB.take m ++ RB.drop m := (List.take_append_drop m RB).symm
  have hx : (arr.extract (sa + k) sb).toList = RA.drop k := seg_ext (P := P ++ RA.take k) (S := RB ++ S) (by rw [hlA, List.append_assoc P (RA.take k), List.take_append_drop]) (by rw [List.length_append, List.length_take]; omega) (by rw [List.length_drop]; omega)
  have hy : (arr.extract sb (sb + m)).toList = RB.take m := seg_ext (P := P ++ RA) (S := RB.drop m ++ S) (by rw [hlB, List.append_assoc (P ++ RA) (RB.take m), show RB.take m ++ (RB.drop m ++ S) = RB ++ S by rw [← List.append_assoc, List.take_append_drop], List.append_assoc (P ++ RA)]) lPA (by rw [List.length_take]; omega)
  generalize hX : arr.extract (sa + k) sb = X at hx
  generalize hY : arr.extract sb (sb + m) = Y at hy
  have lX : X.size = na - k := by rw [← Array.length_toList, hx, List.length_drop]; omega
  have lY : Y.size = m := by rw [← Array.length_toList, hy, List.length_take]; omega
  have iX : IntKeys X := intKeys_sub h0 fun p hp => by rw [hx] at hp; rw [hlA]; have := List.mem_of_mem_drop hp; simp [this]
  have iY : IntKeys Y := intKeys_sub h0 fun p hp => by rw [hy] at hp; rw [hlB]; have := List.mem_of_mem_take hp; simp [this]
  have sX : Srt X.toList := by rw [hx]; exact srt_drop sA k
  have sY : Srt Y.toList := by rw [hy]; exact srt_take sB m
  have memX : ∀ i, i < X.size → ∃ x ∈ RA.drop k, K X i = ke x := fun i hi => by
    have e : X[i]? = some X[i] := getElem?_pos _ i hi
    exact ⟨X[i], by rw [← hx]; simp, K_ke e⟩
  have memY : ∀ i, i < Y.size → ∃ x ∈ RB.take m, K Y i = ke x := fun i hi => by
    have e : Y[i]? = some Y[i] := getElem?_pos _ i hi
    exact ⟨Y[i], by rw [← hy]; simp, K_ke e⟩
  have q1 : ∀ x ∈ RA.drop k, ∀ y ∈ RB.take 1, Le y x := fun x hx y hy => by
    obtain ⟨t, ht, hk', rfl⟩ := mem_take_ix hy
    have : t = 0 := by omega
    subst this
    have := a2 x hx
    show ke RB[0] ≤ ke x
    rw [← kb0]; omega
  have h1 : K Y 0 ≤ K X 0 := by
    obtain ⟨x, hx', ex⟩ := memX 0 (by omega)
    have e : Y[0]? = some Y[0] := getElem?_pos _ 0 (by omega)
    rw [ex, K_ke e]
    refine q1 x hx' _ ?_
    have : Y.toList.take 1 = RB.take 1 := by rw [hy, List.take_take]; congr 1; omega
    rw [← this]
    have := drop_one e
    rw [List.drop_zero] at this
    rw [this]; simp
  have hlast : ∀ y ∈ Y.toList, ∀ x ∈ X.toList.drop (X.size - 1), Le y x := fun y hy' x hx' => by
    rw [hy] at hy'
    rw [hx, List.drop_drop] at hx'
    obtain ⟨t, ht, hk', rfl⟩ := mem_drop_ix hx'
    have : t = na - 1 := by omega
    subst this
    have := b1 y hy'
    show ke y ≤ ke RA[na - 1]
    rw [← ka]; omega
  have h1' : K Y (Y.size - 1) ≤ K X (X.size - 1) := by
    obtain ⟨y, hy', ey⟩ := memY (Y.size - 1) (by omega)
    have e : X[X.size - 1]? = some X[X.size - 1] := getElem?_pos _ _ (by omega)
    rw [ey, K_ke e]
    refine hlast y (by rw [hy]; exact hy') _ ?_
    rw [drop_one e]; simp
  have hfirst : ∀ y ∈ Y.toList.take 1, ∀ x ∈ X.toList, Le y x := fun y hy' x hx' => by
    rw [hy, List.take_take] at hy'
    rw [hx] at hx'
    exact q1 x hx' y (by rw [show min 1 m = 1 by omega] at hy'; exact hy')
  by_cases z3 : na - k ≤ m
  case' pos =>
    rw [if_pos z3]
    refine wpS_bind (wpS_mergeLo iX iY sX sY (by omega) (by omega) h1 hlast k2 fun r st3 dn kp => ?_)
  case' neg =>
    rw [if_neg z3]
    refine wpS_bind (wpS_mergeHi iX iY sX sY (by omega) (by omega) h1' hfirst k2 fun r st3 dn kp => ?_)
  all_goals
    rw [hx, hy] at dn
    have f3 : failedOf st3 = none := kp.fail.trans f2
    have ar3 : arrOf st3 = arr := kp.arr.trans ar2
    have pm : (RA.take k ++ r.toList ++ RB.drop m).Perm (RA ++ RB) := by
      have : RA ++ RB = RA.take k ++ (RA.drop k ++ RB.take m) ++ RB.drop m := by
        conv => lhs; rw [eA, eB]
        simp only [List.append_assoc]
      rw [this]
      exact List.Perm.append_right _ (List.Perm.append_left _ dn.perm)
    have inr : ∀ x ∈ r.toList, x ∈ RA.drop k ∨ x ∈ RB.take m := fun x hx' => List.mem_append.mp (dn.perm.mem_iff.mp hx')
    have sAA : Srt (RA.take k ++ RA.drop k) := by rw [← eA]; exact sA
    have sBB : Srt (RB.take m ++ RB.drop m) := by rw [← eB]; exact sB
    have sR : Srt (RA.take k ++ r.toList ++ RB.drop m) := srt_three (srt_take sA k) dn.srt (srt_drop sB m)
      (fun x hx' y hy' => (inr y hy').elim (fun hy' => (List.pairwise_append.mp sAA).2.2 x hx' y hy') (fun hy' => Int.le_trans (a1 x hx') (bb y (List.mem_of_mem_take hy'))))
      (fun x hx' y hy' => Int.le_trans (a1 x hx') (bb y (List.mem_of_mem_drop hy')))
      (fun x hx' y hy' => (inr x hx').elim (fun hx' => Int.le_trans (aa x (List.mem_of_mem_drop hx')) (b2 y hy')) (fun hx' => (List.pairwise_append.mp sBB).2.2 x hx' y hy'))
    have lr : r.toList.length = (RA.drop k ++ RB.take m).length := dn.perm.length_eq
    have hput := put_list (sa + k) r.toList 0 arr (P ++ RA.take k) (RA.drop k ++ RB.take m) (RB.drop m ++ S) (by
      rw [hl]
      conv => lhs; rw [eA, eB]
      simp only [List.append_assoc]) (by rw [List.length_append, List.length_take]; omega) lr.symm
    refine wpS_bind (wpS_modify (wpS_bind (wpS_get ?_)))
    have fin := h (SortSt.mk' (kindOf st3) (List.foldl (fun a x => a.setIfInBounds (sa + k + x.snd) x.fst) (arrOf st3) r.toList.zipIdx) (pendingOf st3) (gallopOf st3) (failedOf st3)) (RA.take k ++ r.toList ++ RB.drop m) (kp.kind.trans k2) f3 (kp.pend.trans pd2) (by
      show (List.foldl _ (arrOf st3) _).toList = _
      rw [ar3, hput]
      simp only [List.append_assoc]) pm sR
    show wpS _ _ _ _ (pure (failedOf st3).isNone) _ _
    rw [f3]
    exact wpS_pure fin
end
end So
set_option maxRecDepth 100000
set_option maxHeartbeats 1000000
namespace So
open PySem PyProof.Rows
def SrK (xs : Array Keyed) (lo k : Nat) : Prop := ∀ i j, i ≤ j → j < k → K xs (lo + i) ≤ K xs (lo + j)
structure Within (lo hi : Nat) (st st' : SortSt) : Prop where
  kind : kindOf st' = kindOf st
  pend : pendingOf st' = pendingOf st
  fail : failedOf st' = failedOf st
  perm : (arrOf st').Perm (arrOf st)
  out : ∀ t, (t < lo ∨ hi ≤ t) → (arrOf st')[t]? = (arrOf st)[t]?
theorem Within.refl (lo hi : Nat) (st : SortSt) : Within lo hi st st := ⟨rfl, rfl, rfl, Array.Perm.refl _, fun _ _ => rfl⟩
theorem Within.trans {lo hi : Nat} {a b c : SortSt} (h : Within lo hi a b) (h' : Within lo hi b c) : Within lo hi a c := ⟨h'.kind.trans h.kind, h'.pend.trans h.pend, h'.fail.trans h.fail, h'.perm.trans h.perm, fun t ht => (h'.out t ht).trans (h.out t ht)⟩
theorem Within.size {lo hi : Nat} {a b : SortSt} (h : Within lo hi a b) : (arrOf b).size = (arrOf a).size := h.perm.size_eq
theorem Within.ints {lo hi : Nat} {a b : SortSt} (h : Within lo hi a b) (h0 : IntKeys (arrOf a)) : IntKeys (arrOf b) := fun p hp => h0 p ((Array.perm_iff_toList_perm.mp h.perm).mem_iff.mp hp)
theorem within_set {lo hi : Nat} {st : SortSt} {ys : Array Keyed} (hp : ys.Perm (arrOf st)) (ho : ∀ t, (t < lo ∨ hi ≤ t) → ys[t]? = (arrOf st)[t]?) : Within lo hi st (setArr st ys) := ⟨rfl, rfl, rfl, hp, ho⟩
section
variable {prog : Program} {w : World} {A : Around} {E : Value → Shared → Prop} {s : Shared}
theorem wpS_ltI {st : SortSt} {i j : Nat} {Q : Option Bool → SortSt → Prop} (h0 : IntKeys (arrOf st)) (hk : kindOf st = oneType') (hi : i < (arrOf st).size) (hj : j < (arrOf st).size) (h : Q (some (decide (K (arrOf st) i < K (arrOf st) j))) st) : wpS (model prog w) A E s (ltAt' i j) Q st := by
  obtain ⟨t, p, e1⟩ := elem_at h0 hi
  obtain ⟨u, q, e2⟩ := elem_at h0 hj
  exact wpS_ltAt hk e1 e2 h
theorem wpS_binary {st : SortSt} {lo n ok : Nat} {Q : Bool → SortSt → Prop} (h0 : IntKeys (arrOf st)) (hk : kindOf st = oneType') (hn : lo + n ≤ (arrOf st).size) (hok : ok ≤ n) (hs : SrK (arrOf st) lo ok)
    (h : ∀ st', Within lo (lo + n) st st' → SrK (arrOf st') lo n → Q true st') : wpS (model prog w) A E s (binarySort' lo n ok) Q st := by
  refine wpS_bind (wpS_mono (wpS_forRange
    (I := fun x c st' => c = (none, ()) ∧ Within lo (lo + n) st st' ∧ SrK (arrOf st') lo x)
    (Q := fun c st' => c = (none, ()) ∧ Within lo (lo + n) st st' ∧ SrK (arrOf st') lo n) ?_ ?_ ⟨rfl, Within.refl _ _ _, ?_⟩) ?_)
  · rintro k c st1 hk1 hkn ⟨rfl, W, S⟩
    have sz := W.size
    have i0 := W.ints h0
    have kd : kindOf st1 = oneType' := W.kind.trans hk
    dsimp only
    refine wpS_bind (wpS_mono (wpS_forRange
      (I := fun y c st' => st' = st1 ∧ ∃ l r, c = (none, l, r) ∧ l ≤ r ∧ r ≤ k ∧ r - l ≤ k - y ∧ (∀ t, t < l → K (arrOf st1) (lo + t) ≤ K (arrOf st1) (lo + k)) ∧ (∀ t, r ≤ t → t < k → K (arrOf st1) (lo + k) < K (arrOf st1) (lo + t)))
      (Q := fun c st' => st' = st1 ∧ ∃ l, c = (none, l, l) ∧ l ≤ k ∧ (∀ t, t < l → K (arrOf st1) (lo + t) ≤ K (arrOf st1) (lo + k)) ∧ (∀ t, l ≤ t → t < k → K (arrOf st1) (lo + k) < K (arrOf st1) (lo + t))) ?_ ?_ ⟨rfl, 0, k, rfl, by omega, by omega, by omega, fun t ht => by omega, fun t h1 h2 => by omega⟩) ?_)
    · rintro y c st2 _ hy ⟨rfl, l, r, rfl, b1, b2, b3, b4, b5⟩
      dsimp only
      by_cases z : l ≥ r
      · rw [if_pos z]
        have : l = r := by omega
        subst this
        exact wpS_pure ⟨rfl, l, rfl, by omega, b4, b5⟩
      · rw [if_neg z]
        refine wpS_bind (wpS_ltI i0 kd (by omega) (by omega) ?_)
        dsimp only
        by_cases hc : K (arrOf st2) (lo + k) < K (arrOf st2) (lo + (l + r) / 2)
        · rw [decide_eq_true hc, if_pos rfl]
          refine wpS_pure ⟨rfl, _, _, rfl, by omega, by omega, by omega, b4, fun t h1 h2 => ?_⟩
          have := S ((l + r) / 2) t h1 h2
          omega
        · rw [decide_eq_false hc, if_neg (by decide)]
          refine wpS_pure ⟨rfl, _, _, rfl, by omega, by omega, by omega, fun t ht => ?_, b5⟩
          have := S t ((l + r) / 2) (by omega) (by omega)
          omega
    · rintro c st2 ⟨rfl, l, r, rfl, b1, b2, b3, b4, b5⟩
      have : l = r := by omega
      subst this
      exact ⟨rfl, l, rfl, by omega, b4, b5⟩
    · rintro c st2 ⟨rfl, l, rfl, b1, b4, b5⟩
      dsimp only
      refine wpS_bind (wpS_modify ?_)
      have hsrc : lo + k < (arrOf st2).size := by omega
      have hd : lo + k - (lo + l) ≤ lo + k := by omega
      refine wpS_pure ⟨rfl, W.trans (within_set (bubble_perm _ _ _) fun t ht => ?_), fun i j h1 h2 => ?_⟩
      · show (bubble (arrOf st2) (lo + k) (lo + k - (lo + l)))[t]? = _
        rw [getElem?_bubble hsrc _ hd, if_neg (by omega), if_neg (by omega)]
      · show K (bubble (arrOf st2) (lo + k) (lo + k - (lo + l))) (lo + i) ≤ K (bubble (arrOf st2) (lo + k) (lo + k - (lo + l))) (lo + j)
        rw [K_bubble hsrc hd, K_bubble hsrc hd]
        have e : lo + k - (lo + k - (lo + l)) = lo + l := by omega
        rw [e]
        by_cases c1 : i = l
        · rw [if_pos (by omega)]
          by_cases c2 : j = l
          · rw [if_pos (by omega)]; exact Int.le_refl _
          · rw [if_neg (by omega), if_pos (by omega), show lo + j - 1 = lo + (j - 1) by omega]
            exact Int.le_of_lt (b5 (j - 1) (by omega) (by omega))
        · rw [if_neg (by omega)]
          by_cases c3 : l < i
          · rw [if_pos (by omega), if_neg (by omega), if_pos (by omega), show lo + i - 1 = lo + (i - 1) by omega, show lo + j - 1 = lo + (j - 1) by omega]
            exact S (i - 1) (j - 1) (by omega) (by omega)
          · rw [if_neg (by omega)]
            by_cases c2 : j = l
            · rw [if_pos (by omega)]; exact b4 i (by omega)
            · rw [if_neg (by omega)]
              by_cases c4 : l < j
              · rw [if_pos (by omega), show lo + j - 1 = lo + (j - 1) by omega]
                exact S i (j - 1) (by omega) (by omega)
              · rw [if_neg (by omega)]
                exact S i j h1 (by omega)
  · rintro c st1 ⟨rfl, W, S⟩
    refine ⟨rfl, W, fun i j h1 h2 => S i j h1 (by omega)⟩
  · intro i j h1 h2
    by_cases z : ok = 0
    · have : i = j := by omega
      subst this; exact Int.le_refl _
    · exact hs i j h1 (by omega)
  · rintro c st1 ⟨rfl, W, S⟩
    exact wpS_pure (h st1 W S)
end
end So
set_option maxRecDepth 100000
set_option maxHeartbeats 2000000
namespace So
open PySem PyProof.Rows
section
variable {prog : Program} {w : World} {A : Around} {E : Value → Shared → Prop} {s : Shared}
theorem wpS_rev {st : SortSt} {lo hi i j : Nat} {Q : Unit → SortSt → Prop} (hi1 : lo ≤ i) (hj : j ≤ hi) (hs : hi ≤ (arrOf st).size) (h : ∀ st', Within lo hi st st' → (∀ k, K (arrOf st') k = if i ≤ k ∧ k < j then K (arrOf st) (i + j - 1 - k) else K (arrOf st) k) → Q () st') : wpS (model prog w) A E s (reverseSlice' i j) Q st := by
  rw [reverseSlice'_eq]
  refine wpS_modify (h _ (within_set (mirror_perm _ _ _ _) fun t ht => ?_) fun k => K_mirror (by omega) k)
  rw [getElem?_mirror_all (by omega), if_neg (by omega)]
theorem keepK {xs ys : Array Keyed} {i j : Nat} (KK : ∀ k, K ys k = if i ≤ k ∧ k < j then K xs (i + j - 1 - k) else K xs k) (e : ∀ k, i ≤ k → k < j → K xs k = K xs (j - 1)) (k : Nat) : K ys k = K xs k := by
  rw [KK k]
  split
  · rename_i hh
    rw [e (i + j - 1 - k) (by omega) (by omega), e k hh.1 hh.2]
  · rfl
theorem wpS_run {st : SortSt} {lo nrem : Nat} {Q : Option Nat → SortSt → Prop} (h0 : IntKeys (arrOf st)) (hk : kindOf st = oneType') (hn : lo + nrem ≤ (arrOf st).size) (h1 : 1 ≤ nrem)
    (h : ∀ n st', 1 ≤ n → n ≤ nrem → Within lo (lo + nrem) st st' → SrK (arrOf st') lo n → Q (some n) st') : wpS (model prog w) A E s (countRun' lo nrem) Q st := by
  refine wpS_bind (wpS_mono (wpS_forRange
    (I := fun x c st' => st' = st ∧ c = (none, x) ∧ x ≤ nrem ∧ SrK (arrOf st) lo x)
    (Q := fun c st' => st' = st ∧ ∃ n, c = (none, n) ∧ 1 ≤ n ∧ n ≤ nrem ∧ SrK (arrOf st) lo n ∧ (n < nrem → K (arrOf st) (lo + n) < K (arrOf st) (lo + n - 1))) ?_ ?_ ⟨rfl, rfl, h1, fun i j h2 h3 => by rw [show i = j by omega]; exact Int.le_refl _⟩) ?_)
  · rintro x c st1 hx1 hx ⟨rfl, rfl, b1, S⟩
    dsimp only
    refine wpS_bind (wpS_ltI h0 hk (by omega) (by omega) ?_)
    dsimp only
    by_cases hc : K (arrOf st1) (lo + x) < K (arrOf st1) (lo + x - 1)
    · rw [decide_eq_true hc, if_pos rfl]
      exact wpS_pure ⟨rfl, x, rfl, hx1, b1, S, fun _ => hc⟩
    · rw [decide_eq_false hc, if_neg (by decide)]
      refine wpS_pure ⟨rfl, rfl, by omega, fun i j h2 h3 => ?_⟩
      by_cases z : j = x
      · subst z
        by_cases z2 : i = j
        · rw [z2]; exact Int.le_refl _
        · have := S i (j - 1) (by omega) (by omega)
          rw [show lo + (j - 1) = lo + j - 1 by omega] at this
          omega
      · exact S i j h2 (by omega)
  · rintro c st1 ⟨rfl, rfl, b1, S⟩
    exact ⟨rfl, _, rfl, by omega, b1, S, fun z => by omega⟩
  · rintro c st1 ⟨rfl, n, rfl, b1, b2, S, b3⟩
    dsimp only
    by_cases z1 : n = nrem
    · rw [if_pos (by rw [z1]; exact beq_self_eq_true _)]
      exact wpS_pure (h n st1 b1 b2 (Within.refl _ _ _) S)
    rw [if_neg (by simpa using z1)]
    have b3 := b3 (by omega)
    have start : ∃ stA, stA = st1 := ⟨_, rfl⟩
    by_cases z2 : n > 1
    case' pos =>
      rw [if_pos z2]
      refine wpS_bind (wpS_ltI h0 hk (by omega) (by omega) ?_)
      dsimp only
      by_cases hc : K (arrOf st1) lo < K (arrOf st1) (lo + n - 1)
      · rw [decide_eq_true hc, if_pos rfl]
        exact wpS_pure (h n st1 b1 b2 (Within.refl _ _ _) S)
      rw [decide_eq_false hc, if_neg (by decide)]
      refine wpS_bind (wpS_rev (lo := lo) (hi := lo + nrem) (Nat.le_refl _) (by omega) hn fun st2 W KK => ?_)
      have eqs : ∀ t, t < n → K (arrOf st1) (lo + t) = K (arrOf st1) (lo + n - 1) := fun t ht => by
        have e1 := S 0 t (by omega) ht
        have e2 := S t (n - 1) (by omega) (by omega)
        rw [show lo + (n - 1) = lo + n - 1 by omega] at e2
        rw [Nat.add_zero] at e1
        omega
      have same : ∀ k, K (arrOf st2) k = K (arrOf st1) k := fun k => by
        rw [KK k]
        split
        · rename_i hh
          have e1 := eqs (lo + (lo + n) - 1 - k - lo) (by omega)
          have e2 := eqs (k - lo) (by omega)
          rw [show lo + (lo + (lo + n) - 1 - k - lo) = lo + (lo + n) - 1 - k by omega] at e1
          rw [show lo + (k - lo) = k by omega] at e2
          rw [e1, e2]
        · rfl
      have eqs : ∀ t, t < n → K (arrOf st2) (lo + t) = K (arrOf st2) (lo + n - 1) := fun t ht => by rw [same, same]; exact eqs t ht
      have b3 : K (arrOf st2) (lo + n) < K (arrOf st2) (lo + n - 1) := by rw [same, same]; exact b3
    case' neg =>
      rw [if_neg z2]
      have W : Within lo (lo + nrem) st1 st1 := Within.refl _ _ _
      have eqs : ∀ t, t < n → K (arrOf st1) (lo + t) = K (arrOf st1) (lo + n - 1) := fun t ht => by rw [show lo + t = lo + n - 1 by omega]
      generalize hst2 : st1 = st2 at eqs b3 ⊢
      have W : Within lo (lo + nrem) st1 st2 := by rw [← hst2]; exact Within.refl _ _ _
    all_goals
      clear start
      refine wpS_bind (wpS_lift (wpAny_rule ⟨rfl, ?_⟩))
      refine wpS_bind (wpS_mono (wpS_forRange
        (I := fun x c st' => ∃ q, c = (none, x, q) ∧ x ≤ nrem ∧ q + 1 ≤ x ∧ Within lo (lo + nrem) st1 st' ∧ (∀ i j, i ≤ j → j < x → K (arrOf st') (lo + j) ≤ K (arrOf st') (lo + i)) ∧ (∀ t, x - 1 - q ≤ t → t < x → K (arrOf st') (lo + t) = K (arrOf st') (lo + x - 1)))
        (Q := fun c st' => ∃ m q, c = (none, m, q) ∧ 1 ≤ m ∧ m ≤ nrem ∧ q + 1 ≤ m ∧ Within lo (lo + nrem) st1 st' ∧ (∀ i j, i ≤ j → j < m → K (arrOf st') (lo + j) ≤ K (arrOf st') (lo + i)) ∧ (∀ t, m - 1 - q ≤ t → t < m → K (arrOf st') (lo + t) = K (arrOf st') (lo + m - 1))) ?_ ?_ ⟨0, rfl, by omega, by omega, W, fun i j h2 h3 => ?_, fun t h2 h3 => by rw [show lo + t = lo + (n + 1) - 1 by omega]⟩) ?_)
      · rintro x c st3 hx1 hx ⟨q, rfl, c1, c2, W3, N3, E3⟩
        dsimp only
        have i3 := W3.ints h0
        have k3 : kindOf st3 = oneType' := W3.kind.trans hk
        have s3 := W3.size
        refine wpS_bind (wpS_ltI i3 k3 (by omega) (by omega) ?_)
        dsimp only
        by_cases hc : K (arrOf st3) (lo + x) < K (arrOf st3) (lo + x - 1)
        · rw [decide_eq_true hc, if_pos rfl]
          have N4 : ∀ i j, i ≤ j → j < x + 1 → K (arrOf st3) (lo + j) ≤ K (arrOf st3) (lo + i) := fun i j h2 h3 => by
            by_cases z : j = x
            · subst z
              by_cases z2 : i = j
              · rw [z2]; exact Int.le_refl _
              · have := N3 i (j - 1) (by omega) (by omega)
                rw [show lo + (j - 1) = lo + j - 1 by omega] at this
                omega
            · exact N3 i j h2 (by omega)
          by_cases zq : q > 0
          · rw [if_pos zq]
            refine wpS_bind (wpS_rev (lo := lo) (hi := lo + nrem) (by omega) (by omega) (by omega) fun st4 W4 KK => ?_)
            have same := keepK KK (fun k h2 h3 => by
              have := E3 (k - lo) (by omega) (by omega)
              rw [show lo + (k - lo) = k by omega] at this
              exact this)
            refine wpS_pure ⟨0, rfl, by omega, by omega, W3.trans W4, fun i j h2 h3 => by rw [same, same]; exact N4 i j h2 h3, fun t h2 h3 => by rw [show lo + t = lo + (x + 1) - 1 by omega]⟩
          · rw [if_neg zq]
            exact wpS_pure ⟨0, rfl, by omega, by omega, W3, N4, fun t h2 h3 => by rw [show lo + t = lo + (x + 1) - 1 by omega]⟩
        · rw [decide_eq_false hc, if_neg (by decide)]
          refine wpS_bind (wpS_ltI i3 k3 (by omega) (by omega) ?_)
          dsimp only
          by_cases hd : K (arrOf st3) (lo + x - 1) < K (arrOf st3) (lo + x)
          · rw [decide_eq_true hd, if_pos rfl]
            exact wpS_pure ⟨x, q, rfl, by omega, c1, c2, W3, N3, E3⟩
          · rw [decide_eq_false hd, if_neg (by decide)]
            have eq : K (arrOf st3) (lo + x) = K (arrOf st3) (lo + x - 1) := by omega
            refine wpS_pure ⟨q + 1, rfl, by omega, by omega, W3, fun i j h2 h3 => ?_, fun t h2 h3 => ?_⟩
            · by_cases z : j = x
              · subst z
                by_cases z2 : i = j
                · rw [z2]; exact Int.le_refl _
                · have := N3 i (j - 1) (by omega) (by omega)
                  rw [show lo + (j - 1) = lo + j - 1 by omega] at this
                  omega
              · exact N3 i j h2 (by omega)
            · rw [show lo + (x + 1) - 1 = lo + x by omega, eq]
              by_cases z : t = x
              · rw [z, eq]
              · exact E3 t (by omega) (by omega)
      · rintro c st3 ⟨q, rfl, c1, c2, W3, N3, E3⟩
        exact ⟨_, q, rfl, by omega, c1, c2, W3, N3, E3⟩
      · by_cases z : j = n
        · subst z
          by_cases z2 : i = j
          · rw [z2]; exact Int.le_refl _
          · have := eqs i (by omega)
            omega
        · have e1 := eqs i (by omega)
          have e2 := eqs j (by omega)
          omega
      · rintro c st3 ⟨m, q, rfl, c0, c1, c2, W3, N3, E3⟩
        dsimp only
        have s3 := W3.size
        have start : ∃ stA, stA = st3 := ⟨_, rfl⟩
        by_cases zq : q > 0
        case' pos =>
          rw [if_pos zq]
          refine wpS_bind (wpS_rev (lo := lo) (hi := lo + nrem) (by omega) (by omega) (by omega) fun st4 W4 KK => ?_)
          have same := keepK KK (fun k h2 h3 => by
            have := E3 (k - lo) (by omega) (by omega)
            rw [show lo + (k - lo) = k by omega] at this
            exact this)
          have N4 : ∀ i j, i ≤ j → j < m → K (arrOf st4) (lo + j) ≤ K (arrOf st4) (lo + i) := fun i j h2 h3 => by rw [same, same]; exact N3 i j h2 h3
          replace W4 := W3.trans W4
        case' neg =>
          rw [if_neg zq]
          have N4 := N3
          have W4 := W3
          generalize hst4 : st3 = st4 at N4 W4 ⊢
        all_goals
          have s4 := W4.size
          refine wpS_bind (wpS_rev (lo := lo) (hi := lo + nrem) (by omega) (by omega) (by omega) fun st5 W5 KK5 => ?_)
          replace W5 := W4.trans W5
          have s5 := W5.size
          have i5 := W5.ints h0
          have k5 : kindOf st5 = oneType' := W5.kind.trans hk
          have S5 : SrK (arrOf st5) lo m := fun i j h2 h3 => by
            rw [KK5 (lo + i), KK5 (lo + j), if_pos (by omega), if_pos (by omega), show lo + (lo + m) - 1 - (lo + i) = lo + (m - 1 - i) by omega, show lo + (lo + m) - 1 - (lo + j) = lo + (m - 1 - j) by omega]
            exact N4 (m - 1 - j) (m - 1 - i) (by omega) (by omega)
          refine wpS_bind (wpS_mono (wpS_forRange
            (I := fun x c st' => st' = st5 ∧ c = (none, x) ∧ x ≤ nrem ∧ SrK (arrOf st5) lo x)
            (Q := fun c st' => st' = st5 ∧ ∃ n, c = (none, n) ∧ 1 ≤ n ∧ n ≤ nrem ∧ SrK (arrOf st5) lo n) ?_ ?_ ⟨rfl, rfl, c1, S5⟩) ?_)
          · rintro x c st6 hx1 hx ⟨rfl, rfl, d1, S6⟩
            dsimp only
            refine wpS_bind (wpS_ltI i5 k5 (by omega) (by omega) ?_)
            dsimp only
            by_cases hc : K (arrOf st6) (lo + x) < K (arrOf st6) (lo + x - 1)
            · rw [decide_eq_true hc, if_pos rfl]
              exact wpS_pure ⟨rfl, x, rfl, by omega, d1, S6⟩
            · rw [decide_eq_false hc, if_neg (by decide)]
              refine wpS_pure ⟨rfl, rfl, by omega, fun i j h2 h3 => ?_⟩
              by_cases z : j = x
              · subst z
                by_cases z2 : i = j
                · rw [z2]; exact Int.le_refl _
                · have := S6 i (j - 1) (by omega) (by omega)
                  rw [show lo + (j - 1) = lo + j - 1 by omega] at this
                  omega
              · exact S6 i j h2 (by omega)
          · rintro c st6 ⟨rfl, rfl, d1, S6⟩
            exact ⟨rfl, _, rfl, by omega, d1, S6⟩
          · rintro c st6 ⟨rfl, n', rfl, d0, d1, S6⟩
            exact wpS_pure (h n' st6 d0 d1 W5 S6)
end
end So
set_option maxRecDepth 100000
set_option maxHeartbeats 2000000
namespace So
open PySem PyProof.Rows
def RunsOk : Nat → List (Nat × Nat × Nat) → List (List Keyed) → Prop
  | _, [], [] => True
  | s, p :: r, X :: Xs => p.1 = s ∧ p.2.1 = X.length ∧ 1 ≤ X.length ∧ Srt X ∧ RunsOk (s + X.length) r Xs
  | _, _, _ => False
theorem runs_len : ∀ {s : Nat} {ps : List (Nat × Nat × Nat)} {Xs : List (List Keyed)}, RunsOk s ps Xs → ps.length = Xs.length
  | _, [], [], _ => rfl
  | _, _ :: _, _ :: _, h => by rw [List.length_cons, List.length_cons, runs_len h.2.2.2.2]
  | _, [], _ :: _, h => h.elim
  | _, _ :: _, [], h => h.elim
theorem runs_at : ∀ (i s : Nat) (ps : List (Nat × Nat × Nat)) (Xs : List (List Keyed)), RunsOk s ps Xs → i + 1 < ps.length → ∃ Pre X Y Post pw pw2, Xs = Pre ++ X :: Y :: Post ∧ ps[i]? = some (s + Pre.flatten.length, X.length, pw) ∧ ps[i + 1]? = some (s + Pre.flatten.length + X.length, Y.length, pw2) ∧ 1 ≤ X.length ∧ 1 ≤ Y.length ∧ Srt X ∧ Srt Y ∧
    ∀ R : List Keyed, R.length = X.length + Y.length → Srt R → RunsOk s ((ps.set i (s + Pre.flatten.length, X.length + Y.length, pw)).eraseIdx (i + 1)) (Pre ++ R :: Post)
  | 0, s, ps, Xs, h, hl => by
    match ps, Xs, h, hl with
    | p :: q :: r, X :: Y :: Xs, ⟨h1, h2, h3, h4, h5, h6, h7, h8, h9⟩, _ =>
      refine ⟨[], X, Y, Xs, p.2.2, q.2.2, rfl, ?_, ?_, h3, h7, h4, h8, fun R hR sR => ?_⟩
      · show some p = _
        rw [← h2]
        exact congrArg some (Prod.ext h1 rfl)
      · show some q = _
        rw [← h6]
        exact congrArg some (Prod.ext h5 rfl)
      · refine ⟨rfl, hR.symm, by omega, sR, ?_⟩
        rw [hR, ← Nat.add_assoc]; exact h9
  | i + 1, s, ps, Xs, h, hl => by
    match ps, Xs, h, hl with
    | p :: r, X0 :: Xs, ⟨h1, h2, h3, h4, h5⟩, hl =>
      obtain ⟨Pre, X, Y, Post, pw, pw2, e, g1, g2, g3, g4, g5, g6, g7⟩ := runs_at i (s + X0.length) r Xs h5 (by simpa using hl)
      refine ⟨X0 :: Pre, X, Y, Post, pw, pw2, by rw [e]; rfl, ?_, ?_, g3, g4, g5, g6, fun R hR sR => ?_⟩
      · show r[i]? = _
        rw [g1, List.flatten_cons, List.length_append, ← Nat.add_assoc]
      · show r[i + 1]? = _
        rw [g2, List.flatten_cons, List.length_append, ← Nat.add_assoc s]
      · have := g7 R hR sR
        rw [List.flatten_cons, List.length_append, ← Nat.add_assoc]
        exact ⟨h1, h2, h3, h4, this⟩
theorem runs_push : ∀ {s : Nat} {ps : List (Nat × Nat × Nat)} {Xs : List (List Keyed)} {X : List Keyed} {pw : Nat}, RunsOk s ps Xs → 1 ≤ X.length → Srt X → RunsOk s (ps ++ [(s + Xs.flatten.length, X.length, pw)]) (Xs ++ [X])
  | s, [], [], X, pw, _, h1, h2 => ⟨rfl, rfl, h1, h2, trivial⟩
  | s, p :: r, X0 :: Xs, X, pw, ⟨g1, g2, g3, g4, g5⟩, h1, h2 => by
    refine ⟨g1, g2, g3, g4, ?_⟩
    have := runs_push (pw := pw) g5 h1 h2
    rw [List.flatten_cons, List.length_append, ← Nat.add_assoc]
    exact this
theorem runs_pow : ∀ {s : Nat} {ps ps' : List (Nat × Nat × Nat)} {Xs : List (List Keyed)}, RunsOk s ps Xs → ps'.map (fun p => (p.1, p.2.1)) = ps.map (fun p => (p.1, p.2.1)) → RunsOk s ps' Xs
  | s, [], [], [], _, _ => trivial
  | s, p :: r, p' :: r', X :: Xs, ⟨h1, h2, h3, h4, h5⟩, e => by
    rw [List.map_cons, List.map_cons] at e
    obtain ⟨e1, e2⟩ := List.cons.inj e
    obtain ⟨f1, f2⟩ := Prod.mk.inj e1
    exact ⟨f1.trans h1, f2.trans h2, h3, h4, runs_pow h5 e2⟩
  | s, p :: r, [], _, _, e => by cases e
  | s, [], p :: r, _, _, e => by cases e
  | s, p :: r, p' :: r', [], h, _ => h.elim
structure IV (a₀ : Array Keyed) (st : SortSt) (lo : Nat) (S : List Keyed) : Prop where
  kind : kindOf st = oneType'
  fail : failedOf st = none
  perm : (arrOf st).Perm a₀
  runs : ∃ Xs, (arrOf st).toList = Xs.flatten ++ S ∧ RunsOk 0 (pendingOf st).toList Xs ∧ Xs.flatten.length = lo
section
variable {prog : Program} {w : World} {A : Around} {E : Value → Shared → Prop} {s : Shared}
theorem IV.ints {a₀ : Array Keyed} {st : SortSt} {lo : Nat} {S : List Keyed} (h : IV a₀ st lo S) (h0 : IntKeys a₀) : IntKeys (arrOf st) := fun p hp => h0 p ((Array.perm_iff_toList_perm.mp h.perm).mem_iff.mp hp)
theorem wpS_mergeStep {a₀ : Array Keyed} {st : SortSt} {lo i : Nat} {S : List Keyed} {Q : Bool → SortSt → Prop} (h0 : IntKeys a₀) (V : IV a₀ st lo S) (hi : i + 1 < (pendingOf st).size) (h : ∀ st', IV a₀ st' lo S → (pendingOf st').size + 1 = (pendingOf st).size → Q true st') : wpS (model prog w) A E s (mergeAt' i) Q st := by
  obtain ⟨Xs, e1, e2, e3⟩ := V.runs
  obtain ⟨Pre, X, Y, Post, pw, pw2, rfl, g1, g2, g3, g4, g5, g6, g7⟩ := runs_at i 0 _ _ e2 (by simpa using hi)
  rw [Nat.zero_add] at g1 g2 g7
  rw [Array.getElem?_toList] at g1 g2
  have hl : (arrOf st).toList = Pre.flatten ++ X ++ Y ++ (Post.flatten ++ S) := by
    rw [e1]; simp
  refine wpS_mergeAt (V.ints h0) V.kind V.fail g1 g2 hl rfl rfl rfl rfl g3 g4 g5 g6 fun st' R k1 k2 k3 k4 k5 k6 => ?_
  have lR : R.length = X.length + Y.length := by rw [k5.length_eq, List.length_append]
  refine h st' ⟨k1, k2, ?_, Pre ++ R :: Post, ?_, ?_, ?_⟩ ?_
  · refine Array.Perm.trans ?_ V.perm
    rw [Array.perm_iff_toList_perm, k4, hl]
    have : Pre.flatten ++ X ++ Y ++ (Post.flatten ++ S) = Pre.flatten ++ (X ++ Y) ++ (Post.flatten ++ S) := by simp
    rw [this]
    exact List.Perm.append_right _ (List.Perm.append_left _ k5)
  · rw [k4]; simp
  · rw [k3]
    have := g7 R lR k6
    rw [Array.toList_eraseIdxIfInBounds, Array.toList_setIfInBounds]
    exact this
  · rw [← e3]; simp [lR]; omega
  · rw [k3]
    have hi' : i + 1 < ((pendingOf st).setIfInBounds i (Pre.flatten.length, X.length + Y.length, pw)).size := by simpa using hi
    rw [← Array.length_toList, Array.toList_eraseIdxIfInBounds, List.length_eraseIdx]
    rw [if_pos (by simpa using hi)]
    simp
    omega
end
end So
set_option maxRecDepth 100000
set_option maxHeartbeats 2000000
namespace So
open PySem PyProof.Rows
theorem map_modify {α β : Type} {g : α → β} {f : α → α} (h : ∀ x, g (f x) = g x) : ∀ (l : List α) (i : Nat), (l.modify i f).map g = l.map g
  | [], i => by simp
  | x :: l, 0 => by simp [h]
  | x :: l, i + 1 => by simp [map_modify h l i]
theorem runs_many : ∀ {s : Nat} {ps : List (Nat × Nat × Nat)} {Xs : List (List Keyed)}, RunsOk s ps Xs → Xs.length ≤ Xs.flatten.length
  | _, [], [], _ => Nat.le_refl _
  | _, _ :: _, X :: Xs, h => by
    have := runs_many h.2.2.2.2
    have := h.2.2.1
    rw [List.length_cons, List.flatten_cons, List.length_append]
    omega
theorem IV.push {a₀ : Array Keyed} {st : SortSt} {lo m : Nat} {X S : List Keyed} (V : IV a₀ st lo (X ++ S)) (lX : X.length = m) (h1 : 1 ≤ m) (sX : Srt X) : IV a₀ (setPending st ((pendingOf st).push (lo, m, 0))) (lo + m) S := by
  obtain ⟨Xs, e1, e2, e3⟩ := V.runs
  refine ⟨V.kind, V.fail, V.perm, Xs ++ [X], ?_, ?_, ?_⟩
  · show (arrOf st).toList = _
    rw [e1]; simp
  · show RunsOk 0 ((pendingOf st).push (lo, m, 0)).toList _
    have := runs_push (pw := 0) e2 (by omega : 1 ≤ X.length) sX
    rw [Nat.zero_add, e3, lX] at this
    rw [Array.toList_push]; exact this
  · rw [List.flatten_append, List.length_append, e3]; simp [lX]
theorem IV.pow {a₀ : Array Keyed} {st : SortSt} {lo i pw : Nat} {S : List Keyed} (V : IV a₀ st lo S) : IV a₀ (setPending st ((pendingOf st).modify i fun x => (x.fst, x.2.fst, pw))) lo S := by
  obtain ⟨Xs, e1, e2, e3⟩ := V.runs
  refine ⟨V.kind, V.fail, V.perm, Xs, e1, ?_, e3⟩
  show RunsOk 0 ((pendingOf st).modify i fun x => (x.fst, x.2.fst, pw)).toList _
  refine runs_pow e2 ?_
  rw [Array.toList_modify]
  exact map_modify (g := fun p : Nat × Nat × Nat => (p.1, p.2.1)) (f := fun x => (x.1, x.2.1, pw)) (fun _ => rfl) _ _
theorem Within.wider {lo hi hi' : Nat} {a b : SortSt} (h : Within lo hi a b) (hh : hi ≤ hi') : Within lo hi' a b := ⟨h.kind, h.pend, h.fail, h.perm, fun t ht => h.out t (by omega)⟩
section
variable {prog : Program} {w : World} {A : Around} {E : Value → Shared → Prop} {s : Shared}
theorem wpS_sortAll {a₀ : Array Keyed} {st : SortSt} {Q : Unit → SortSt → Prop} (h0 : IntKeys a₀) (hB : SBase a₀ st)
    (h : ∀ st', (arrOf st').Perm a₀ → failedOf st' = none → SortedTo (arrOf st') a₀.size → Q () st') : wpS (model prog w) A E s sortRuns' Q st := by
  rw [sortRuns'_eq]
  refine wpS_bind (wpS_get ?_)
  have hsz := hB.size
  dsimp only
  simp only [hsz]
  have V0 : IV a₀ st 0 (arrOf st).toList := ⟨hB.kind, hB.failed, hB.perm, [], rfl, by rw [hB.pend]; trivial, rfl⟩
  refine wpS_bind (wpS_mono (wpS_forRange
    (I := fun x c st' => ∃ lo S, c = (none, lo) ∧ IV a₀ st' lo S ∧ lo ≤ a₀.size ∧ (x ≤ lo ∨ lo = a₀.size))
    (Q := fun c st' => c = (none, a₀.size) ∧ ∃ S, IV a₀ st' a₀.size S) ?_ ?_ ⟨0, _, rfl, V0, Nat.zero_le _, .inl (Nat.le_refl _)⟩) ?_)
  · rintro x c st1 _ hx ⟨lo, S, rfl, V, b1, b2⟩
    dsimp only
    have hsz1 : (arrOf st1).size = a₀.size := V.perm.size_eq
    by_cases z : lo ≥ a₀.size
    · rw [if_pos z]
      have : lo = a₀.size := by omega
      subst this
      exact wpS_pure ⟨rfl, S, V⟩
    rw [if_neg z]
    have i1 := V.ints h0
    refine wpS_bind (wpS_run i1 V.kind (by omega) (by omega) fun n st2 n1 n2 W Sr => ?_)
    dsimp only
    have key : ∀ (m : Nat) (st3 : SortSt), 1 ≤ m → m ≤ a₀.size - lo → Within lo (lo + (a₀.size - lo)) st1 st3 → SrK (arrOf st3) lo m → ∃ X S', IV a₀ st3 lo (X ++ S') ∧ X.length = m ∧ Srt X := fun m st3 m1 m2 W3 S3 => by
      obtain ⟨Xs, e1, e2, e3⟩ := V.runs
      have sz3 : (arrOf st3).size = a₀.size := W3.size.trans hsz1
      have tk : (arrOf st3).toList.take lo = Xs.flatten := by
        have : (arrOf st3).toList.take lo = (arrOf st1).toList.take lo := by
          apply List.ext_getElem?
          intro t
          by_cases ht : t < lo
          · rw [List.getElem?_take_of_lt ht, List.getElem?_take_of_lt ht, Array.getElem?_toList, Array.getElem?_toList]
            exact W3.out t (.inl ht)
          · rw [List.getElem?_take_eq_none (by omega), List.getElem?_take_eq_none (by omega)]
        rw [this, e1, ← e3, List.take_left]
      refine ⟨((arrOf st3).toList.drop lo).take m, ((arrOf st3).toList.drop lo).drop m, ⟨W3.kind.trans V.kind, W3.fail.trans V.fail, W3.perm.trans V.perm, Xs, ?_, ?_, e3⟩, ?_, ?_⟩
      · rw [List.take_append_drop, ← tk, List.take_append_drop]
      · rw [W3.pend]; exact e2
      · rw [List.length_take, List.length_drop, Array.length_toList]; omega
      · rw [Srt, List.pairwise_iff_getElem]
        intro i j hi hj hij
        rw [List.length_take, List.length_drop, Array.length_toList] at hj
        have := S3 i j (by omega) (by omega)
        have q1 : (arrOf st3)[lo + i]? = some (arrOf st3)[lo + i] := getElem?_pos _ _ (by omega)
        have q2 : (arrOf st3)[lo + j]? = some (arrOf st3)[lo + j] := getElem?_pos _ _ (by omega)
        rw [K_ke q1, K_ke q2] at this
        rw [List.getElem_take, List.getElem_take, List.getElem_drop, List.getElem_drop]
        exact this
    have sz2 := W.size
    by_cases zm : n < minRun' a₀.size a₀.size 0
    case' pos =>
      rw [if_pos zm]
      refine wpS_bind (wpS_lift (wpAny_rule ⟨rfl, ?_⟩))
      refine wpS_bind (wpS_binary (W.ints i1) (W.kind.trans V.kind) (by omega) (by omega) Sr fun st3 W3 S3 => ?_)
      rw [if_neg (by decide)]
      have f1 : 1 ≤ min (a₀.size - lo) (minRun' a₀.size a₀.size 0) := by omega
      have f2 : min (a₀.size - lo) (minRun' a₀.size a₀.size 0) ≤ a₀.size - lo := by omega
      have W4 := W.trans (W3.wider (by omega : lo + min (a₀.size - lo) (minRun' a₀.size a₀.size 0) ≤ lo + (a₀.size - lo)))
      generalize min (a₀.size - lo) (minRun' a₀.size a₀.size 0) = m at f1 f2 S3 ⊢
      obtain ⟨X, S', V3, lX, sX⟩ := key m st3 f1 f2 W4 S3
    case' neg =>
      rw [if_neg zm]
      obtain ⟨X, S', V3, lX, sX⟩ := key n st2 n1 n2 W Sr
      have f1 := n1
      have f2 := n2
      generalize hm : n = m at lX f1 f2 ⊢
      generalize hst3 : st2 = st3 at V3 ⊢
    all_goals
      refine wpS_bind (wpS_get ?_)
      cases hb : (pendingOf st3).back? with
      | none =>
        dsimp only
        exact wpS_bind (wpS_modify (wpS_pure ⟨lo + m, S', rfl, V3.push lX f1 sX, by omega, .inl (by omega)⟩))
      | some p =>
        obtain ⟨s1, n1', pp⟩ := p
        dsimp only
        refine wpS_bind (wpS_mono (wpS_forRange (I := fun y c st' => c = (none, ()) ∧ IV a₀ st' lo (X ++ S')) (Q := fun c st' => c = (none, ()) ∧ IV a₀ st' lo (X ++ S')) ?_ (fun _ _ hh => hh) ⟨rfl, V3⟩) ?_)
        · rintro y c st4 _ _ ⟨rfl, V4⟩
          refine wpS_bind (wpS_get ?_)
          by_cases zp : (pendingOf st4).size > 1
          · rw [if_pos zp, getElem?_pos (pendingOf st4) ((pendingOf st4).size - 2) (by omega)]
            generalize (pendingOf st4)[(pendingOf st4).size - 2] = row
            obtain ⟨r1, r2, r3⟩ := row
            dsimp only
            split
            · exact wpS_pure ⟨rfl, V4⟩
            · refine wpS_bind (wpS_mergeStep h0 V4 (by omega) fun st5 V5 _ => ?_)
              rw [if_neg (by decide)]
              exact wpS_pure ⟨rfl, V5⟩
          · rw [if_neg zp]
            exact wpS_pure ⟨rfl, V4⟩
        · rintro c st4 ⟨rfl, V4⟩
          dsimp only
          exact wpS_bind (wpS_modify (wpS_bind (wpS_modify (wpS_pure ⟨lo + m, S', rfl, V4.pow.push lX f1 sX, by omega, .inl (by omega)⟩))))
  · rintro c st1 ⟨lo, S, rfl, V, b1, b2⟩
    have : lo = a₀.size := by omega
    subst this
    exact ⟨rfl, S, V⟩
  · rintro c st1 ⟨rfl, S, V⟩
    dsimp only
    have hsz1 : (arrOf st1).size = a₀.size := V.perm.size_eq
    have many : ∀ st' S', IV a₀ st' a₀.size S' → (pendingOf st').size ≤ a₀.size := fun st' S' V' => by
      obtain ⟨Xs, e1, e2, e3⟩ := V'.runs
      have l1 := runs_len e2
      have l2 := runs_many e2
      rw [Array.length_toList] at l1
      omega
    have m1 := many st1 S V
    refine wpS_bind (wpS_mono (wpS_forRange
      (I := fun x c st' => c = (none, ()) ∧ IV a₀ st' a₀.size S ∧ ((pendingOf st').size ≤ 1 ∨ (pendingOf st').size + x ≤ (pendingOf st1).size))
      (Q := fun c st' => c = (none, ()) ∧ IV a₀ st' a₀.size S ∧ (pendingOf st').size ≤ 1) ?_ ?_ ⟨rfl, V, .inr (by omega)⟩) ?_)
    · rintro x c st2 _ _ ⟨rfl, V2, b⟩
      refine wpS_bind (wpS_get ?_)
      by_cases z : (pendingOf st2).size ≤ 1
      · rw [if_pos z]
        exact wpS_pure ⟨rfl, V2, z⟩
      rw [if_neg z]
      have hx : ∀ c : Bool, (if c = true then (pendingOf st2).size - 2 - 1 else (pendingOf st2).size - 2) + 1 < (pendingOf st2).size := fun c => by cases c <;> simp <;> omega
      refine wpS_bind (wpS_mergeStep h0 V2 (hx _) fun st3 V3 hs => ?_)
      rw [if_neg (by decide)]
      exact wpS_pure ⟨rfl, V3, .inr (by omega)⟩
    · rintro c st2 ⟨rfl, V2, b⟩
      exact ⟨rfl, V2, by omega⟩
    · rintro c st2 ⟨rfl, V2, b⟩
      dsimp only
      refine wpS_pure (h st2 V2.perm V2.fail ?_)
      obtain ⟨Xs, e1, e2, e3⟩ := V2.runs
      have sz2 : (arrOf st2).size = a₀.size := V2.perm.size_eq
      have hS : S = [] := by
        have := congrArg List.length e1
        rw [List.length_append, Array.length_toList, e3, sz2] at this
        exact List.length_eq_zero_iff.mp (by omega)
      have hl := runs_len e2
      rw [Array.length_toList] at hl
      have st : Srt (arrOf st2).toList := by
        rw [e1, hS, List.append_nil]
        match Xs, e2, hl with
        | [], _, _ => exact List.Pairwise.nil
        | [X], e2, _ =>
          rw [List.flatten_cons, List.flatten_nil, List.append_nil]
          match hp : (pendingOf st2).toList, e2 with
          | p :: r, e2 => exact e2.2.2.2.1
        | X :: Y :: Z, _, hl => rw [List.length_cons, List.length_cons] at hl; omega
      exact fun i j h1 h2 => K_srt st h1 (by omega)
end
end So
set_option maxRecDepth 100000
set_option maxHeartbeats 2000000
namespace So
open PySem PyProof.Rows
section
variable {prog : Program} {w : World} {A : Around} {E : Value → Shared → Prop} {s : Shared}
theorem sort_big {a : Addr} {xs : List Value} {is : List Int} {k : Nat} {P : Fin → Shared → Prop} (at_ : s.heap.get? a = some (seqObj "list" xs.toArray k)) (hin : IntsAre xs is) (big : 2 ≤ xs.length) (fits : xs.length ≤ 1000000)
    (h : ∀ (o : Array Value) (js : List Int), IntsAre o.toList js → js.Perm is → js.Pairwise (· ≤ ·) → P (.done (.ret .none)) { s with heap := sortedHeap s.heap a xs o }) : wpAny (model prog w) A (Builtin.«list.sort» ⟨[.ref a], []⟩) P E s := by
  have la := Heap.lt_size at_
  have empty := get?_update_seq at_ (fun _ => (#[] : Array Value))
  rw [list_sort_plain]
  refine wpAny_bind (listItems_at at_ rfl (wpAny_bind (listUpdate_at at_ rfl ?_)))
  refine wpAny_bind (seqEpoch_at empty rfl (wpAny_bind (wpAny_newTuple (wpAny_bind (wpAny_newList (wpAny_holding ?_))))))
  have still : (((s.heap.update a (Obj.mapSeq fun _ => #[])).push (seqObj "tuple" xs.toArray 0)).push (seqObj "list" #[] 0)).get? a = some _ := Heap.get?_push_of_some _ (Heap.get?_push_of_some _ empty)
  change wpAny (model prog w) A _ P E (Shared.mk (((s.heap.update a (Obj.mapSeq fun _ => #[])).push (seqObj "tuple" xs.toArray 0)).push (seqObj "list" #[] 0)) _ _ _ _)
  have many : ¬ xs.toArray.size < 2 := by rw [List.size_toArray]; omega
  dsimp only
  rw [if_neg many, if_neg many]
  have kk : keyKind' xs.toArray = pure oneType' := by
    match xs, big, hin with
    | _ :: _ :: _, _, hin => exact keyKind_ints hin
  rw [kk]
  refine wpAny_bind (wpAny_pure ?_)
  have base : SBase (pairsOf xs) (SortSt.mk' oneType' (xs.toArray.zip xs.toArray) #[] 7 none) := ⟨Array.Perm.refl _, rfl, rfl, rfl⟩
  refine wpAny_bind (wpAny_mono (wpS_sortAll (Q := fun _ t => (arrOf t).Perm (pairsOf xs) ∧ failedOf t = none ∧ SortedTo (arrOf t) (pairsOf xs).size) hin.intKeys base fun t q1 q2 q3 => ⟨q1, q2, q3⟩) (fun r s3 hr => ?_) fun _ _ z => z)
  obtain ⟨⟨⟩, t⟩ := r
  obtain ⟨rfl, q1, q2, q3⟩ := hr
  dsimp only
  obtain ⟨js, c1, c2, c3⟩ := sorted_out hin q1 q3
  have lt : ((arrOf t).map (·.2)).size ≤ sizeLine := by
    rw [Array.size_map, q1.size_eq, pairsOf_size, sizeLine_eq]; omega
  refine wpAny_bind (seqEpoch_at still rfl (wpAny_bind (listUpdate_at still rfl ?_ (hsz2 := Nat.le_succ_of_le lt))))
  rw [q2]
  simp only [bne_self_eq_false, Bool.false_eq_true, if_false]
  exact wpAny_pure (h _ js c1 c2 c3)
theorem sorted_any {l : Addr} {xs : List Value} {is : List Int} {Q : Value → Shared → Prop} (isl : s.heap.IsList l xs.toArray) (hin : IntsAre xs is) (fits : xs.length ≤ 1000000)
    (h : ∀ (o : Array Value) (js : List Int), IntsAre o.toList js → js.Perm is → js.Pairwise (· ≤ ·) → Q (.ref (s.heap.objs.size + 1)) { s with heap := sortedAll s.heap xs o }) : wpAny (model prog w) A (call (.builtin "sorted") [.ref l]) Q E s := by
  by_cases few : xs.length < 64
  · exact sorted_ints isl hin few h
  refine Calls.call_function_entry kind_sorted plain_sorted entry_sorted (args_sorted1 (.ref l)) ?_
  unfold Builtin.«sorted»
  refine wpAny_bind (m := checkCount "sorted" 1 1 _) (wpAny_pure (wpAny_bind (collect_list isl ?_ (by rw [sizeLine_eq]; omega))))
  have many : ((s.heap.push (seqObj "list" #[] 0)).update s.heap.objs.size (Obj.mapSeq (· ++ xs.toArray))).objs.size = s.heap.objs.size + 1 := (Heap.size_update _ _ _).trans (size_push' _ _)
  refine wpAny_bind (wpAny_newList ?_)
  generalize hh : (s.heap.push (seqObj "list" #[] 0)).update s.heap.objs.size (Obj.mapSeq (· ++ xs.toArray)) = h2 at many ⊢
  have here : (h2.push (seqObj "list" xs.toArray 0)).get? (s.heap.objs.size + 1) = some (seqObj "list" xs.toArray 0) := by
    have := Heap.get?_push_size h2 (o := seqObj "list" xs.toArray 0) rfl
    rwa [many] at this
  change wpAny _ _ _ _ _ (Shared.mk (h2.push (seqObj "list" xs.toArray 0)) _ _ _ _)
  rw [many]
  refine wpAny_bind (wpAny_holding (wpAny_call_entry slot_list_sort ⟨_, here, rfl⟩ entry_list_sort ?_ (args_list_sort _)))
  refine sort_big here hin (by omega) fits fun o js c1 c2 c3 => ?_
  refine ⟨_, rfl, wpAny_pure ⟨_, rfl, ?_⟩⟩
  subst hh
  exact h o js c1 c2 c3
end
end So
set_option maxRecDepth 100000
namespace Hk
open PySem L2
def rSortB : List V → Hp → VK → Prop := fun xs H Q => ∃ p ns, xs = [.ref p] ∧ H p = some (.lst (ns.map V.int)) ∧ ns.length ≤ 1000000 ∧ ∀ l, H l = none → Q (.ref l) (upd H l (.lst ((sortZ ns).map V.int)))
def oSortB : D → Option R
  | .lst ds => (intsOf ds).bind fun ns => if ns.length ≤ 1000000 then some (.fr ((sortZ ns).map D.int)) else none
  | _ => none
def fSortB (f : FD) : FE := fun ω => (f ω).bind oSortB
section
variable {X : Cx}
theorem call_sortB : CallR X (.builtin "sorted") rSortB := by
  intro pins s σ H xs us Q I r h
  obtain ⟨p, ns, rfl, hp, hz, q⟩ := h
  obtain ⟨u, rfl, rx⟩ := vals1 r
  cases rx
  obtain ⟨its, n, rv, e, _⟩ := I.lst hp
  have hlen : its.length = ns.length := by rw [← rv.length, List.length_map]
  refine So.sorted_any ⟨_, e, rfl, n, rfl⟩ (intsAre_of rv) (by omega) fun out ns' a1 a2 a3 => ?_
  obtain ⟨m, hm⟩ := PyProof.Rows.sortedAll_at s.heap its out
  have en : ns' = sortZ ns := le_perm_eq a3 sortZ_le (a2.trans sortZ_perm.symm)
  subst en
  have hsl : (sortZ ns).length ≤ sizeLine := by rw [sortZ_len, sizeLine_eq]; omega
  have I2 := I.laid (a := s.heap.objs.size + 1) (o := .lst ((sortZ ns).map V.int)) (t' := s.toks) (fun b o e => PyProof.Rows.sortedAll_old e) (Nat.le_succ _)
    (show ObjOk X.prog X.w _ (PyProof.Rows.sortedAll s.heap its out) _ (.lst _) from ⟨by rw [List.length_map]; exact hsl, out.toList, m, vals_ints a1, by rw [Array.toArray_toList]; exact hm⟩)
  exact ⟨.ref _, _, I2, rfl, q _ (I.hok.fresh (Nat.le_succ _))⟩
theorem xe_sortB {a : Expr} {f : FD} {p q : Pos} (hg : Gl X "sorted") (hm : X.mg "sorted" = none) (ha : XV X a f)
    (he : starEach [a] X.env = (false, eval a X.env) :: starEach [] X.env := by rfl) (hpl : (backTo q (starEach [] X.env)).any (·.1) = false := by rfl) : XE X (.Call (.Name "sorted" p) [a] [] q) (fSortB f) := by
  obtain ⟨t, h1, h2⟩ := ha
  refine ⟨_, pe_callB call_sortB hg hm bt_sorted (pa_cons h1 pa_nil he) (by decide) (by decide) he hpl, fun G0 H0 G ω σ H r Q o e k => ?_⟩
  obtain ⟨d, z, e⟩ := bnd e
  refine h2 G0 H0 G ω σ H d _ o z fun v G1 H1 x1 y1 => ?_
  cases d with
  | lst ds =>
    obtain ⟨ns, e1, e2⟩ := bnd (show (intsOf ds).bind _ = some r from e)
    have hds := intsOf_of e1
    subst hds
    by_cases hz : ns.length ≤ 1000000
    · rw [if_pos hz] at e2
      cases e2
      obtain ⟨p, vs, rfl, g1, g2⟩ := y1.lst x1.gh
      have hv := g2.of_ints
      subst hv
      refine ⟨p, ns, rfl, g1, hz, fun l hl => ?_⟩
      have x2 := Ext.hide x1.gh hl (.lst ((sortZ ns).map V.int))
      exact k _ G1 _ (x1.trans x2) ⟨l, _, rfl, x1.hh.free hl, x1.gh.free hl, upd_same, Reps.ints _⟩
    · rw [if_neg hz] at e2; cases e2
  | _ => cases e
def sortRB (o : Option D) : Option R := o.bind oSortB
theorem e_wsortB {fd : FD} {ω : WSt} : fSortB fd ω = sortRB (fd ω) := rfl
theorem e_wsB {ns : List Int} (h : ns.length ≤ 1000000) : sortRB (some (.lst (ns.map D.int))) = some (.fr ((sortZ ns).map D.int)) := by
  show (intsOf (ns.map D.int)).bind _ = _
  rw [intsOf_map]
  exact if_pos h
end
end Hk
set_option maxHeartbeats 4000000
namespace Kx
open PySem L2 Hk
def top (i : Nat) : Stmt := PySem.Challenge.pw_hookrail_k30_any_walk_is_a_row.main.body.getD i (.Pass ⟨0, 0, 0, 0⟩)
section
variable {P : Program} {w : World} {K : PySem.W.Frag} {mg : Str → Option Value} {base : Heap} {f : Addr} {fd : FuncData}
abbrev s_numbers_by_start : Stmt := top 4
theorem S_numbers_by_start : FnScope ["arcs", "numbers", "number", "arc"] ["arcs"] (defScope s_numbers_by_start) := ⟨rfl, rfl, rfl, by decide +kernel, rfl, by decide +kernel, by decide +kernel⟩
theorem ok_numbers_by_start (F : Fun K "numbers_by_start" "numbers_by_start" s_numbers_by_start f fd) (z_enumerate : mg "enumerate" = none) : FnOk P w K mg base CX0 1 f fd ["arcs"] (spT K) := by
  refine F.ok S_numbers_by_start (fun vs H Q E h => ?_) (fun cdv A outer s H vs Q E hr h => ?_)
  · obtain ⟨G, as, _, rp, _⟩ := h
    rw [← rp.len]; rfl
  · exact pss_nbs (X := (cxOf CX0 P w K mg base ["arcs", "numbers", "number", "arc"] "numbers_by_start" (defScope s_numbers_by_start) f cdv A outer s H E).nox) PassesOwn.never rfl S_numbers_by_start.nd rfl rfl rfl (by first | exact Or.inl rfl | exact Or.inr rfl) (by first | exact Or.inl rfl | exact Or.inr rfl) (by first | exact Or.inl rfl | exact Or.inr rfl) (by first | exact .inl rfl | exact .inr rfl) (by first | exact .inl rfl | exact .inr rfl) (by first | exact .inl rfl | exact .inr rfl) rfl z_enumerate (pv 0) (pv 1) (pv 2) (pv 1) (XE.toD (xe_item (vV 3) (XD.toV xd_int))) (fun ω e h => rf_it0 h) rfl ⟨rfl, rfl, rfl, rfl⟩ rfl rfl rfl rfl rfl rfl rfl rfl (fun t h => pg_tup rfl h) (by intro _; rfl) h
def E1_as_many_begin_as_end : FD := (dOf (fOpE oIx (vOf (fVar 0)) (fC (.int 0))))
def E2_as_many_begin_as_end : FD := (dOf (fOpE oIx (vOf (fVar 0)) (fC (.int 1))))
def B_as_many_begin_as_end : FS := (sRet (fOpE (oEq false) (vOf (fSortB (vOf (fComp 1 [] (iSeq (dOf (fVar 0))) (gN 0) tTrue E1_as_many_begin_as_end)))) (vOf (fSortB (vOf (fComp 1 [] (iSeq (dOf (fVar 0))) (gN 0) tTrue E2_as_many_begin_as_end))))))
def m_as_many_begin_as_end : List D → Option O := mir 1 B_as_many_begin_as_end
abbrev s_as_many_begin_as_end : Stmt := top 5
theorem S_as_many_begin_as_end : FnScope ["arcs"] ["arcs"] (defScope s_as_many_begin_as_end) := ⟨rfl, rfl, rfl, by decide +kernel, rfl, by decide +kernel, by decide +kernel⟩
theorem ok_as_many_begin_as_end 
    (F : Fun K "as_many_begin_as_end" "as_many_begin_as_end" s_as_many_begin_as_end f fd)
    (z_sorted : mg "sorted" = none) :
    FnOk P w K mg base CX0 1 f fd ["arcs"] (spD K 1 m_as_many_begin_as_end) := by
  have h := fnD (P := P) (w := w) (mg := mg) (base := base) (k := 0) (body := B_as_many_begin_as_end) F S_as_many_begin_as_end (fun cdv A outer s H E hr =>
      (xss_one (xs_ret (xe_eq hr.units (XE.toV (xe_sortB rfl z_sorted (XE.toV (xe_comp rfl (blk ["arc"] [] [] rfl (by decide +kernel) (by decide +kernel) rfl trivial) (xi_seq (vD 0)) (tame_n 0) (fun _ _ _ _ => ⟨(xg_name (i := 0) (show ((["arc"] : List Str) ++ ([] : List Str) : List Str).Nodup from by decide +kernel) rfl (Or.inl rfl)), xts_nil, (XE.toD (xe_item (vV 0) (XD.toV xd_int)))⟩))))) (XE.toV (xe_sortB rfl z_sorted (XE.toV (xe_comp rfl (blk ["arc"] [] [] rfl (by decide +kernel) (by decide +kernel) rfl trivial) (xi_seq (vD 0)) (tame_n 0) (fun _ _ _ _ => ⟨(xg_name (i := 0) (show ((["arc"] : List Str) ++ ([] : List Str) : List Str).Nodup from by decide +kernel) rfl (Or.inl rfl)), xts_nil, (XE.toD (xe_item (vV 0) (XD.toV xd_int)))⟩)))))))))
  exact h
abbrev s_round_from : Stmt := top 6
theorem S_round_from : FnScope ["start", "arcs", "waiting", "trail", "backwards", "here", "number"] ["start", "arcs"] (defScope s_round_from) := ⟨rfl, rfl, rfl, by decide +kernel, rfl, by decide +kernel, by decide +kernel⟩
def m_round_from : List D → Option O := mRF
theorem ok_round_from {f_n : Addr} {d_n : FuncData} (F : Fun K "round_from" "round_from" s_round_from f fd) (G_n : FnOk P w K mg base CX0 1 f_n d_n ["arcs"] (spT K)) (a_n : mg "numbers_by_start" = some (.ref f_n)) (k_n : PySem.W.keepIn K (.ref f_n) = true) (b_n : Binds K d_n ["arcs"] []) (z_list : mg "list" = none) (z_reversed : mg "reversed" = none) : FnOk P w K mg base CX0 2 f fd ["start", "arcs"] (spD K 2 m_round_from) := by
  refine F.ok S_round_from (fun vs H Q E h => ?_) (fun cdv A outer s H vs Q E hr h => ?_)
  · obtain ⟨G, ds, r, _, h2, _, h4, _⟩ := h
    rw [← h4.len]; exact h2
  · have hu := hu1 (X := (cxOf CX0 P w K mg base ["start", "arcs", "waiting", "trail", "backwards", "here", "number"] "round_from" (defScope s_round_from) f cdv A outer s H E).nox) hr.units
    exact rf_fin (X := (cxOf CX0 P w K mg base ["start", "arcs", "waiting", "trail", "backwards", "here", "number"] "round_from" (defScope s_round_from) f cdv A outer s H E).nox) (f1 := (dOf (fOpE oIx (vOf (fOpE oIx (vOf (fVar 1)) (vOf (fVar 6)))) (fC (.int 1))))) (f0 := (dOf (fOpE oIx (vOf (fOpE oIx (vOf (fVar 1)) (vOf (fVar 6)))) (fC (.int 0))))) (XE.toD (xe_item (XE.toV (xe_item (vV 1) (vV 6))) (XD.toV xd_int))) (XE.toD (xe_item (XE.toV (xe_item (vV 1) (vV 6))) (XD.toV xd_int))) (fun _ _ _ => rf_dst) (fun _ _ _ => rf_src) rfl h (fun p1 p0 => (pss_cons (ps_set (i := 2) S_round_from.nd rfl (by first | exact Or.inl rfl | exact Or.inr rfl) (pe_call G_n (hr.mono (by decide)) rfl a_n k_n b_n .nil pass0 (pa_cons (pv 1) pa_nil rfl)) rfl (by first | exact .inl rfl | exact .inr rfl)) (pss_cons (ps_set (i := 3) S_round_from.nd rfl (by first | exact Or.inl rfl | exact Or.inr rfl) (pe_lst pa_nil) rfl (by first | exact .inl rfl | exact .inr rfl)) (pss_cons (ps_set (i := 4) S_round_from.nd rfl (by first | exact Or.inl rfl | exact Or.inr rfl) (pe_lst pa_nil) rfl (by first | exact .inl rfl | exact .inr rfl)) (pss_cons (ps_set (i := 5) S_round_from.nd rfl (by first | exact Or.inl rfl | exact Or.inr rfl) (pv 0) rfl (by first | exact .inl rfl | exact .inr rfl)) (pss_cons (ps_while PassesOwn.never (pw_or (pt_truth (pv 3) (by intro _; rfl)) (pw_or1 (pt_truth (pe_dget2 hu (pv 2) (pv 5) (pe_lst pa_nil) ⟨rfl, rfl, rfl, rfl⟩) (by intro _; rfl)))).pt (pss_one (ps_if (pt_truth (pe_dget2 hu (pv 2) (pv 5) (pe_lst pa_nil) ⟨rfl, rfl, rfl, rfl⟩) (by intro _; rfl)) (pss_cons (ps_set (i := 6) S_round_from.nd rfl (by first | exact Or.inl rfl | exact Or.inr rfl) (pe_bm0 PySem.F.plainAttrs_list PySem.F.slot_list_pop PySem.F.type_list_pop mt_pop (pe_dget hu (pv 2) (pv 5) (by intro _ _; rfl)) rfl rfl) rfl (by first | exact .inl rfl | exact .inr rfl)) (pss_cons (ps_expr (pe_bm PySem.F.plainAttrs_list PySem.F.slot_list_append PySem.F.type_list_append mt_append (pv 3) (pa_cons (pv 6) pa_nil rfl) rfl rfl rfl rfl rfl) rfl) (pss_one (ps_set (i := 5) S_round_from.nd rfl (by first | exact Or.inl rfl | exact Or.inr rfl) p1 rfl (by first | exact .inl rfl | exact .inr rfl))))) (pss_cons (ps_set (i := 6) S_round_from.nd rfl (by first | exact Or.inl rfl | exact Or.inr rfl) (pe_bm0 PySem.F.plainAttrs_list PySem.F.slot_list_pop PySem.F.type_list_pop mt_pop (pv 3) rfl rfl) rfl (by first | exact .inl rfl | exact .inr rfl)) (pss_cons (ps_expr (pe_bm PySem.F.plainAttrs_list PySem.F.slot_list_append PySem.F.type_list_append mt_append (pv 4) (pa_cons (pv 6) pa_nil rfl) rfl rfl rfl rfl rfl) rfl) (pss_one (ps_set (i := 5) S_round_from.nd rfl (by first | exact Or.inl rfl | exact Or.inr rfl) p0 rfl (by first | exact .inl rfl | exact .inr rfl)))))))) (pss_one (ps_ret (pe_listrev rfl z_list rfl z_reversed (pa_cons (pv 4) pa_nil rfl) rfl rfl rfl rfl rfl)))))))))
def B_row_of : FS := (sSeq (sIf (tNotF (tTru (vOf (fCall m_as_many_begin_as_end (aCons (dOf (fVar 1)) aNil))))) sNo sNil)
    (sSeq (sSet 2 (eOf (dOf (fCall m_round_from (aCons (dOf (fVar 0)) (aCons (dOf (fVar 1)) aNil))))))
    (sSeq (sIf (tOf (fOpE (oEq true) (vOf (fBlt bLen (aCons (vOf (fVar 2)) aNil))) (vOf (fBlt bLen (aCons (vOf (fVar 1)) aNil))))) sNo sNil)
    (sRet (fVar 2)))))
def m_row_of : List D → Option O := mir 3 B_row_of
abbrev s_row_of : Stmt := top 7
theorem S_row_of : FnScope ["start", "arcs", "row"] ["start", "arcs"] (defScope s_row_of) := ⟨rfl, rfl, rfl, by decide +kernel, rfl, by decide +kernel, by decide +kernel⟩
theorem ok_row_of {f_as_many_begin_as_end : Addr} {d_as_many_begin_as_end : FuncData} {f_round_from : Addr} {d_round_from : FuncData}
    (F : Fun K "row_of" "row_of" s_row_of f fd)
    (c_as_many_begin_as_end : Cal P w K mg base 1 f_as_many_begin_as_end d_as_many_begin_as_end "as_many_begin_as_end" ["arcs"] 1 m_as_many_begin_as_end)
    (c_round_from : Cal P w K mg base 2 f_round_from d_round_from "round_from" ["start", "arcs"] 2 m_round_from)
    (z_len : mg "len" = none) :
    FnOk P w K mg base CX0 3 f fd ["start", "arcs"] (spD K 2 m_row_of) := by
  have h := fnD (P := P) (w := w) (mg := mg) (base := base) (k := 2) (body := B_row_of) F S_row_of (fun cdv A outer s H E hr =>
      (xss_cons (xs_if (xt_not (xt_val (XE.toV (xc c_as_many_begin_as_end hr (xa_cons (vD 1) xa_nil))))) (xss_one xs_no) xss_nil)
      (xss_cons (xs_set (i := 2) S_row_of.nd rfl (Or.inl rfl) (XD.toE (XE.toD (xc c_round_from hr (xa_cons (vD 0) (xa_cons (vD 1) xa_nil))))))
      (xss_cons (xs_if (xt_ne hr.units (XE.toV (xe_blt call_len_seq cd_len rfl z_len bt_len (xva_cons (vV 2) xva_nil))) (XE.toV (xe_blt call_len_seq cd_len rfl z_len bt_len (xva_cons (vV 1) xva_nil)))) (xss_one xs_no) xss_nil)
      (xss_one (xs_ret (vE 2)))))))
  exact h
def B__law_cell_at : FS := (sSeq (sIf (tOf (fOpE oLt (vOf (fVar 1)) (vOf (fBlt bLen (aCons (vOf (fVar 0)) aNil))))) (sRet (fOpE oIx (vOf (fVar 0)) (vOf (fVar 1)))) sNil)
    (sRet (eOf (fC (.int 0)))))
def m__law_cell_at : List D → Option O := mir 2 B__law_cell_at
abbrev s__law_cell_at : Stmt := top 9
theorem S__law_cell_at : FnScope ["script", "k"] ["script", "k"] (defScope s__law_cell_at) := ⟨rfl, rfl, rfl, by decide +kernel, rfl, by decide +kernel, by decide +kernel⟩
theorem ok__law_cell_at 
    (F : Fun K "_law_cell_at" "_law_cell_at" s__law_cell_at f fd)
    (z_len : mg "len" = none) :
    FnOk P w K mg base CX0 1 f fd ["script", "k"] (spD K 2 m__law_cell_at) := by
  have h := fnD (P := P) (w := w) (mg := mg) (base := base) (k := 0) (body := B__law_cell_at) F S__law_cell_at (fun cdv A outer s H E hr =>
      (xss_cons (xs_if (xt_lt (vV 1) (XE.toV (xe_blt call_len_seq cd_len rfl z_len bt_len (xva_cons (vV 0) xva_nil)))) (xss_one (xs_ret (xe_item (vV 0) (vV 1)))) xss_nil)
      (xss_one (xs_ret (XD.toE xd_int)))))
  exact h
def B__law_whole : FS := (sRet (eOf (vAnd (dOf (fIsi .int (vOf (fVar 0)))) (vNot (dOf (fIsi .bl (vOf (fVar 0))))))))
def m__law_whole : List D → Option O := mir 1 B__law_whole
abbrev s__law_whole : Stmt := top 10
theorem S__law_whole : FnScope ["found"] ["found"] (defScope s__law_whole) := ⟨rfl, rfl, rfl, by decide +kernel, rfl, by decide +kernel, by decide +kernel⟩
theorem ok__law_whole 
    (F : Fun K "_law_whole" "_law_whole" s__law_whole f fd)
    (z_isinstance : mg "isinstance" = none)
    (z_bool : mg "bool" = none)
    (z_int : mg "int" = none)
    (i_int : IsT K .int)
    (i_bool : IsT K .bl) :
    FnOk P w K mg base CX0 1 f fd ["found"] (spD K 1 m__law_whole) := by
  have h := fnD (P := P) (w := w) (mg := mg) (base := base) (k := 0) (body := B__law_whole) F S__law_whole (fun cdv A outer s H E hr =>
      (xss_one (xs_ret (XD.toE (xd_and (XE.toD (xe_isi (vV 0) i_int rfl z_isinstance rfl z_int bt_int)) (xd_one (xd_not (XE.toD (xe_isi (vV 0) i_bool rfl z_isinstance rfl z_bool bt_bool)))))))))
  exact h
def B__law_place : FS := (sSeq (sIf (tOf (fOpE (oEq false) (vOf (fOpE oMod (vOf (fVar 0)) (fC (.int 3)))) (fC (.int 0)))) (sRet (fOpE oSub (vOf (fOpE oMod (vOf (fOpE oDiv (vOf (fVar 0)) (fC (.int 3)))) (fC (.int 19)))) (fC (.int 9)))) sNil)
    (sSeq (sIf (tOf (fOpE (oEq false) (vOf (fOpE oMod (vOf (fVar 0)) (fC (.int 3)))) (fC (.int 1)))) (sRet (fOpE oSub (vOf (fOpE oMod (vOf (fOpE oDiv (vOf (fVar 0)) (fC (.int 3)))) (fC (.int 2001)))) (fC (.int 1000)))) sNil)
    (sRet (fOpE oSub (vOf (fOpE oMod (vOf (fOpE oDiv (vOf (fVar 0)) (fC (.int 3)))) (vOf (fOpE oAdd (vOf (fOpE oMul (fC (.int 2)) (vOf (fOpE oPow (fC (.int 10)) (fC (.int 39)))))) (fC (.int 1)))))) (vOf (fOpE oPow (fC (.int 10)) (fC (.int 39))))))))
def m__law_place : List D → Option O := mir 1 B__law_place
abbrev s__law_place : Stmt := top 11
theorem S__law_place : FnScope ["cell"] ["cell"] (defScope s__law_place) := ⟨rfl, rfl, rfl, by decide +kernel, rfl, by decide +kernel, by decide +kernel⟩
theorem ok__law_place 
    (F : Fun K "_law_place" "_law_place" s__law_place f fd) :
    FnOk P w K mg base CX0 1 f fd ["cell"] (spD K 1 m__law_place) := by
  have h := fnD (P := P) (w := w) (mg := mg) (base := base) (k := 0) (body := B__law_place) F S__law_place (fun cdv A outer s H E hr =>
      (xss_cons (xs_if (xt_eq hr.units (XE.toV (xe_mod (vV 0) (XD.toV xd_int))) (XD.toV xd_int)) (xss_one (xs_ret (xe_sub (XE.toV (xe_mod (XE.toV (xe_fdiv (vV 0) (XD.toV xd_int))) (XD.toV xd_int))) (XD.toV xd_int)))) xss_nil)
      (xss_cons (xs_if (xt_eq hr.units (XE.toV (xe_mod (vV 0) (XD.toV xd_int))) (XD.toV xd_int)) (xss_one (xs_ret (xe_sub (XE.toV (xe_mod (XE.toV (xe_fdiv (vV 0) (XD.toV xd_int))) (XD.toV xd_int))) (XD.toV xd_int)))) xss_nil)
      (xss_one (xs_ret (xe_sub (XE.toV (xe_mod (XE.toV (xe_fdiv (vV 0) (XD.toV xd_int))) (XE.toV (xe_add (XE.toV (xe_mul (XD.toV xd_int) (XE.toV (xe_pow (XD.toV xd_int) (XD.toV xd_int))))) (XD.toV xd_int))))) (XE.toV (xe_pow (XD.toV xd_int) (XD.toV xd_int)))))))))
  exact h
def L1__law_long : FS := (sSeq (sSet 0 (eOf (dOf (fOpE oMod (vOf (fOpE oAdd (vOf (fOpE oAdd (vOf (fOpE oMulB (vOf (fVar 0)) (vOf (fVar 0)))) (vOf (fVar 4)))) (fC (.int 7)))) (fC (.int 1000003))))))
    (sSeq (sApp 3 (fTup (aCons (dOf (fVar 2)) (aCons (dOf (fOpE oIx (vOf (fVar 1)) (vOf (fOpE oMod (vOf (fVar 0)) (vOf (fBlt bLen (aCons (vOf (fVar 1)) aNil))))))) aNil))))
    (sSet 2 (eOf (dOf (fOpE oIx (vOf (fOpE oIx (vOf (fVar 3)) (vOf (fNeg (fC (.int 1)))))) (fC (.int 1))))))))
def B__law_long : FS := (sSeq (sSet 2 (eOf (dOf (fOpE oIx (vOf (fVar 1)) (fC (.int 0))))))
    (sSeq (sSet 3 (fLst aNil))
    (sSeq (sSet 0 (eOf (dOf (fOpE oMod (vOf (fVar 0)) (fC (.int 1000003))))))
    (sSeq (sFor (iRg1 (aCons (vOf (fOpE oAdd (fC (.int 1200)) (vOf (fOpE oMod (vOf (fVar 0)) (fC (.int 600)))))) aNil)) (gN 4) L1__law_long)
    (sSeq (sApp 3 (fTup (aCons (dOf (fVar 2)) (aCons (dOf (fOpE oIx (vOf (fVar 1)) (fC (.int 0)))) aNil))))
    (sSeq (sSet 5 (eOf (dOf (fOpE oMod (vOf (fVar 0)) (vOf (fBlt bLen (aCons (vOf (fVar 3)) aNil)))))))
    (sRet (fRev (vOf (fOpE oAdd (vOf (fSl (vOf (fVar 3)) (pAt (vOf (fVar 5))) pNo)) (vOf (fSl (vOf (fVar 3)) pNo (pAt (vOf (fVar 5)))))))))))))))
def m__law_long : List D → Option O := mir 6 B__law_long
abbrev s__law_long : Stmt := top 12
theorem S__law_long : FnScope ["number", "spots", "here", "arcs", "k", "turn"] ["number", "spots"] (defScope s__law_long) := ⟨rfl, rfl, rfl, by decide +kernel, rfl, by decide +kernel, by decide +kernel⟩
theorem ok__law_long 
    (F : Fun K "_law_long" "_law_long" s__law_long f fd)
    (z_range : mg "range" = none)
    (z_len : mg "len" = none)
    (z_list : mg "list" = none)
    (z_reversed : mg "reversed" = none) :
    FnOk P w K mg base CX0 1 f fd ["number", "spots"] (spD K 2 m__law_long) := by
  have h := fnD (P := P) (w := w) (mg := mg) (base := base) (k := 0) (body := B__law_long) F S__law_long (fun cdv A outer s H E hr =>
      (xss_cons (xs_set (i := 2) S__law_long.nd rfl (Or.inl rfl) (XD.toE (XE.toD (xe_item (vV 1) (XD.toV xd_int)))))
      (xss_cons (xs_set (i := 3) S__law_long.nd rfl (Or.inl rfl) (xe_lst xa_nil))
      (xss_cons (xs_set (i := 0) S__law_long.nd rfl (Or.inl rfl) (XD.toE (XE.toD (xe_mod (vV 0) (XD.toV xd_int)))))
      (xss_cons (xs_for PassesOwn.never rfl (xi_range1 rfl z_range (xva_cons (XE.toV (xe_add (XD.toV xd_int) (XE.toV (xe_mod (vV 0) (XD.toV xd_int))))) xva_nil)) (xg_name (i := 4) S__law_long.nd rfl (Or.inl rfl)) (xss_cons (xs_set (i := 0) S__law_long.nd rfl (Or.inl rfl) (XD.toE (XE.toD (xe_mod (XE.toV (xe_add (XE.toV (xe_add (XE.toV (xe_mulB (vV 0) (vV 0))) (vV 4))) (XD.toV xd_int))) (XD.toV xd_int)))))
      (xss_cons (xs_app (pv 3) (xd_tup (xa_cons (vD 2) (xa_cons (XE.toD (xe_item (vV 1) (XE.toV (xe_mod (vV 0) (XE.toV (xe_blt call_len_seq cd_len rfl z_len bt_len (xva_cons (vV 1) xva_nil))))))) xa_nil))))
      (xss_one (xs_set (i := 2) S__law_long.nd rfl (Or.inl rfl) (XD.toE (XE.toD (xe_item (XE.toV (xe_item (vV 3) (XE.toV (xe_neg (XD.toV xd_int))))) (XD.toV xd_int)))))))))
      (xss_cons (xs_app (pv 3) (xd_tup (xa_cons (vD 2) (xa_cons (XE.toD (xe_item (vV 1) (XD.toV xd_int))) xa_nil))))
      (xss_cons (xs_set (i := 5) S__law_long.nd rfl (Or.inl rfl) (XD.toE (XE.toD (xe_mod (vV 0) (XE.toV (xe_blt call_len_seq cd_len rfl z_len bt_len (xva_cons (vV 3) xva_nil)))))))
      (xss_one (xs_ret (xe_listrev rfl z_list rfl z_reversed (XE.toV (xe_add (XE.toV (xe_slice (vV 3) (xo_some (vV 5)) xo_none)) (XE.toV (xe_slice (vV 3) xo_none (xo_some (vV 5))))))))))))))))
  exact h
def E1__law_arcs : FD := (dOf (fCall m__law_place (aCons (dOf (fCall m__law_cell_at (aCons (dOf (fVar 1)) (aCons (dOf (fOpE oAdd (fC (.int 1)) (vOf (fVar 0)))) aNil)))) aNil)))
def L1__law_arcs : FS := (sSeq (sSet 8 (eOf (dOf (fOpE oIx (vOf (fVar 3)) (vOf (fOpE oMod (vOf (fVar 7)) (vOf (fVar 2))))))))
    (sSeq (sApp 6 (fTup (aCons (dOf (fVar 4)) (aCons (dOf (fVar 8)) aNil))))
    (sSet 4 (eOf (dOf (fVar 8))))))
def L2__law_arcs : FS := (sAppM 9 (mPop 6 (dOf (fOpE oMod (vOf (fOpE oDiv (vOf (fCall m__law_cell_at (aCons (dOf (fVar 0)) (aCons (dOf (fOpE oSub (fC (.int 62)) (vOf (fVar 10)))) aNil)))) (fC (.int 8)))) (vOf (fBlt bLen (aCons (vOf (fVar 6)) aNil)))))))
def B__law_arcs : FS := (sSeq (sSet 1 (eOf (dOf (fCall m__law_cell_at (aCons (dOf (fVar 0)) (aCons (fC (.int 0)) aNil))))))
    (sSeq (sSet 2 (eOf (dOf (fOpE oSub (fC (.int 8)) (vOf (fOpE oMod (vOf (fVar 1)) (fC (.int 8))))))))
    (sSeq (sSet 3 (fComp 1 [0] (iRg1 (aCons (vOf (fVar 2)) aNil)) (gN 0) tTrue E1__law_arcs))
    (sShare 3 (sSeq (sIf (tOf (fOpE (oEq false) (vOf (fOpE oMod (vOf (fCall m__law_cell_at (aCons (dOf (fVar 0)) (aCons (fC (.int 2)) aNil)))) (fC (.int 8)))) (fC (.int 5)))) (sRet (fCall m__law_long (aCons (dOf (fOpE oDiv (vOf (fVar 1)) (fC (.int 8)))) (aCons (dOf (fVar 3)) aNil)))) sNil)
    (sSeq (sSet 4 (eOf (dOf (fOpE oIx (vOf (fVar 3)) (vOf (fOpE oMod (vOf (fOpE oDiv (vOf (fVar 1)) (fC (.int 8)))) (vOf (fVar 2))))))))
    (sSeq (sSet 5 (eOf (dOf (fVar 4))))
    (sSeq (sSet 6 (fLst aNil))
    (sSeq (sFor (iSeq (dOf (fSl (vOf (fVar 0)) (pAt (fC (.int 9))) (pAt (vOf (fOpE oAdd (fC (.int 9)) (vOf (fOpE oIx (vOf (fLst (aCons (fC (.int 50)) (aCons (fC (.int 12)) (aCons (fC (.int 5)) (aCons (fC (.int 2)) (aCons (fC (.int 1)) (aCons (fC (.int 0)) (aCons (fC (.int 30)) aNil))))))))) (vOf (fOpE oMod (vOf (fOpE oDiv (vOf (fVar 1)) (fC (.int 64)))) (fC (.int 7)))))))))))) (gN 7) L1__law_arcs)
    (sSeq (sApp 6 (fTup (aCons (dOf (fVar 4)) (aCons (dOf (fVar 5)) aNil))))
    (sSeq (sSet 9 (fLst aNil))
    (sSeq (sFor (iRg1 (aCons (vOf (fBlt bLen (aCons (vOf (fVar 6)) aNil))) aNil)) (gN 10) L2__law_arcs)
    (sRetV 9)))))))))))))
def m__law_arcs : List D → Option O := mir 11 B__law_arcs
abbrev s__law_arcs : Stmt := top 13
theorem S__law_arcs : FnScope ["script", "head", "many", "spots", "here", "first", "steps", "cell", "there", "arcs", "k"] ["script"] (defScope s__law_arcs) := ⟨rfl, rfl, rfl, by decide +kernel, rfl, by decide +kernel, by decide +kernel⟩
theorem ok__law_arcs {f__law_cell_at : Addr} {d__law_cell_at : FuncData} {f__law_place : Addr} {d__law_place : FuncData} {f__law_long : Addr} {d__law_long : FuncData}
    (F : Fun K "_law_arcs" "_law_arcs" s__law_arcs f fd)
    (c__law_cell_at : Cal P w K mg base 1 f__law_cell_at d__law_cell_at "_law_cell_at" ["script", "k"] 2 m__law_cell_at)
    (c__law_place : Cal P w K mg base 1 f__law_place d__law_place "_law_place" ["cell"] 1 m__law_place)
    (c__law_long : Cal P w K mg base 1 f__law_long d__law_long "_law_long" ["number", "spots"] 2 m__law_long)
    (z_range : mg "range" = none)
    (z_len : mg "len" = none) :
    FnOk P w K mg base CX0 2 f fd ["script"] (spD K 1 m__law_arcs) := by
  have h := fnD (P := P) (w := w) (mg := mg) (base := base) (k := 1) (body := B__law_arcs) F S__law_arcs (fun cdv A outer s H E hr =>
      (xss_cons (xs_set (i := 1) S__law_arcs.nd rfl (Or.inl rfl) (XD.toE (XE.toD (xc c__law_cell_at hr (xa_cons (vD 0) (xa_cons xd_int xa_nil))))))
      (xss_cons (xs_set (i := 2) S__law_arcs.nd rfl (Or.inl rfl) (XD.toE (XE.toD (xe_sub (XD.toV xd_int) (XE.toV (xe_mod (vV 1) (XD.toV xd_int)))))))
      (xss_cons (xs_setc (i := 3) rfl S__law_arcs.nd rfl rfl (blk ["k"] ["script"] [0] rfl (by decide +kernel) (by decide +kernel) rfl ⟨⟨rfl, (by first | exact Or.inl rfl | exact Or.inr rfl), rfl⟩, trivial⟩) (xi_range1 rfl z_range (xva_cons (vV 2) xva_nil)) (tame_n 0) (fun _ _ _ _ => ⟨(xg_name (i := 0) (show ((["k"] : List Str) ++ (["script"] : List Str) : List Str).Nodup from by decide +kernel) rfl (Or.inl rfl)), xts_nil, (XE.toD (xc c__law_place hr (xa_cons (XE.toD (xc c__law_cell_at hr (xa_cons (vD 1) (xa_cons (XE.toD (xe_add (XD.toV xd_int) (vV 0))) xa_nil)))) xa_nil)))⟩))
      (xss_share 3 (xss_cons (xs_if (xt_eq hr.units (XE.toV (xe_mod (XE.toV (xc c__law_cell_at hr (xa_cons (vD 0) (xa_cons xd_int xa_nil)))) (XD.toV xd_int))) (XD.toV xd_int)) (xss_one (xs_ret (xc c__law_long hr (xa_cons (XE.toD (xe_fdiv (vV 1) (XD.toV xd_int))) (xa_cons (vD 3) xa_nil))))) xss_nil)
      (xss_cons (xs_set (i := 4) S__law_arcs.nd rfl (Or.inl rfl) (XD.toE (XE.toD (xe_item (vV 3) (XE.toV (xe_mod (XE.toV (xe_fdiv (vV 1) (XD.toV xd_int))) (vV 2)))))))
      (xss_cons (xs_set (i := 5) S__law_arcs.nd rfl (Or.inl rfl) (XD.toE (vD 4)))
      (xss_cons (xs_set (i := 6) S__law_arcs.nd rfl (Or.inl rfl) (xe_lst xa_nil))
      (xss_cons (xs_for PassesOwn.never rfl (xi_seq (XE.toD (xe_slice (vV 0) (xo_some (XD.toV xd_int)) (xo_some (XE.toV (xe_add (XD.toV xd_int) (XE.toV (xe_item (XE.toV (xe_lst (xa_cons xd_int (xa_cons xd_int (xa_cons xd_int (xa_cons xd_int (xa_cons xd_int (xa_cons xd_int (xa_cons xd_int xa_nil))))))))) (XE.toV (xe_mod (XE.toV (xe_fdiv (vV 1) (XD.toV xd_int))) (XD.toV xd_int))))))))))) (xg_name (i := 7) S__law_arcs.nd rfl (Or.inl rfl)) (xss_cons (xs_set (i := 8) S__law_arcs.nd rfl (Or.inl rfl) (XD.toE (XE.toD (xe_item (vV 3) (XE.toV (xe_mod (vV 7) (vV 2)))))))
      (xss_cons (xs_app (pv 6) (xd_tup (xa_cons (vD 4) (xa_cons (vD 8) xa_nil))))
      (xss_one (xs_set (i := 4) S__law_arcs.nd rfl (Or.inl rfl) (XD.toE (vD 8)))))))
      (xss_cons (xs_app (pv 6) (xd_tup (xa_cons (vD 4) (xa_cons (vD 5) xa_nil))))
      (xss_cons (xs_set (i := 9) S__law_arcs.nd rfl (Or.inl rfl) (xe_lst xa_nil))
      (xss_cons (xs_for PassesOwn.never rfl (xi_range1 rfl z_range (xva_cons (XE.toV (xe_blt call_len_seq cd_len rfl z_len bt_len (xva_cons (vV 6) xva_nil))) xva_nil)) (xg_name (i := 10) S__law_arcs.nd rfl (Or.inl rfl)) (xss_one (xs_appM (pv 9) (xm_pop (pv 6) (XE.toD (xe_mod (XE.toV (xe_fdiv (XE.toV (xc c__law_cell_at hr (xa_cons (vD 0) (xa_cons (XE.toD (xe_sub (XD.toV xd_int) (vV 10))) xa_nil)))) (XD.toV xd_int))) (XE.toV (xe_blt call_len_seq cd_len rfl z_len bt_len (xva_cons (vV 6) xva_nil)))))))))
      (xss_one (xs_retv (pv 9))))))))))))))))
  exact h
def L1_law : FS := (sSeq (sIf (tOrF (tNotF (tTru (vOf (fCall m__law_whole (aCons (dOf (fVar 6)) aNil))))) (tOrF (tNotF (tOf (fChI (fun i j => decide (i ≤ j)) (fun i j => decide (i < j)) (fC (.int 0)) (vOf (fVar 6)) (vOf (fBlt bLen (aCons (vOf (fVar 1)) aNil)))))) (tOf (fOpE (oEq true) (vOf (fOpE oIx (vOf (fOpE oIx (vOf (fVar 1)) (vOf (fVar 6)))) (fC (.int 0)))) (vOf (fVar 5)))))) (sRet (eOf (fC (.bl false)))) sNil)
    (sSet 5 (eOf (dOf (fOpE oIx (vOf (fOpE oIx (vOf (fVar 1)) (vOf (fVar 6)))) (fC (.int 1)))))))
def B_law : FS := (sSeq (sSet 1 (eOf (dOf (fCall m__law_arcs (aCons (dOf (fVar 0)) aNil)))))
    (sSeq (sSet 2 (eOf (dOf (fOpE oIx (vOf (fOpE oIx (vOf (fVar 1)) (vOf (fOpE oMod (vOf (fOpE oDiv (vOf (fCall m__law_cell_at (aCons (dOf (fVar 0)) (aCons (fC (.int 0)) aNil)))) (fC (.int 448)))) (vOf (fBlt bLen (aCons (vOf (fVar 1)) aNil))))))) (fC (.int 0))))))
    (sSeq (sSet 3 (eOf (dOf (fBlt bList (aCons (vOf (fVar 1)) aNil)))))
    (sSeq (sSet 4 (eOf (dOf (fCall m_row_of (aCons (dOf (fVar 2)) (aCons (dOf (fVar 3)) aNil))))))
    (sSeq (sIf (tOrF (tNotF (tTru (vOf (fIsi .lst (vOf (fVar 4)))))) (tOrF (tOf (fOpE (oEq true) (vOf (fBlt bLen (aCons (vOf (fVar 4)) aNil))) (vOf (fBlt bLen (aCons (vOf (fVar 1)) aNil))))) (tOf (fOpE (oEq true) (vOf (fVar 3)) (vOf (fVar 1)))))) (sRet (eOf (fC (.bl false)))) sNil)
    (sSeq (sSet 5 (eOf (dOf (fVar 2))))
    (sSeq (sFor (iSeq (dOf (fVar 4))) (gN 6) L1_law)
    (sRet (eOf (vAnd (dOf (fOpE (oEq false) (vOf (fVar 5)) (vOf (fVar 2)))) (dOf (fOpE (oEq false) (vOf (fSortB (vOf (fVar 4)))) (vOf (fBlt bRng1 (aCons (vOf (fBlt bLen (aCons (vOf (fVar 1)) aNil))) aNil)))))))))))))))
def m_law : List D → Option O := mir 7 B_law
abbrev s_law : Stmt := top 14
theorem S_law : FnScope ["script", "arcs", "start", "handed", "found", "here", "k"] ["script"] (defScope s_law) := ⟨rfl, rfl, rfl, by decide +kernel, rfl, by decide +kernel, by decide +kernel⟩
theorem ok_law {f__law_arcs : Addr} {d__law_arcs : FuncData} {f__law_cell_at : Addr} {d__law_cell_at : FuncData} {f_row_of : Addr} {d_row_of : FuncData} {f__law_whole : Addr} {d__law_whole : FuncData}
    (F : Fun K "law" "law" s_law f fd)
    (c__law_arcs : Cal P w K mg base 2 f__law_arcs d__law_arcs "_law_arcs" ["script"] 1 m__law_arcs)
    (c__law_cell_at : Cal P w K mg base 1 f__law_cell_at d__law_cell_at "_law_cell_at" ["script", "k"] 2 m__law_cell_at)
    (c_row_of : Cal P w K mg base 3 f_row_of d_row_of "row_of" ["start", "arcs"] 2 m_row_of)
    (c__law_whole : Cal P w K mg base 1 f__law_whole d__law_whole "_law_whole" ["found"] 1 m__law_whole)
    (z_len : mg "len" = none)
    (z_list : mg "list" = none)
    (z_isinstance : mg "isinstance" = none)
    (z_sorted : mg "sorted" = none)
    (z_range : mg "range" = none)
    (i_list : IsT K .lst) :
    FnOk P w K mg base CX0 4 f fd ["script"] (spD K 1 m_law) := by
  have h := fnD (P := P) (w := w) (mg := mg) (base := base) (k := 3) (body := B_law) F S_law (fun cdv A outer s H E hr =>
      (xss_cons (xs_set (i := 1) S_law.nd rfl (Or.inl rfl) (XD.toE (XE.toD (xc c__law_arcs hr (xa_cons (vD 0) xa_nil)))))
      (xss_cons (xs_set (i := 2) S_law.nd rfl (Or.inl rfl) (XD.toE (XE.toD (xe_item (XE.toV (xe_item (vV 1) (XE.toV (xe_mod (XE.toV (xe_fdiv (XE.toV (xc c__law_cell_at hr (xa_cons (vD 0) (xa_cons xd_int xa_nil)))) (XD.toV xd_int))) (XE.toV (xe_blt call_len_seq cd_len rfl z_len bt_len (xva_cons (vV 1) xva_nil))))))) (XD.toV xd_int)))))
      (xss_cons (xs_set (i := 3) S_law.nd rfl (Or.inl rfl) (XD.toE (XE.toD (xe_ty call_list_of cd_list rfl z_list bt_list (xva_cons (vV 1) xva_nil)))))
      (xss_cons (xs_set (i := 4) S_law.nd rfl (Or.inl rfl) (XD.toE (XE.toD (xc c_row_of hr (xa_cons (vD 2) (xa_cons (vD 3) xa_nil))))))
      (xss_cons (xs_if (XW.toT (xw_or (xt_not (xt_val (XE.toV (xe_isi (vV 4) i_list rfl z_isinstance rfl z_list bt_list)))) (xw_or (xt_ne hr.units (XE.toV (xe_blt call_len_seq cd_len rfl z_len bt_len (xva_cons (vV 4) xva_nil))) (XE.toV (xe_blt call_len_seq cd_len rfl z_len bt_len (xva_cons (vV 1) xva_nil)))) (xw_or1 (xt_ne hr.units (vV 3) (vV 1)))))) (xss_one (xs_ret (XD.toE xd_bl))) xss_nil)
      (xss_cons (xs_set (i := 5) S_law.nd rfl (Or.inl rfl) (XD.toE (vD 2)))
      (xss_cons (xs_for PassesOwn.never rfl (xi_seq (vD 4)) (xg_name (i := 6) S_law.nd rfl (Or.inl rfl)) (xss_cons (xs_if (XW.toT (xw_or (xt_not (xt_val (XE.toV (xc c__law_whole hr (xa_cons (vD 6) xa_nil))))) (xw_or (xt_not (xt_chain op_le op_lt (XD.toV xd_int) (vV 6) (XE.toV (xe_blt call_len_seq cd_len rfl z_len bt_len (xva_cons (vV 1) xva_nil))))) (xw_or1 (xt_ne hr.units (XE.toV (xe_item (XE.toV (xe_item (vV 1) (vV 6))) (XD.toV xd_int))) (vV 5)))))) (xss_one (xs_ret (XD.toE xd_bl))) xss_nil)
      (xss_one (xs_set (i := 5) S_law.nd rfl (Or.inl rfl) (XD.toE (XE.toD (xe_item (XE.toV (xe_item (vV 1) (vV 6))) (XD.toV xd_int))))))))
      (xss_one (xs_ret (XD.toE (xd_and (XE.toD (xe_eq hr.units (vV 5) (vV 2))) (xd_one (XE.toD (xe_eq hr.units (XE.toV (xe_sortB rfl z_sorted (vV 4))) (XE.toV (xe_listrng1 rfl z_list rfl z_range (xva_cons (XE.toV (xe_blt call_len_seq cd_len rfl z_len bt_len (xva_cons (vV 1) xva_nil))) xva_nil))))))))))))))))))
  exact h
end
local macro_rules | `(tactic| simp_arith [$xs,*]) => `(tactic| simp -implicitDefEqProofs only [e_wsortB, e_wsB, e_wdrop, e_wd, e_wclr, e_wrev, e_wm, e_wzip, e_wz, e_wrem, e_wpop, e_wsort, e_wchk, e_wck, e_dnew, e_dnew1, e_dn1, e_dset, e_dget, e_dgr, e_dco, e_dcs, e_dhas, e_dht, e_dhn, e_dsort, e_dpop0, e_dsh, e_lset, e_aug, e_augi, e_irv, e_irl, e_max3, e_ien, e_enl, e_mir, e_om_rt, e_om_nx, e_seq, e_bs_nx, e_bs_rt, e_bs_bk, e_bs_ct, e_nil, e_brk, e_cnt, e_set, e_ss_sh, e_ss_fr, e_if, e_if_t, e_if_f, e_ret, e_rs_sh, e_rs_fr, e_retn, e_retv, e_rv_sh, e_rv_ow, e_app, e_as, e_ext, e_es_t, e_es_l, e_share, e_sh_ow, e_sh_sh, e_sh_no, e_for, e_fs, e_asg, e_ag, e_gn, e_gt, e_gc, e_g0, e_var, e_vr_sh, e_vr_ow, e_c, e_e, e_ed, e_d, e_dr_sh, e_dr_fr, e_v, e_vv_sh, e_vv_fr, e_vv_vw, e_op, e_o2, e_call, e_cl, e_or_sh, e_or_fr, e_ac, e_ca, e_an, e_lst, e_tup, e_mf, e_mt, e_blt, e_bl, e_slc, e_sl, e_po, e_pa, e_ap, e_ite, e_it_t, e_it_f, e_isi, e_isi_int, e_isi_bl, e_isi_non, e_isi_str, e_isi_lst, e_isi_tup, e_t, e_tr, e_tand, e_ta_t, e_ta_f, e_ta, e_ta2, e_tor, e_to_t, e_to_f, e_to, e_to2, e_tnot, e_tn, e_ttru, e_tt_bl, e_tt_int, e_tt_lst, e_tt_tup, e_tt_non, e_ttt, e_vand, e_va_t, e_va_f, e_va, e_va2, e_vor, e_vo_t, e_vo_f, e_vo, e_vo2, e_vnot, e_vn, e_iseq, e_is_l, e_is_t, e_rg1, e_rg2, e_comp, e_cp, e_neg, e_ng, e_len_l, e_len_t, e_len_s, e_list_l, e_list_t, e_tuple_l, e_tuple_t, e_ms, e_st_nx, e_st_ct, oEq_ii, oNe_ii, oEq_bb, oSub_ii, oLt_ii, oLe_ii, oGt_ii, oGe_ii, oAdd_ii, oIs_bb, oIsn_bb, oIs_n, oIsn_n, oIx_l, oIx_t, oIx_s, at0, at1, at2, oMod_ii, oDiv_ii, subT, entry, Option.bind_some, Option.map_some, List.length_cons, List.length_nil, List.length_map, List.map_cons, List.map_nil, List.cons_append, List.nil_append, List.replicate_succ, List.replicate_zero, List.set_cons_succ, List.set_cons_zero, List.getElem?_cons_succ, List.getElem?_cons_zero, Nat.reduceSub, Nat.reduceAdd, Nat.reduceLT, Int.reduceLT, Int.reduceLE, Int.reduceSub, Int.reduceAdd, Int.reduceMul, Int.reduceMod, Int.reduceDiv, Int.reduceNeg, Int.reducePow, Int.reduceBEq, Int.reduceToNat, ↓reduceIte, Bool.not_true, Bool.true_and, Bool.false_and, Bool.and_true, Bool.and_false, Bool.true_or, Bool.false_or, Bool.or_true, Bool.or_false, Bool.not_false, Nat.zero_add, beq_self_eq_true, Bool.false_eq_true, $xs,*])
theorem compD_relA {α : Type} {g : FG} {c : FT} {f : FD} (P : WSt → Prop) (q : α → Bool) (B F : α → D) : ∀ (xs : List α) {ω : WSt}, P ω →
    (∀ x ∈ xs, ∀ ω, P ω → ∃ w, g (B x) ω = some w ∧ P w ∧ c w = some (q x) ∧ (q x = true → f w = some (F x))) → compD g c f (xs.map B) ω = some ((xs.filter q).map F)
  | [], _, _, _ => rfl
  | x :: xs, ω, h, t => by
    obtain ⟨w, h1, h2, h3, h4⟩ := t x List.mem_cons_self ω h
    have ih := compD_relA P q B F xs h2 (fun e he => t e (List.mem_cons_of_mem _ he))
    rw [List.map_cons, compD, h1, Option.bind_some, h3, Option.bind_some]
    cases hq : q x with
    | true => rw [if_pos rfl, h4 hq, Option.bind_some, ih, List.filter_cons_of_pos hq]; rfl
    | false => rw [if_neg (by decide), ih, List.filter_cons_of_neg (by rw [hq]; decide)]
theorem compD_filA {α : Type} {i : Nat} {c : FT} {f : FD} (q : α → Bool) (B F : α → D) (xs : List α) {ω : WSt} (h : ∀ x ∈ xs, c (ω.set i (some (.sh (B x)))) = some (q x) ∧ (q x = true → f (ω.set i (some (.sh (B x)))) = some (F x))) : compD (gN i) c f (xs.map B) ω = some ((xs.filter q).map F) :=
  compD_relA (g := gN i) (c := c) (f := f) (fun w => ∀ x, w.set i x = ω.set i x) q B F xs (ω := ω) (fun x => rfl) fun d hd w hw =>
    ⟨w.set i (some (.sh (B d))), rfl, fun x => by rw [List.set_set, hw], by rw [hw]; exact (h d hd).1, fun z => by rw [hw]; exact (h d hd).2 z⟩
theorem compD_mapA {α : Type} {i : Nat} {f : FD} (B F : α → D) (xs : List α) {ω : WSt} (h : ∀ x ∈ xs, f (ω.set i (some (.sh (B x)))) = some (F x)) : compD (gN i) tTrue f (xs.map B) ω = some (xs.map F) := by
  have := compD_filA (c := tTrue) (i := i) (f := f) (fun _ => true) B F xs (ω := ω) fun x hx => ⟨rfl, fun _ => h x hx⟩
  rw [this, List.filter_eq_self.mpr (fun _ _ => rfl)]
def sts (as : List (Int × Int)) : List Int := as.map (·.1)
def gls (as : List (Int × Int)) : List Int := as.map (·.2)
theorem eqv_ints : ∀ (a b : List Int), PyData.eqvAll (D.pys (a.map D.int)) (D.pys (b.map D.int)) = decide (a = b)
  | [], [] => rfl
  | [], _ :: _ => rfl
  | _ :: _, [] => rfl
  | x :: a, y :: b => by
    show (x == y && PyData.eqvAll (D.pys (a.map D.int)) (D.pys (b.map D.int))) = _
    rw [eqv_ints a b]
    by_cases z : x = y
    · subst z
      simp
    · have : (x == y) = false := by simpa using z
      rw [this]
      simp [z]
theorem ints_shp (a : List Int) : shp (.lst (a.map D.int)) = true := shp_lst 2 (by decide) fun d hd => by
  obtain ⟨m, _, rfl⟩ := List.mem_map.mp hd; exact ⟨rfl, by show 0 ≤ 2; decide⟩
theorem oEq_ints (a b : List Int) : oEq false (.lst (a.map D.int)) (.lst (b.map D.int)) = some (.sh (.bl (decide (a = b)))) := by
  unfold oEq
  rw [ints_shp, ints_shp]
  show some (R.sh (.bl (PyData.eqvAll (D.pys (a.map D.int)) (D.pys (b.map D.int))))) = _
  rw [eqv_ints]
theorem many_at {as : List (Int × Int)} (hl : as.length ≤ 3000) : m_as_many_begin_as_end [.lst (as.map pairD2)] = some (.sh (.bl (decide ((sts as).Perm (gls as))))) := by
  unfold m_as_many_begin_as_end B_as_many_begin_as_end
  have hl2 : (as.map pairD2).length ≤ 1000000 := by rw [List.length_map]; omega
  have c1 := compD_mapA (i := 0) (f := E1_as_many_begin_as_end) pairD2 (fun p => D.int p.1) as (ω := [none]) (fun p _ => by
    unfold E1_as_many_begin_as_end pairD2
    simp_arith [e_seq])
  have c2 := compD_mapA (i := 0) (f := E2_as_many_begin_as_end) pairD2 (fun p => D.int p.2) as (ω := [none]) (fun p _ => by
    unfold E2_as_many_begin_as_end pairD2
    simp_arith [e_seq])
  have e1 : (as.map fun p => D.int p.1) = (sts as).map D.int := by unfold sts; rw [List.map_map]; rfl
  have e2 : (as.map fun p => D.int p.2) = (gls as).map D.int := by unfold gls; rw [List.map_map]; rfl
  rw [e1] at c1
  rw [e2] at c2
  have s1 := e_wsB (ns := sts as) (by unfold sts; rw [List.length_map]; omega)
  have s2 := e_wsB (ns := gls as) (by unfold gls; rw [List.length_map]; omega)
  have q : oEq false (.lst ((sortZ (sts as)).map D.int)) (.lst ((sortZ (gls as)).map D.int)) = some (.sh (.bl (decide ((sts as).Perm (gls as))))) := by
    rw [oEq_ints, decide_eq_decide.mpr (sortZ_eq (l := sts as) (m := gls as))]
  simp_arith [e_cp hl2, inW, shOf, c1, c2, s1, s2, q]
inductive Rch (es : List (Int × Int)) (a : Int) : Int → Prop where
  | refl : Rch es a a
  | step {b c : Int} : Rch es a b → ((b, c) ∈ es ∨ (c, b) ∈ es) → Rch es a c
theorem Rch.trans {es : List (Int × Int)} {a b c : Int} (h : Rch es a b) (h' : Rch es b c) : Rch es a c := by
  induction h' with
  | refl => exact h
  | step _ e ih => exact ih.step e
theorem Rch.symm {es : List (Int × Int)} {a b : Int} (h : Rch es a b) : Rch es b a := by
  induction h with
  | refl => exact .refl
  | step _ e ih => exact (Rch.refl.step e.symm).trans ih
theorem Rch.inv {es : List (Int × Int)} {a : Int} (P : Int → Prop) (h0 : P a) (hs : ∀ b c, P b → ((b, c) ∈ es ∨ (c, b) ∈ es) → P c) {c : Int} (h : Rch es a c) : P c := by
  induction h with
  | refl => exact h0
  | step _ e ih => exact hs _ _ ih e
def srcN (as : List (Int × Int)) (n : Nat) : Int := (as.getD n (0, 0)).1
def dstN (as : List (Int × Int)) (n : Nat) : Int := (as.getD n (0, 0)).2
inductive Wlk (as : List (Int × Int)) : Int → List Nat → Int → Prop where
  | nil (a : Int) : Wlk as a [] a
  | cons {a b : Int} {n : Nat} {r : List Nat} (h : srcN as n = a) (t : Wlk as (dstN as n) r b) : Wlk as a (n :: r) b
theorem Wlk.app {as : List (Int × Int)} {a b c : Int} {r q : List Nat} (h : Wlk as a r b) (h' : Wlk as b q c) : Wlk as a (r ++ q) c := by
  induction h with
  | nil _ => exact h'
  | cons e _ ih => exact .cons e (ih h')
theorem Wlk.snoc {as : List (Int × Int)} {a b : Int} {r : List Nat} {n : Nat} (h : Wlk as a r b) (e : srcN as n = b) : Wlk as a (r ++ [n]) (dstN as n) := h.app (.cons e (.nil _))
theorem Wlk.last {as : List (Int × Int)} : ∀ {r : List Nat} {a b : Int} {n : Nat}, Wlk as a (r ++ [n]) b → b = dstN as n ∧ Wlk as a r (srcN as n)
  | [], a, b, n, h => by
    cases h with
    | cons e t => cases t; exact ⟨rfl, by rw [← e]; exact .nil _⟩
  | m :: r, a, b, n, h => by
    cases h with
    | cons e t =>
      obtain ⟨h1, h2⟩ := Wlk.last t
      exact ⟨h1, .cons e h2⟩
def cS (as : List (Int × Int)) (U : List Nat) (v : Int) : Nat := U.countP fun n => decide (srcN as n = v)
def cD (as : List (Int × Int)) (U : List Nat) (v : Int) : Nat := U.countP fun n => decide (dstN as n = v)
def ind (v h : Int) : Int := if v = h then 1 else 0
def bal (as : List (Int × Int)) (U : List Nat) (h x : Int) : Prop := ∀ v, (cS as U v : Int) - cD as U v = ind v h - ind v x
structure HI (as : List (Int × Int)) (s : Int) (U T B : List Nat) (h : Int) : Prop where
  all : (U ++ (T ++ B)).Perm (List.range as.length)
  inv : ∃ x T0 T1, T = T0 ++ T1 ∧ Wlk as s T0 x ∧ Wlk as x T1 h ∧ Wlk as x B.reverse s ∧ bal as U h x
  shut : ∀ n ∈ B, ∀ m ∈ U, srcN as m ≠ dstN as n
theorem cS_perm {as : List (Int × Int)} {U U' : List Nat} {n : Nat} (h : U.Perm (n :: U')) (v : Int) : cS as U v = cS as U' v + if srcN as n = v then 1 else 0 := by
  unfold cS; rw [h.countP_eq, List.countP_cons]; simp
theorem cD_perm {as : List (Int × Int)} {U U' : List Nat} {n : Nat} (h : U.Perm (n :: U')) (v : Int) : cD as U v = cD as U' v + if dstN as n = v then 1 else 0 := by
  unfold cD; rw [h.countP_eq, List.countP_cons]; simp
theorem HI.start {as : List (Int × Int)} {s : Int} {U : List Nat} (hU : U.Perm (List.range as.length)) (hb : ∀ v, cS as U v = cD as U v) : HI as s U [] [] s :=
  ⟨by simpa using hU, ⟨s, [], [], rfl, .nil _, .nil _, .nil _, fun v => by rw [hb v]; omega⟩, fun n hn => by cases hn⟩
theorem HI.push {as : List (Int × Int)} {s h : Int} {U U' T B : List Nat} {n : Nat} (I : HI as s U T B h) (hn : U.Perm (n :: U')) (hs : srcN as n = h) : HI as s U' (T ++ [n]) B (dstN as n) := by
  obtain ⟨x, T0, T1, rfl, w0, w1, w2, b⟩ := I.inv
  refine ⟨?_, ⟨x, T0, T1 ++ [n], by rw [List.append_assoc], w0, w1.snoc hs, w2, fun v => ?_⟩, fun k hk m hm => I.shut k hk m (hn.mem_iff.mpr (List.mem_cons_of_mem _ hm))⟩
  · refine List.Perm.trans ?_ I.all
    have h1 : (U ++ ((T0 ++ T1) ++ B)).Perm ((n :: U') ++ ((T0 ++ T1) ++ B)) := hn.append_right _
    refine List.Perm.trans ?_ h1.symm
    rw [List.append_assoc (T0 ++ T1) [n] B]
    have h2 : (U' ++ ((T0 ++ T1) ++ ([n] ++ B))).Perm (U' ++ ([n] ++ ((T0 ++ T1) ++ B))) := List.Perm.append_left _ (by
      rw [← List.append_assoc, ← List.append_assoc]; exact List.Perm.append_right _ List.perm_append_comm)
    refine h2.trans ?_
    show (U' ++ (n :: ((T0 ++ T1) ++ B))).Perm (n :: (U' ++ ((T0 ++ T1) ++ B)))
    exact List.perm_middle
  · have := b v
    have e1 := cS_perm (as := as) hn v
    have e2 := cD_perm (as := as) hn v
    unfold ind at this ⊢
    rw [hs] at e1
    by_cases z1 : v = h <;> by_cases z2 : v = dstN as n
    · rw [if_pos z1.symm] at e1; rw [if_pos z2.symm] at e2; rw [if_pos z1] at this; rw [if_pos z2]; omega
    · rw [if_pos z1.symm] at e1; rw [if_neg (fun q => z2 q.symm)] at e2; rw [if_pos z1] at this; rw [if_neg z2]; omega
    · rw [if_neg (fun q => z1 q.symm)] at e1; rw [if_pos z2.symm] at e2; rw [if_neg z1] at this; rw [if_pos z2]; omega
    · rw [if_neg (fun q => z1 q.symm)] at e1; rw [if_neg (fun q => z2 q.symm)] at e2; rw [if_neg z1] at this; rw [if_neg z2]; omega
theorem cS_zero {as : List (Int × Int)} {U : List Nat} {v : Int} (h : ∀ m ∈ U, srcN as m ≠ v) : cS as U v = 0 := by
  unfold cS; rw [List.countP_eq_zero]; intro m hm; simpa using h m hm
theorem stuck {as : List (Int × Int)} {U : List Nat} {h x : Int} (b : bal as U h x) (hs : ∀ m ∈ U, srcN as m ≠ h) : h = x := by
  have := b h
  rw [cS_zero hs] at this
  unfold ind at this
  rw [if_pos rfl] at this
  by_cases z : h = x
  · exact z
  · rw [if_neg z] at this; omega
theorem HI.pop {as : List (Int × Int)} {s h : Int} {U T B : List Nat} {n : Nat} (I : HI as s U (T ++ [n]) B h) (hs : ∀ m ∈ U, srcN as m ≠ h) : HI as s U T (B ++ [n]) (srcN as n) := by
  obtain ⟨x, T0, T1, e, w0, w1, w2, b⟩ := I.inv
  have hx := stuck b hs
  subst hx
  have w : Wlk as s (T ++ [n]) h := by rw [e]; exact w0.app w1
  obtain ⟨e1, e2⟩ := w.last
  refine ⟨?_, ⟨srcN as n, T, [], by rw [List.append_nil], e2, .nil _, ?_, fun v => by have := b v; omega⟩, fun k hk m hm => ?_⟩
  · refine List.Perm.trans (List.Perm.append_left _ ?_) I.all
    rw [List.append_assoc]
    exact List.Perm.append_left _ List.perm_append_comm
  · rw [List.reverse_append]
    exact .cons rfl (by rw [← e1]; exact w2)
  · rcases List.mem_append.mp hk with y | y
    · exact I.shut k y m hm
    · cases List.mem_singleton.mp y
      rw [← e1]; exact hs m hm
structure Rnd (as : List (Int × Int)) (s : Int) (row U : List Nat) : Prop where
  all : (U ++ row).Perm (List.range as.length)
  walk : Wlk as s row s
  s0 : ∀ m ∈ U, srcN as m ≠ s
  shut : ∀ n ∈ row, ∀ m ∈ U, srcN as m ≠ dstN as n
  even : ∀ v, cS as U v = cD as U v
theorem HI.done {as : List (Int × Int)} {s h : Int} {U B : List Nat} (I : HI as s U [] B h) (hs : ∀ m ∈ U, srcN as m ≠ h) : Rnd as s B.reverse U := by
  obtain ⟨x, T0, T1, e, w0, w1, w2, b⟩ := I.inv
  obtain ⟨rfl, rfl⟩ := List.append_eq_nil_iff.mp e.symm
  cases w0
  cases w1
  refine ⟨?_, w2, hs, fun n hn => I.shut n (List.mem_reverse.mp hn), fun v => by have := b v; omega⟩
  have := I.all
  rw [List.nil_append] at this
  exact (List.Perm.append_left _ (List.reverse_perm B)).trans this
theorem Wlk.mem {as : List (Int × Int)} {V : Int → Prop} : ∀ {r : List Nat} {a b : Int}, Wlk as a r b → V a → (∀ n ∈ r, V (dstN as n)) → ∀ n ∈ r, V (srcN as n)
  | [], _, _, _, _, _, n, hn => by cases hn
  | m :: r, a, b, h, ha, hv, n, hn => by
    cases h with
    | cons e t =>
      rcases List.mem_cons.mp hn with rfl | hn
      · rw [e]; exact ha
      · exact t.mem (hv m List.mem_cons_self) (fun k hk => hv k (List.mem_cons_of_mem _ hk)) n hn
theorem Rnd.full {as : List (Int × Int)} {s : Int} {row U : List Nat} (R : Rnd as s row U) (hr : ∀ a ∈ as, Rch as s a.1) : row.length = as.length := by
  have hU : U = [] := by
    cases U with
    | nil => rfl
    | cons m U' =>
      exfalso
      let V : Int → Prop := fun v => v = s ∨ ∃ n ∈ row, dstN as n = v
      have out : ∀ v, V v → ∀ k ∈ m :: U', srcN as k ≠ v := fun v hv k hk => by
        rcases hv with rfl | ⟨n, hn, rfl⟩
        · exact R.s0 k hk
        · exact R.shut n hn k hk
      have inn : ∀ v, V v → ∀ k ∈ m :: U', dstN as k ≠ v := fun v hv k hk e => by
        have h1 := cS_zero (as := as) (out v hv)
        have h2 := R.even v
        rw [h1] at h2
        have : cD as (m :: U') v = 0 := h2.symm
        unfold cD at this
        rw [List.countP_eq_zero] at this
        exact this k hk (by simpa using e)
      have row_of : ∀ (n : Nat), n < as.length → (V (srcN as n) ∨ V (dstN as n)) → n ∈ row := fun n hn hv => by
        have : n ∈ (m :: U') ++ row := R.all.mem_iff.mpr (List.mem_range.mpr hn)
        rcases List.mem_append.mp this with y | y
        · rcases hv with hv | hv
          · exact absurd rfl (out _ hv n y)
          · exact absurd rfl (inn _ hv n y)
        · exact y
      have sv : ∀ n ∈ row, V (srcN as n) := R.walk.mem (V := V) (.inl rfl) fun n hn => .inr ⟨n, hn, rfl⟩
      have cl : ∀ c, Rch as s c → V c := fun c h => h.inv V (.inl rfl) fun b c hb e => by
        rcases e with e | e
        · obtain ⟨n, hn, he⟩ := List.mem_iff_getElem.mp e
          have es : srcN as n = b ∧ dstN as n = c := by
            unfold srcN dstN; rw [List.getD_eq_getElem?_getD, List.getElem?_eq_getElem hn, he]; exact ⟨rfl, rfl⟩
          exact .inr ⟨n, row_of n hn (.inl (by rw [es.1]; exact hb)), es.2⟩
        · obtain ⟨n, hn, he⟩ := List.mem_iff_getElem.mp e
          have es : srcN as n = c ∧ dstN as n = b := by
            unfold srcN dstN; rw [List.getD_eq_getElem?_getD, List.getElem?_eq_getElem hn, he]; exact ⟨rfl, rfl⟩
          rw [← es.1]; exact sv n (row_of n hn (.inr (by rw [es.2]; exact hb)))
      have hm : m < as.length := List.mem_range.mp (R.all.mem_iff.mp (by simp))
      have hrm := hr _ (List.getElem_mem hm)
      have es : srcN as m = (as[m]).1 := by unfold srcN; rw [List.getD_eq_getElem?_getD, List.getElem?_eq_getElem hm]; rfl
      exact out _ (cl _ (by rw [← es] at hrm; exact hrm)) m List.mem_cons_self rfl
  have := R.all.length_eq
  rw [hU, List.nil_append, List.length_range] at this
  exact this
theorem Wlk.rch {as : List (Int × Int)} : ∀ {r : List Nat} {a b : Int}, Wlk as a r b → (∀ n ∈ r, n < as.length) → ∀ n ∈ r, Rch as a (srcN as n)
  | [], _, _, _, _, n, hn => by cases hn
  | m :: r, a, b, h, hl, n, hn => by
    cases h with
    | cons e t =>
      rcases List.mem_cons.mp hn with rfl | hn
      · rw [e]; exact .refl
      · have hm := hl m List.mem_cons_self
        have st : Rch as a (dstN as m) := by
          refine Rch.refl.step (.inl ?_)
          rw [← e]
          unfold srcN dstN
          rw [List.getD_eq_getElem?_getD, List.getElem?_eq_getElem hm]
          exact List.getElem_mem hm
        exact st.trans (t.rch (fun k hk => hl k (List.mem_cons_of_mem _ hk)) n hn)
def cst (l : List Nat) : List Int := l.map fun (n : Nat) => (n : Int)
structure WT (as : List (Int × Int)) (ks : List Int) (xss : List (List Int)) (U : List Nat) : Prop where
  len : ks.length = xss.length
  nd : U.Nodup
  mem : ∀ (v k : Int), k ∈ getT ks xss v ↔ ∃ n : Nat, k = n ∧ n ∈ U ∧ srcN as n = v
  gn : ∀ v, (getT ks xss v).Nodup
theorem getT_drop : ∀ {ks : List Int} {xss : List (List Int)} (h v : Int), ks.length = xss.length → getT ks (dropA ks xss h) v = if v = h then (getT ks xss h).dropLast else getT ks xss v
  | [], [], h, v, _ => by
    show ([] : List Int) = if v = h then ([] : List Int).dropLast else []
    split <;> rfl
  | [], _ :: _, _, _, hl => by simp at hl
  | _ :: _, [], _, _, hl => by simp at hl
  | k :: ks, x :: xss, h, v, hl => by
    have ih := getT_drop (ks := ks) (xss := xss) h v (by simpa using hl)
    unfold getT at ih ⊢
    show (valD (k :: ks) (if k = h then x.dropLast :: xss else x :: dropA ks xss h) v).getD [] = if v = h then ((if k = h then some x else valD ks xss h).getD []).dropLast else (if k = v then some x else valD ks xss v).getD []
    by_cases z : k = h
    · rw [if_pos z, if_pos z]
      show (if k = v then some x.dropLast else valD ks xss v).getD [] = _
      by_cases y : k = v
      · rw [if_pos y, if_pos (by rw [← y, z])]; rfl
      · rw [if_neg y, if_neg (fun e => y (by rw [z, e])), if_neg y]
    · rw [if_neg z, if_neg z]
      show (if k = v then some x else valD ks (dropA ks xss h) v).getD [] = _
      by_cases y : k = v
      · rw [if_pos y, if_neg (fun e => z (by rw [y, e])), if_pos y]
      · rw [if_neg y, ih, if_neg y]
theorem dropA_len : ∀ (ks : List Int) (xss : List (List Int)) (h : Int), (dropA ks xss h).length = xss.length
  | [], _, _ => rfl
  | _ :: _, [], _ => rfl
  | k :: ks, x :: xss, h => by
    show (if k = h then x.dropLast :: xss else x :: dropA ks xss h).length = _
    split
    · rfl
    · rw [List.length_cons, dropA_len, List.length_cons]
theorem mem_dropLast {l : List Int} {k a : Int} (nd : l.Nodup) (e : l.getLast? = some k) : a ∈ l.dropLast ↔ a ∈ l ∧ a ≠ k := by
  have hl : l = l.dropLast ++ [k] := by
    have hne : l ≠ [] := fun z => by rw [z] at e; cases e
    have := List.dropLast_concat_getLast hne
    rw [List.getLast?_eq_getLast hne] at e
    rw [Option.some.inj e] at this
    exact this.symm
  rw [hl] at nd
  have nd' := List.nodup_append.mp nd
  constructor
  · intro h
    exact ⟨by rw [hl]; exact List.mem_append_left _ h, fun z => nd'.2.2 a h k (by simp) z⟩
  · rintro ⟨h1, h2⟩
    rw [hl] at h1
    rcases List.mem_append.mp h1 with y | y
    · exact y
    · exact absurd (List.mem_singleton.mp y) h2
theorem WT.pop {as : List (Int × Int)} {ks : List Int} {xss : List (List Int)} {U : List Nat} (W : WT as ks xss U) {h : Int} {m : Nat} (e : (getT ks xss h).getLast? = some (m : Int)) : WT as ks (dropA ks xss h) (U.erase m) := by
  have hm : (m : Int) ∈ getT ks xss h := List.mem_of_getLast? e
  obtain ⟨n, en, hn, hs⟩ := (W.mem h m).mp hm
  have : n = m := by omega
  subst this
  refine ⟨by rw [dropA_len]; exact W.len, W.nd.erase _, fun v k => ?_, fun v => ?_⟩
  · rw [getT_drop h v W.len]
    by_cases z : v = h
    · rw [if_pos z, mem_dropLast (W.gn h) e, W.mem h]
      constructor
      · rintro ⟨⟨n', rfl, h1, h2⟩, h3⟩
        exact ⟨n', rfl, (W.nd.mem_erase_iff).mpr ⟨fun q => h3 (by rw [q]), h1⟩, by rw [z]; exact h2⟩
      · rintro ⟨n', rfl, h1, h2⟩
        obtain ⟨a, b⟩ := (W.nd.mem_erase_iff).mp h1
        exact ⟨⟨n', rfl, b, by rw [← z]; exact h2⟩, fun q => a (by omega)⟩
    · rw [if_neg z, W.mem v]
      constructor
      · rintro ⟨n', rfl, h1, h2⟩
        exact ⟨n', rfl, (W.nd.mem_erase_iff).mpr ⟨fun q => z (by rw [← h2, q, hs]), h1⟩, h2⟩
      · rintro ⟨n', rfl, h1, h2⟩
        exact ⟨n', rfl, ((W.nd.mem_erase_iff).mp h1).2, h2⟩
  · rw [getT_drop h v W.len]
    split
    · exact (W.gn h).sublist (List.dropLast_sublist _)
    · exact W.gn v
theorem get_src {as : List (Int × Int)} {m : Nat} : (as.getD ((m : Int)).toNat (0, 0)).1 = srcN as m ∧ (as.getD ((m : Int)).toNat (0, 0)).2 = dstN as m := by
  rw [Int.toNat_natCast]; exact ⟨rfl, rfl⟩
theorem run_at {as : List (Int × Int)} {s : Int} (hl : as.length ≤ 3000) {ks : List Int} : ∀ (n : Nat) (xss : List (List Int)) (U T B : List Nat) (h : Int), HI as s U T B h → WT as ks xss U → 2 * U.length + T.length < n →
    ∃ row U', rfRun as ks n xss (cst T) (cst B) h = some (cst row) ∧ Rnd as s row U'
  | 0, _, _, _, _, _, _, _, hn => absurd hn (Nat.not_lt_zero _)
  | n + 1, xss, U, T, B, h, I, W, hn => by
    have tot : U.length + (T.length + B.length) = as.length := by
      have := I.all.length_eq
      rw [List.length_append, List.length_append, List.length_range] at this; exact this
    unfold rfRun
    cases e : (getT ks xss h).getLast? with
    | some k =>
      obtain ⟨m, rfl, hm, hs⟩ := (W.mem h k).mp (List.mem_of_getLast? e)
      have hlt : m < as.length := List.mem_range.mp (I.all.mem_iff.mp (List.mem_append_left _ hm))
      have pm := List.perm_cons_erase hm
      have I' := I.push pm hs
      have ul : U.length = (U.erase m).length + 1 := by have := pm.length_eq; rw [List.length_cons] at this; exact this
      obtain ⟨row, U', r1, r2⟩ := run_at hl n (dropA ks xss h) (U.erase m) (T ++ [m]) B _ I' (W.pop e) (by rw [List.length_append, List.length_singleton]; omega)
      refine ⟨row, U', ?_, r2⟩
      show (if 0 ≤ (m : Int) ∧ (m : Int) < as.length ∧ (cst T).length < 1000000 then rfRun as ks n (dropA ks xss h) (cst T ++ [(m : Int)]) (cst B) (as.getD ((m : Int)).toNat (0, 0)).2 else none) = _
      rw [if_pos ⟨by omega, by omega, by unfold cst; rw [List.length_map]; omega⟩, get_src.2]
      rw [show cst T ++ [(m : Int)] = cst (T ++ [m]) by unfold cst; rw [List.map_append]; rfl]
      exact r1
    | none =>
      have hem : getT ks xss h = [] := List.getLast?_eq_none_iff.mp e
      have hs : ∀ m ∈ U, srcN as m ≠ h := fun m hm z => by
        have : (m : Int) ∈ getT ks xss h := (W.mem h m).mpr ⟨m, rfl, hm, z⟩
        rw [hem] at this; cases this
      rcases List.eq_nil_or_concat T with rfl | ⟨T0, m, rfl⟩
      · refine ⟨B.reverse, U, ?_, I.done hs⟩
        show some (cst B).reverse = _
        unfold cst; rw [List.map_reverse]
      · rw [List.concat_eq_append] at I hn tot ⊢
        have hlt : m < as.length := List.mem_range.mp (I.all.mem_iff.mp (List.mem_append_right _ (List.mem_append_left _ (by simp))))
        have I' := I.pop hs
        rw [List.length_append, List.length_singleton] at hn tot
        obtain ⟨row, U', r1, r2⟩ := run_at hl n xss U T0 (B ++ [m]) _ I' W (by omega)
        refine ⟨row, U', ?_, r2⟩
        have ec : cst (T0 ++ [m]) = cst T0 ++ [(m : Int)] := by unfold cst; rw [List.map_append]; rfl
        rw [ec]
        show (match (cst T0 ++ [(m : Int)]).getLast? with
          | some k => if 0 ≤ k ∧ k < as.length ∧ (cst B).length < 1000000 then rfRun as ks n xss (cst T0 ++ [(m : Int)]).dropLast (cst B ++ [k]) (as.getD k.toNat (0, 0)).1 else none
          | none => some (cst B).reverse) = _
        rw [List.getLast?_concat]
        show (if 0 ≤ (m : Int) ∧ (m : Int) < as.length ∧ (cst B).length < 1000000 then rfRun as ks n xss (cst T0 ++ [(m : Int)]).dropLast (cst B ++ [(m : Int)]) (as.getD ((m : Int)).toNat (0, 0)).1 else none) = _
        rw [if_pos ⟨by omega, by omega, by unfold cst; rw [List.length_map]; omega⟩, get_src.1, List.dropLast_concat]
        rw [show cst B ++ [(m : Int)] = cst (B ++ [m]) by unfold cst; rw [List.map_append]; rfl]
        exact r1
theorem getT_app : ∀ {ks : List Int} {xss : List (List Int)} (a b v : Int), ks.length = xss.length → a ∈ ks → getT ks (appA ks xss a b) v = if v = a then getT ks xss v ++ [b] else getT ks xss v
  | [], _, _, _, _, _, h => by cases h
  | _ :: _, [], _, _, _, hl, _ => by simp at hl
  | k :: ks, x :: xss, a, b, v, hl, ha => by
    unfold getT
    show (valD (k :: ks) (if k = a then (x ++ [b]) :: xss else x :: appA ks xss a b) v).getD [] = if v = a then ((if k = v then some x else valD ks xss v).getD []) ++ [b] else (if k = v then some x else valD ks xss v).getD []
    by_cases z : k = a
    · rw [if_pos z]
      show (if k = v then some (x ++ [b]) else valD ks xss v).getD [] = _
      by_cases y : k = v
      · rw [if_pos y, if_pos (by rw [← y, z]), if_pos y]; rfl
      · rw [if_neg y, if_neg (fun e => y (by rw [z, e])), if_neg y]
    · rw [if_neg z]
      have ha' : a ∈ ks := (List.mem_cons.mp ha).resolve_left fun e => z e.symm
      have ih := getT_app (ks := ks) (xss := xss) a b v (by simpa using hl) ha'
      unfold getT at ih
      show (if k = v then some x else valD ks (appA ks xss a b) v).getD [] = _
      by_cases y : k = v
      · rw [if_pos y, if_neg (fun e => z (by rw [y, e])), if_pos y]
      · rw [if_neg y, ih, if_neg y]
theorem getT_new : ∀ {ks : List Int} {xss : List (List Int)} (a v : Int), ks.length = xss.length → getT (ks ++ [a]) (xss ++ [[]]) v = getT ks xss v
  | [], [], a, v, _ => by
    unfold getT
    show (if a = v then some [] else none).getD [] = _
    split <;> rfl
  | [], _ :: _, _, _, hl => by simp at hl
  | _ :: _, [], _, _, hl => by simp at hl
  | k :: ks, x :: xss, a, v, hl => by
    have ih := getT_new (ks := ks) (xss := xss) a v (by simpa using hl)
    unfold getT at ih ⊢
    show (if k = v then some x else valD (ks ++ [a]) (xss ++ [[]]) v).getD [] = (if k = v then some x else valD ks xss v).getD []
    by_cases y : k = v
    · rw [if_pos y, if_pos y]
    · rw [if_neg y, if_neg y, ih]
theorem by_at (as : List (Int × Int)) : ∀ n : Nat, n ≤ as.length → (byS as n).1.length = (byS as n).2.length ∧ ∀ v, getT (byS as n).1 (byS as n).2 v = cst ((List.range n).filter fun j => decide (srcN as j = v))
  | 0, _ => ⟨rfl, fun v => rfl⟩
  | n + 1, hn => by
    obtain ⟨h1, h2⟩ := by_at as n (by omega)
    have hlt : n < as.length := by omega
    have eb : byS as (n + 1) = byStep (byS as n) n (srcN as n) := by
      show (match as[n]? with | some a => byStep (byS as n) n a.1 | none => byS as n) = _
      rw [List.getElem?_eq_getElem hlt]
      unfold srcN
      rw [List.getD_eq_getElem?_getD, List.getElem?_eq_getElem hlt]; rfl
    have er : ∀ v, cst ((List.range (n + 1)).filter fun j => decide (srcN as j = v)) = if v = srcN as n then cst ((List.range n).filter fun j => decide (srcN as j = v)) ++ [(n : Int)] else cst ((List.range n).filter fun j => decide (srcN as j = v)) := fun v => by
      rw [List.range_succ, List.filter_append]
      by_cases z : v = srcN as n
      · rw [if_pos z]
        have : ([n].filter fun j => decide (srcN as j = v)) = [n] := by rw [List.filter_cons, if_pos (decide_eq_true z.symm)]; rfl
        rw [this]; unfold cst; rw [List.map_append]; rfl
      · rw [if_neg z]
        have : ([n].filter fun j => decide (srcN as j = v)) = [] := by rw [List.filter_cons, if_neg (by simpa using fun e => z e.symm)]; rfl
        rw [this, List.append_nil]
    rw [eb]
    unfold byStep
    by_cases ha : srcN as n ∈ (byS as n).1
    · rw [if_pos ha]
      exact ⟨by show (byS as n).1.length = (appA _ _ _ _).length; rw [appA_len]; exact h1, fun v => by
        show getT (byS as n).1 (appA (byS as n).1 (byS as n).2 (srcN as n) n) v = _
        rw [getT_app _ _ v h1 ha, er v, h2 v]⟩
    · rw [if_neg ha]
      have hl' : ((byS as n).1 ++ [srcN as n]).length = ((byS as n).2 ++ [[]]).length := by rw [List.length_append, List.length_append, h1]; rfl
      exact ⟨by show ((byS as n).1 ++ [srcN as n]).length = (appA _ _ _ _).length; rw [appA_len]; exact hl', fun v => by
        show getT ((byS as n).1 ++ [srcN as n]) (appA ((byS as n).1 ++ [srcN as n]) ((byS as n).2 ++ [[]]) (srcN as n) n) v = _
        rw [getT_app _ _ v hl' (by simp), getT_new _ v h1, er v, h2 v]⟩
theorem cst_nd {l : List Nat} (h : l.Nodup) : (cst l).Nodup := by
  unfold cst List.Nodup
  rw [List.pairwise_map]
  exact h.imp fun {a b} z e => z (by omega)
theorem wt_start (as : List (Int × Int)) : WT as (byS as as.length).1 (byS as as.length).2 (List.range as.length) := by
  obtain ⟨h1, h2⟩ := by_at as as.length (Nat.le_refl _)
  refine ⟨h1, List.nodup_range, fun v k => ?_, fun v => by rw [h2 v]; exact cst_nd (List.nodup_range.filter _)⟩
  rw [h2 v]
  unfold cst
  rw [List.mem_map]
  constructor
  · rintro ⟨n, hn, rfl⟩
    obtain ⟨a, b⟩ := List.mem_filter.mp hn
    exact ⟨n, rfl, a, of_decide_eq_true b⟩
  · rintro ⟨n, rfl, a, b⟩
    exact ⟨n, List.mem_filter.mpr ⟨a, decide_eq_true b⟩, rfl⟩
theorem range_get31 {α : Type} (d : α) : ∀ bs : List α, (List.range bs.length).map (fun k => bs.getD k d) = bs := fun bs => by
  apply List.ext_getElem
  · rw [List.length_map, List.length_range]
  · intro i h1 h2
    rw [List.getElem_map, List.getElem_range, List.getD_eq_getElem?_getD, List.getElem?_eq_getElem h2]; rfl
theorem cS_all (as : List (Int × Int)) (v : Int) : cS as (List.range as.length) v = (sts as).count v ∧ cD as (List.range as.length) v = (gls as).count v := by
  have h : ∀ f : Int × Int → Int, (List.range as.length).countP (fun n => decide (f (as.getD n (0, 0)) = v)) = (as.map f).count v := fun f => by
    have e := range_get31 (0, 0) as
    have : (as.map f) = (List.range as.length).map fun n => f (as.getD n (0, 0)) := by
      have := congrArg (List.map f) e
      rw [List.map_map] at this
      exact this.symm
    rw [this, List.count, List.countP_map]
    rfl
  exact ⟨h (·.1), h (·.2)⟩
theorem round_at {as : List (Int × Int)} {s : Int} (hl : as.length ≤ 3000) (hp : (sts as).Perm (gls as)) : ∃ row U, roundM s as = some (cst row) ∧ Rnd as s row U := by
  have hb : ∀ v, cS as (List.range as.length) v = cD as (List.range as.length) v := fun v => by
    rw [(cS_all as v).1, (cS_all as v).2, hp.count_eq]
  obtain ⟨row, U, r1, r2⟩ := run_at (s := s) hl 100000 (byS as as.length).2 (List.range as.length) [] [] s (HI.start (.refl _) hb) (wt_start as) (by rw [List.length_range, List.length_nil]; omega)
  exact ⟨row, U, by unfold roundM; rw [if_pos hl]; exact r1, r2⟩
theorem cell_at {ns : List Int} {k : Int} (h : 0 ≤ k) : m__law_cell_at [.scr ns, .int k] = some (.sh (.int (ns.getD k.toNat 0))) := by
  unfold m__law_cell_at B__law_cell_at
  by_cases hk : k < ns.length
  · simp_arith [hk, decide_true, atI_nn h hk]
    simp [List.getD_eq_getElem?_getD, List.getElem?_eq_getElem (show k.toNat < ns.length by omega)]
  · simp_arith [hk, decide_false]
    simp [List.getD_eq_getElem?_getD, List.getElem?_eq_none (show ns.length ≤ k.toNat by omega)]
def place (c : Int) : Int := if c % 3 = 0 then c / 3 % 19 - 9 else if c % 3 = 1 then c / 3 % 2001 - 1000 else c / 3 % (2 * 10 ^ 39 + 1) - 10 ^ 39
theorem place_at {c : Int} : m__law_place [.int c] = some (.sh (.int (place c))) := by
  unfold m__law_place B__law_place
  have h8 : oPow (.int 10) (.int 39) = some (.sh (.int (10 ^ 39))) := rfl
  have h9 : ∀ x, oMul (.int 2) (.int x) = some (.sh (.int (2 * x))) := fun x => oMulL_ii (by decide) (by decide)
  unfold place
  by_cases a : c % 3 = 0
  · simp_arith [h8, h9, a]
  · by_cases b : c % 3 = 1
    · simp_arith [h8, h9, b]
      rfl
    · have a' : (c % 3 == 0) = false := by simpa using a
      have b' : (c % 3 == 1) = false := by simpa using b
      simp_arith [h8, h9, a', b', a, b]
theorem at_ints {xs : List Int} {i : Int} (h0 : 0 ≤ i) (h1 : i < xs.length) : ∃ y, atI (xs.map D.int) i = some (.int y) := by
  rw [atI_nn h0 (by rw [List.length_map]; exact h1)]
  exact ⟨_, by rw [List.getElem_map]⟩
theorem mod_at {xs : List Int} {c m : Int} (hm : 0 < m) (h1 : (xs.length : Int) = m) : ∃ y, atI (xs.map D.int) (c % m) = some (.int y) :=
  at_ints (Int.emod_nonneg _ (by omega)) (by rw [h1]; exact Int.emod_lt_of_pos _ hm)
theorem at_all {ds : List D} {i : Int} (P : D → Prop) (h0 : 0 ≤ i) (h1 : i < ds.length) (h : ∀ d ∈ ds, P d) : ∃ d, atI ds i = some d ∧ P d :=
  ⟨_, atI_nn h0 h1, h _ (List.getElem_mem _)⟩
theorem cut_take {α : Type} {xs : List α} {k : Int} (h : 0 ≤ k) : cutD xs none (some k) = xs.take k.toNat := by
  unfold cutD
  have e : HT.sIx xs.length xs.length (some k) = min k.toNat xs.length := by
    have := HT.sIx_nat xs.length xs.length k.toNat
    rw [show ((k.toNat : Nat) : Int) = k by omega] at this
    exact this
  rw [HT.sIx_none, e, Nat.sub_zero, List.drop_zero, List.take_eq_take_iff]
  omega
theorem cut_drop {α : Type} {xs : List α} {k : Int} (h : 0 ≤ k) : cutD xs (some k) none = xs.drop k.toNat := by
  unfold cutD
  have e : HT.sIx xs.length 0 (some k) = min k.toNat xs.length := by
    have := HT.sIx_nat xs.length 0 k.toNat
    rw [show ((k.toNat : Nat) : Int) = k by omega] at this
    exact this
  rw [HT.sIx_none, e, List.take_of_length_le (by rw [List.length_drop]; omega)]
  rcases Nat.le_total k.toNat xs.length with z | z
  · rw [Nat.min_eq_left z]
  · rw [Nat.min_eq_right z, List.drop_length, List.drop_of_length_le z]
def Ch (a : Int) (as : List (Int × Int)) (b : Int) : Prop := a :: gls as = sts as ++ [b]
theorem Ch.nil (a : Int) : Ch a [] a := rfl
theorem Ch.snoc {a b : Int} {as : List (Int × Int)} (h : Ch a as b) (c : Int) : Ch a (as ++ [(b, c)]) c := by
  unfold Ch sts gls at h ⊢
  rw [List.map_append, List.map_append, ← List.cons_append, h]; rfl
theorem Ch.perm {a : Int} {as : List (Int × Int)} (h : Ch a as a) : (sts as).Perm (gls as) := by
  have h1 : (a :: gls as).Perm (a :: sts as) := by
    rw [show a :: gls as = sts as ++ [a] from h]; exact List.perm_append_comm
  exact h1.cons_inv.symm
theorem Ch.rch {es : List (Int × Int)} : ∀ {as : List (Int × Int)} {a b : Int}, Ch a as b → (∀ p ∈ as, p ∈ es) → ∀ p ∈ as, Rch es a p.1
  | [], _, _, _, _, p, hp => by cases hp
  | q :: r, a, b, h, hs, p, hp => by
    have h' : a :: q.2 :: gls r = q.1 :: (sts r ++ [b]) := h
    injection h' with h1 h2
    rcases List.mem_cons.mp hp with rfl | hp
    · rw [h1]; exact .refl
    · have ih := Ch.rch (es := es) (as := r) (a := q.2) (b := b) h2 (fun x hx => hs x (List.mem_cons_of_mem _ hx)) p hp
      have st : Rch es a q.2 := Rch.refl.step (.inl (by rw [h1]; exact hs q List.mem_cons_self))
      exact st.trans ih
structure Rg (as : List (Int × Int)) : Prop where
  pm : (sts as).Perm (gls as)
  hg : ∀ p ∈ as, ∀ q ∈ as, Rch as p.1 q.1
theorem Ch.ring {a : Int} {as bs : List (Int × Int)} (h : Ch a as a) (hp : bs.Perm as) : Rg bs := by
  refine ⟨((hp.map _).trans h.perm).trans (hp.map _).symm, fun p h1 q h2 => ?_⟩
  have r1 := h.rch (es := bs) (fun x hx => hp.mem_iff.mpr hx) p (hp.mem_iff.mp h1)
  have r2 := h.rch (es := bs) (fun x hx => hp.mem_iff.mpr hx) q (hp.mem_iff.mp h2)
  exact r1.symm.trans r2
theorem atI_end {α : Type} {l : List α} {s : α} : atI (l ++ [s]) (-1) = some s := by
  have e : ixN (l ++ [s]).length (-1) = some l.length := by
    unfold ixN
    rw [List.length_append, List.length_singleton]
    simp
    omega
  unfold atI
  rw [e]
  show (l ++ [s])[l.length]? = some s
  rw [List.getElem?_append_right (Nat.le_refl _), Nat.sub_self]; rfl
theorem long_at {n0 : Int} {spots : List Int} (hs : 0 < spots.length) : ∃ as : List (Int × Int), m__law_long [.int n0, .lst (spots.map D.int)] = some (.fr (as.map pairD2)) ∧ Rg as ∧ as.length ≤ 1801 ∧ 0 < as.length := by
  unfold m__law_long B__law_long
  obtain ⟨s0, hs0⟩ := at_ints (xs := spots) (i := 0) (by omega) (by omega)
  have n1 : 0 ≤ n0 % 1000003 ∧ n0 % 1000003 < 1000003 := by omega
  have hr : rg1I (some [.int (1200 + n0 % 1000003 % 600)]) = some (upTo 0 (1200 + n0 % 1000003 % 600).toNat) := r1_ok ⟨by omega, by omega⟩
  have hlen : (1200 + n0 % 1000003 % 600).toNat ≤ 1800 := by omega
  have om : ∀ x : Int, oMod (.int x) (.int (spots.length : Int)) = some (.sh (.int (x % (spots.length : Int)))) := fun x => oMod_ii (by omega)
  have o3 : ∀ x : Int, oMod (.int x) (.int 1000003) = some (.sh (.int (x % 1000003))) := fun x => oMod_ii (by decide)
  have o6 : ∀ x : Int, oMod (.int x) (.int 600) = some (.sh (.int (x % 600))) := fun x => oMod_ii (by decide)
  simp_arith [hs0, o3, o6, hr]
  generalize (1200 + n0 % 1000003 % 600).toNat = m at hlen
  obtain ⟨ω', e, as, n, here, x4, rfl, i1, i2, i3⟩ := forD_upTo (g := gN 4) (b := L1__law_long) 0 m
    (fun i ω => ∃ (as : List (Int × Int)) (n here : Int) (x4 : Option W), ω = [some (.sh (.int n)), some (.sh (.lst (spots.map D.int))), some (.sh (.int here)), some (.ow (as.map pairD2)), x4, none] ∧ (0 ≤ n ∧ n < 1000003) ∧ Ch s0 as here ∧ as.length = i)
    (fun i ω hi ⟨as, n, here, x4, hω, i1, i2, i3⟩ => by
      subst hω
      refine ⟨_, rfl, ?_⟩
      have mb : oMulB (.int n) (.int n) = some (.sh (.int (n * n))) := oMulB_ii (by omega) (by omega)
      obtain ⟨b, hb⟩ := mod_at (xs := spots) (c := (n * n + (0 + (i : Int)) + 7) % 1000003) (m := spots.length) (by omega) rfl
      have l1 : (as.map pairD2).length < 1000000 := by rw [List.length_map]; omega
      have e1 : as.map pairD2 ++ [D.tup [.int here, .int b]] = (as ++ [(here, b)]).map pairD2 := by rw [List.map_append]; rfl
      unfold L1__law_long
      simp_arith [mb, o3, om, hb, e_as l1, atI_end]
      rw [e1]
      exact ⟨_, _, _, _, rfl, by omega, i2.snoc b, by rw [List.length_append, List.length_singleton]; omega⟩)
    (ω := [some (.sh (.int (n0 % 1000003))), some (.sh (.lst (spots.map D.int))), some (.sh (.int s0)), some (.ow []), none, none]) ⟨[], _, s0, none, rfl, n1, Ch.nil s0, rfl⟩
  have l1 : (as.map pairD2).length < 1000000 := by rw [List.length_map]; omega
  have e1 : as.map pairD2 ++ [D.tup [.int here, .int s0]] = (as ++ [(here, s0)]).map pairD2 := by rw [List.map_append]; rfl
  simp_arith [e, hs0, e_as l1]
  rw [e1]
  have hc := i2.snoc s0
  have hl : (as ++ [(here, s0)]).length = m + 1 := by rw [List.length_append, List.length_singleton, i3]
  generalize as ++ [(here, s0)] = bs at hc hl
  have ob : ∀ x : Int, oMod (.int x) (.int (bs.length : Int)) = some (.sh (.int (x % (bs.length : Int)))) := fun x => oMod_ii (by omega)
  simp_arith [ob, oSl_l]
  have t0 := Int.emod_nonneg n (show (bs.length : Int) ≠ 0 by omega)
  generalize n % (bs.length : Int) = t at t0
  have ad : oAdd (.lst ((bs.map pairD2).drop t.toNat)) (.lst ((bs.map pairD2).take t.toNat)) = some (.fr ((bs.drop t.toNat ++ bs.take t.toNat).map pairD2)) := by
    rw [oAdd_ll (by rw [List.length_drop, List.length_take, List.length_map]; omega), List.map_append, List.map_drop, List.map_take]
  have pm : (bs.drop t.toNat ++ bs.take t.toNat).reverse.Perm bs := by
    refine (List.reverse_perm _).trans (List.perm_append_comm.trans ?_)
    rw [List.take_append_drop]
  refine ⟨(bs.drop t.toNat ++ bs.take t.toNat).reverse, ?_, hc.ring pm, by rw [pm.length_eq]; omega, by rw [pm.length_eq]; omega⟩
  simp_arith [fRev, oSl_l, cut_drop t0, cut_take t0, ad, oRev, List.map_reverse]
theorem map_erase {α β : Type} (f : α → β) : ∀ (l : List α) (n : Nat), (l.map f).eraseIdx n = (l.eraseIdx n).map f
  | [], _ => rfl
  | _ :: _, 0 => rfl
  | a :: l, n + 1 => by
    show f a :: (l.map f).eraseIdx n = f a :: (l.eraseIdx n).map f
    rw [map_erase f l n]
theorem popD_at {lf : List (Int × Int)} {k : Int} {i : Nat} {ω : WSt} (h2 : ω[i]? = some (some (.ow (lf.map pairD2)))) (k0 : 0 ≤ k) (k1 : k < lf.length) (hl : lf.length ≤ 1000) : popD k i ω = some (pairD2 (lf[k.toNat]'(by omega)), ω.set i (some (.ow ((lf.eraseIdx k.toNat).map pairD2)))) := by
  have si : seqIndex? k (lf.map pairD2).length = some k.toNat := by
    rw [List.length_map]
    show (if (decide (0 ≤ (if k < 0 then k + (lf.length : Int) else k)) && decide ((if k < 0 then k + (lf.length : Int) else k) < (lf.length : Int))) = true then some (if k < 0 then k + (lf.length : Int) else k).toNat else none) = _
    rw [if_neg (show ¬ k < 0 by omega), if_pos (by simp; omega)]
  unfold popD
  rw [h2]
  dsimp only
  rw [if_pos ⟨by omega, by omega⟩, si, Option.bind_some, List.getElem?_map, List.getElem?_eq_getElem (show k.toNat < lf.length by omega), map_erase, Option.map_some, Option.map_some]
theorem appM_at {fd lf : List (Int × Int)} {i j : Nat} {f : FD} {k : Int} {ω : WSt} (hij : i ≠ j) (h1 : ω[i]? = some (some (.ow (fd.map pairD2)))) (h2 : ω[j]? = some (some (.ow (lf.map pairD2)))) (h3 : f ω = some (.int k)) (k0 : 0 ≤ k) (k1 : k < lf.length) (hl : lf.length ≤ 1000) (hf : fd.length ≤ 1000) :
    sAppM i (mPop j f) ω = some (.nx, (ω.set j (some (.ow ((lf.eraseIdx k.toNat).map pairD2)))).set i (some (.ow ((fd ++ [lf[k.toNat]'(by omega)]).map pairD2)))) := by
  have mp : mPop j f ω = popD k j ω := by
    unfold mPop
    rw [h3]
    dsimp only [Option.bind_some]
  unfold sAppM
  rw [h1]
  dsimp only
  rw [mp, popD_at h2 k0 k1 hl, Option.bind_some]
  dsimp only
  rw [List.getElem?_set_ne (fun e => hij e.symm), h1]
  dsimp only
  rw [if_pos (by rw [List.length_map]; omega), List.map_append, List.map_cons, List.map_nil]
theorem perm_pop {α : Type} : ∀ (l : List α) (n : Nat) (h : n < l.length), (l[n] :: l.eraseIdx n).Perm l
  | _ :: _, 0, _ => .refl _
  | a :: l, n + 1, h => by
    have hn : n < l.length := by simpa using h
    have ih := perm_pop l n hn
    show (l[n] :: a :: l.eraseIdx n).Perm (a :: l)
    exact (List.Perm.swap _ _ _).trans (ih.cons a)
theorem arcs_at {ns : List Int} (hl : ns.length ≤ 63) : ∃ as : List (Int × Int), m__law_arcs [.scr ns] = some (.fr (as.map pairD2)) ∧ Rg as ∧ as.length ≤ 1801 ∧ 0 < as.length := by
  obtain ⟨head, hh⟩ : ∃ h, ns.getD 0 0 = h := ⟨_, rfl⟩
  obtain ⟨many, hm⟩ : ∃ h, 8 - head % 8 = h := ⟨_, rfl⟩
  have hm0 : 0 < many := by omega
  have hm8 : many ≤ 8 := by omega
  have hmm : ∀ x : Int, oMod (.int x) (.int many) = some (.sh (.int (x % many))) := fun x => oMod_ii hm0
  have hr : rg1I (some [.int many]) = some (upTo 0 many.toNat) := r1_ok ⟨by omega, by omega⟩
  have hl' : (upTo 0 many.toNat).length ≤ 1000000 := by rw [upTo_len]; omega
  unfold m__law_arcs B__law_arcs
  have hc0 := cell_at (ns := ns) (k := 0) (by decide)
  have hc2 := cell_at (ns := ns) (k := 2) (by decide)
  simp_arith [hc0, hh, hm, hr, e_cp hl', inW, shOf]
  rw [compD_map (onI fun k => place (ns.getD (1 + k).toNat 0))]
  case h =>
    intro d hd
    obtain ⟨i, hi, rfl⟩ := upTo_mem hd
    unfold E1__law_arcs
    simp_arith [cell_at (ns := ns) (k := 1 + (0 + (i : Int))) (by omega), place_at, onI]
  rw [upTo_map (fun k => place (ns.getD (1 + k).toNat 0))]
  generalize hsp : (List.map (fun i : Nat => place (ns.getD (1 + (0 + (i : Int))).toNat 0)) (List.range many.toNat)) = spots
  have hsl : (spots.length : Int) = many := by rw [← hsp, List.length_map, List.length_range]; omega
  generalize ns.getD (2 : Int).toNat 0 = c2 at hc2
  have o8 : ∀ x : Int, oMod (.int x) (.int 8) = some (.sh (.int (x % 8))) := fun x => oMod_ii (by decide)
  have d8 : ∀ x : Int, oDiv (.int x) (.int 8) = some (.sh (.int (x / 8))) := fun x => oDiv_ii (by decide) (by decide)
  by_cases hlong : c2 % 8 = 5
  · obtain ⟨as, h1, h2, h3, h4⟩ := long_at (n0 := head / 8) (spots := spots) (by omega)
    refine ⟨as, ?_, h2, h3, h4⟩
    have hq : (c2 % 8 == 5) = true := by simpa using hlong
    simp_arith [hc2, o8, d8, hq, h1]
  · have hq : (c2 % 8 == 5) = false := by simpa using hlong
    obtain ⟨y0, h0⟩ := mod_at (xs := spots) (c := head / 8) hm0 hsl
    have h7 : 0 ≤ head / 64 % 7 ∧ head / 64 % 7 < 7 := by omega
    obtain ⟨d, hd, k, rfl, hk⟩ := at_all (ds := [.int 50, .int 12, .int 5, .int 2, .int 1, .int 0, .int 30]) (i := head / 64 % 7) (fun d => ∃ k : Nat, d = D.int (k : Int) ∧ k ≤ 50) h7.1 h7.2 (by
      intro d hd
      simp only [List.mem_cons, List.not_mem_nil, or_false] at hd
      rcases hd with rfl | rfl | rfl | rfl | rfl | rfl | rfl
      · exact ⟨50, rfl, by decide⟩
      · exact ⟨12, rfl, by decide⟩
      · exact ⟨5, rfl, by decide⟩
      · exact ⟨2, rfl, by decide⟩
      · exact ⟨1, rfl, by decide⟩
      · exact ⟨0, rfl, by decide⟩
      · exact ⟨30, rfl, by decide⟩)
    have hcl : (cutD ns (some 9) (some (9 + (k : Int)))).length ≤ 54 := by
      have e1 : HT.sIx ns.length 0 (some 9) = min 9 ns.length := HT.sIx_nat ns.length 0 9
      unfold cutD
      rw [e1, List.length_take, List.length_drop]
      omega
    simp_arith [hc2, o8, d8, hq, hmm, h0, hd, oSl_s]
    generalize cutD ns (some 9) (some (9 + (k : Int))) = cells at hcl
    obtain ⟨ω', e, as, here, x7, x8, rfl, i1, i2⟩ := forD_map (g := gN 7) (b := L1__law_arcs) D.int cells
      (fun pre ω => ∃ (as : List (Int × Int)) (here : Int) (x7 x8 : Option W), ω = [some (.sh (.scr ns)), some (.sh (.int head)), some (.sh (.int many)), some (.sh (.lst (spots.map D.int))), some (.sh (.int here)), some (.sh (.int y0)), some (.ow (as.map pairD2)), x7, x8, none, none] ∧ Ch y0 as here ∧ as.length = pre.length)
      (fun pre c post ω hd' ⟨as, here, x7, x8, hω, i1, i2⟩ => by
        subst hω
        refine ⟨_, rfl, ?_⟩
        have hpl : pre.length < 54 := by
          have := congrArg List.length hd'
          rw [List.length_append, List.length_cons] at this
          omega
        obtain ⟨b, hb⟩ := mod_at (xs := spots) (c := c) hm0 hsl
        have l1 : (as.map pairD2).length < 1000000 := by rw [List.length_map]; omega
        have e1 : as.map pairD2 ++ [D.tup [.int here, .int b]] = (as ++ [(here, b)]).map pairD2 := by rw [List.map_append]; rfl
        unfold L1__law_arcs
        simp_arith [hmm, hb, e_as l1]
        rw [e1]
        exact ⟨_, _, _, _, rfl, i1.snoc b, by rw [List.length_append, List.length_append, i2]; rfl⟩)
      (ω := [some (.sh (.scr ns)), some (.sh (.int head)), some (.sh (.int many)), some (.sh (.lst (spots.map D.int))), some (.sh (.int y0)), some (.sh (.int y0)), some (.ow []), none, none, none, none]) ⟨[], y0, none, none, rfl, Ch.nil y0, rfl⟩
    have l1 : (as.map pairD2).length < 1000000 := by rw [List.length_map]; omega
    have e1 : as.map pairD2 ++ [D.tup [.int here, .int y0]] = (as ++ [(here, y0)]).map pairD2 := by rw [List.map_append]; rfl
    simp_arith [e, e_as l1]
    rw [e1]
    have hc := i1.snoc y0
    have hl2 : (as ++ [(here, y0)]).length = cells.length + 1 := by rw [List.length_append, List.length_singleton, i2]
    generalize as ++ [(here, y0)] = bs at hc hl2
    have hrb : rg1I (some [.int (bs.length : Int)]) = some (upTo 0 bs.length) := by
      rw [r1_ok ⟨by omega, by omega⟩, Int.toNat_natCast]
    simp_arith [hrb]
    obtain ⟨ω2, e2, fd, lf, x10, rfl, j1, j2⟩ := forD_upTo (g := gN 10) (b := L2__law_arcs) 0 bs.length
      (fun i ω => ∃ (fd lf : List (Int × Int)) (x10 : Option W), ω = [some (.sh (.scr ns)), some (.sh (.int head)), some (.sh (.int many)), some (.sh (.lst (spots.map D.int))), some (.sh (.int here)), some (.sh (.int y0)), some (.ow (lf.map pairD2)), x7, x8, some (.ow (fd.map pairD2)), x10] ∧ (fd ++ lf).Perm bs ∧ fd.length = i)
      (fun i ω hi ⟨fd, lf, x10, hω, j1, j2⟩ => by
        subst hω
        refine ⟨_, rfl, ?_⟩
        have hlen := j1.length_eq
        rw [List.length_append] at hlen
        have hc := cell_at (ns := ns) (k := 62 - (0 + (i : Int))) (by omega)
        have ob : ∀ x : Int, oMod (.int x) (.int (lf.length : Int)) = some (.sh (.int (x % (lf.length : Int)))) := fun x => oMod_ii (by omega)
        have k0 := Int.emod_nonneg (ns.getD (62 - (0 + (i : Int))).toNat 0 / 8) (show (lf.length : Int) ≠ 0 by omega)
        have k1 := Int.emod_lt_of_pos (ns.getD (62 - (0 + (i : Int))).toNat 0 / 8) (show 0 < (lf.length : Int) by omega)
        unfold L2__law_arcs
        simp only [List.set_cons_succ, List.set_cons_zero]
        rw [appM_at (fd := fd) (lf := lf) (k := ns.getD (62 - (0 + (i : Int))).toNat 0 / 8 % (lf.length : Int)) (by decide) rfl rfl (by simp_arith [hc, d8, ob]) k0 k1 (by omega) (by omega)]
        generalize ns.getD (62 - (0 + (i : Int))).toNat 0 / 8 % (lf.length : Int) = k at k0 k1
        have hk : k.toNat < lf.length := by omega
        refine ⟨_, _, _, rfl, ?_, by rw [List.length_append, j2]; rfl⟩
        rw [List.append_assoc]
        exact (List.Perm.append_left fd (perm_pop lf k.toNat hk)).trans j1)
      (ω := [some (.sh (.scr ns)), some (.sh (.int head)), some (.sh (.int many)), some (.sh (.lst (spots.map D.int))), some (.sh (.int here)), some (.sh (.int y0)), some (.ow (bs.map pairD2)), x7, x8, some (.ow []), none]) ⟨[], bs, none, rfl, .refl _, rfl⟩
    have hlen := j1.length_eq
    rw [List.length_append] at hlen
    have hnil : lf = [] := List.eq_nil_of_length_eq_zero (by omega)
    subst hnil
    rw [List.append_nil] at j1
    refine ⟨fd, ?_, hc.ring j1, by omega, by omega⟩
    simp_arith [e2]
theorem prs_shp (as : List (Int × Int)) : shp (.lst (as.map pairD2)) = true := shp_lst 2 (by decide) fun d hd => by
  obtain ⟨p, _, rfl⟩ := List.mem_map.mp hd; exact ⟨rfl, by show 1 ≤ 2; decide⟩
theorem rf_at {as : List (Int × Int)} {s : Int} {row : List Int} (h : roundM s as = some row) : m_round_from [.int s, .lst (as.map pairD2)] = some (.fr (row.map D.int)) := by
  show ((pairsOf (as.map pairD2)).bind fun as => (roundM s as).map fun row => O.fr (row.map D.int)) = _
  rw [pairsOf_map, Option.bind_some, h]; rfl
theorem row_at {as : List (Int × Int)} {s : Int} (hl : as.length ≤ 3000) (hg : Rg as) (hs : ∃ p ∈ as, p.1 = s) : ∃ row : List Nat, m_row_of [.int s, .lst (as.map pairD2)] = some (.sh (.lst ((cst row).map D.int))) ∧ row.Perm (List.range as.length) ∧ Wlk as s row s := by
  have hm := many_at (as := as) hl
  rw [decide_eq_true hg.pm] at hm
  obtain ⟨row, U, hr, R⟩ := round_at (s := s) hl hg.pm
  have hrf := rf_at hr
  obtain ⟨p, hp, rfl⟩ := hs
  have ha : row.length = as.length := R.full fun q hq => hg.hg p hp q hq
  have e1 : ((((cst row).length : Nat) : Int) == (as.length : Int)) = true := by
    have : (cst row).length = row.length := by unfold cst; rw [List.length_map]
    simp only [beq_iff_eq]; omega
  have hU : U = [] := by
    have := R.all.length_eq
    rw [List.length_append, List.length_range] at this
    exact List.eq_nil_of_length_eq_zero (by omega)
  refine ⟨row, ?_, by have := R.all; rw [hU, List.nil_append] at this; exact this, R.walk⟩
  unfold m_row_of B_row_of
  simp -implicitDefEqProofs only [e_wsortB, e_wsB, e_wdrop, e_wd, e_wclr, e_wrev, e_wm, e_wzip, e_wz, e_wrem, e_wpop, e_wsort, e_wchk, e_wck, e_dnew, e_dnew1, e_dn1, e_dset, e_dget, e_dgr, e_dco, e_dcs, e_dhas, e_dht, e_dhn, e_dsort, e_dpop0, e_dsh, e_lset, e_aug, e_augi, e_irv, e_irl, e_max3, e_ien, e_enl, e_mir, e_om_rt, e_om_nx, e_seq, e_bs_nx, e_bs_rt, e_bs_bk, e_bs_ct, e_nil, e_brk, e_cnt, e_set, e_ss_sh, e_ss_fr, e_if, e_if_t, e_if_f, e_ret, e_rs_sh, e_rs_fr, e_retn, e_retv, e_rv_sh, e_rv_ow, e_app, e_as, e_ext, e_es_t, e_es_l, e_share, e_sh_ow, e_sh_sh, e_sh_no, e_for, e_fs, e_asg, e_ag, e_gn, e_gt, e_gc, e_g0, e_var, e_vr_sh, e_vr_ow, e_c, e_e, e_ed, e_d, e_dr_sh, e_dr_fr, e_v, e_vv_sh, e_vv_fr, e_vv_vw, e_op, e_o2, e_call, e_cl, e_or_sh, e_or_fr, e_ac, e_ca, e_an, e_lst, e_tup, e_mf, e_mt, e_blt, e_bl, e_slc, e_sl, e_po, e_pa, e_ap, e_ite, e_it_t, e_it_f, e_isi, e_isi_int, e_isi_bl, e_isi_non, e_isi_str, e_isi_lst, e_isi_tup, e_t, e_tr, e_tand, e_ta_t, e_ta_f, e_ta, e_ta2, e_tor, e_to_t, e_to_f, e_to, e_to2, e_tnot, e_tn, e_ttru, e_tt_bl, e_tt_int, e_tt_lst, e_tt_tup, e_tt_non, e_ttt, e_vand, e_va_t, e_va_f, e_va, e_va2, e_vor, e_vo_t, e_vo_f, e_vo, e_vo2, e_vnot, e_vn, e_iseq, e_is_l, e_is_t, e_rg1, e_rg2, e_comp, e_cp, e_neg, e_ng, e_len_l, e_len_t, e_len_s, e_list_l, e_list_t, e_tuple_l, e_tuple_t, e_ms, e_st_nx, e_st_ct, oEq_ii, oNe_ii, oEq_bb, oSub_ii, oLt_ii, oLe_ii, oGt_ii, oGe_ii, oAdd_ii, oIs_bb, oIsn_bb, oIs_n, oIsn_n, oIx_l, oIx_t, oIx_s, at0, at1, at2, oMod_ii, oDiv_ii, subT, entry, Option.bind_some, Option.map_some, List.length_cons, List.length_nil, List.length_map, List.map_cons, List.map_nil, List.cons_append, List.nil_append, List.replicate_succ, List.replicate_zero, List.set_cons_succ, List.set_cons_zero, List.getElem?_cons_succ, List.getElem?_cons_zero, Nat.reduceSub, Nat.reduceAdd, Nat.reduceLT, Int.reduceLT, Int.reduceLE, Int.reduceSub, Int.reduceAdd, Int.reduceMul, Int.reduceMod, Int.reduceDiv, Int.reduceNeg, Int.reducePow, Int.reduceBEq, Int.reduceToNat, ↓reduceIte, Bool.not_true, Bool.true_and, Bool.false_and, Bool.and_true, Bool.and_false, Bool.true_or, Bool.false_or, Bool.or_true, Bool.or_false, Bool.not_false, Nat.zero_add, beq_self_eq_true, Bool.false_eq_true, e_xtry, e_xtry_n, e_xtry_s, e_xgo, e_xif, e_xif_t, e_xif_f, e_xno, e_xraise, e_xcall, e_xc, e_xis, e_xi, e_xdrop, e_xd, e_xt0, e_xt0_n, e_xt0_s, hm, hrf, e1]
theorem whole_at {i : Int} : m__law_whole [.int i] = some (.sh (.bl true)) := rfl
theorem chI_ok {p p' : Int → Int → Bool} {fa fb fc : FD} {ω : WSt} {a b c : Int} (h1 : fa ω = some (.int a)) (h2 : fb ω = some (.int b)) (h3 : fc ω = some (.int c)) (d1 : p a b = true) (d2 : p' b c = true) : fChI p p' fa fb fc ω = some (.sh (.bl true)) := by
  unfold fChI
  rw [h1, h2, h3]
  simp only [Option.bind_some, d1, d2, if_true]
theorem walk_at {as : List (Int × Int)} {x0 x3 x4 : Option W} {s : Int} : ∀ (row : List Nat) (here fin : Int) (x6 : Option W), Wlk as here row fin → (∀ n ∈ row, n < as.length) →
    ∃ y6, forD (gN 6) L1_law ((cst row).map D.int) [x0, some (.sh (.lst (as.map pairD2))), some (.sh (.int s)), x3, x4, some (.sh (.int here)), x6] = some (.nx, [x0, some (.sh (.lst (as.map pairD2))), some (.sh (.int s)), x3, x4, some (.sh (.int fin)), y6])
  | [], here, fin, x6, h, _ => by cases h; exact ⟨x6, rfl⟩
  | n :: row, here, fin, x6, h, hl => by
    cases h with
    | cons e t =>
      have hn := hl n List.mem_cons_self
      obtain ⟨y6, ih⟩ := walk_at (as := as) (x0 := x0) (x3 := x3) (x4 := x4) (s := s) row (dstN as n) fin (some (.sh (.int (n : Int)))) t fun k hk => hl k (List.mem_cons_of_mem _ hk)
      refine ⟨y6, ?_⟩
      have hi : atI (as.map pairD2) (n : Int) = some (.tup [.int (srcN as n), .int (dstN as n)]) := by
        rw [atI_nn (by omega) (by rw [List.length_map]; omega)]
        have : ((as.map pairD2)[((n : Int)).toNat]'(by rw [List.length_map]; omega)) = pairD2 as[n] := by
          rw [List.getElem_map]; simp
        rw [this]
        unfold pairD2 srcN dstN
        rw [List.getD_eq_getElem?_getD, List.getElem?_eq_getElem hn]; rfl
      have eb : L1_law [x0, some (.sh (.lst (as.map pairD2))), some (.sh (.int s)), x3, x4, some (.sh (.int here)), some (.sh (.int (n : Int)))] = some (.nx, [x0, some (.sh (.lst (as.map pairD2))), some (.sh (.int s)), x3, x4, some (.sh (.int (dstN as n))), some (.sh (.int (n : Int)))]) := by
        unfold L1_law
        have ch := chI_ok (p := fun i j => decide (i ≤ j)) (p' := fun i j => decide (i < j)) (fa := fC (.int 0)) (fb := vOf (fVar 6)) (fc := vOf (fBlt bLen (aCons (vOf (fVar 1)) aNil))) (ω := [x0, some (.sh (.lst (as.map pairD2))), some (.sh (.int s)), x3, x4, some (.sh (.int here)), some (.sh (.int (n : Int)))]) (a := 0) (b := (n : Int)) (c := (as.length : Int)) rfl rfl (by simp_arith [e_seq]) (by simp) (by simpa using hn)
        have eh : (srcN as n == here) = true := by simpa using e
        simp_arith [whole_at, ch, hi, eh]
      show Option.bind (some [x0, some (.sh (.lst (as.map pairD2))), some (.sh (.int s)), x3, x4, some (.sh (.int here)), some (.sh (.int (n : Int)))]) _ = _
      rw [Option.bind_some, eb]
      exact ih
theorem oEq_self' (a : List Int) : oEq false (.lst (a.map D.int)) (.lst (a.map D.int)) = some (.sh (.bl true)) := by
  rw [oEq_ints, decide_eq_true rfl]
theorem law_true (ns : List Int) (hl : ns.length ≤ 63) : m_law [.scr ns] = some (.sh (.bl true)) := by
  obtain ⟨as, ha, hg, hal, hap⟩ := arcs_at hl
  have hc0 := cell_at (ns := ns) (k := 0) (by decide)
  have ob : ∀ x : Int, oMod (.int x) (.int (as.length : Int)) = some (.sh (.int (x % (as.length : Int)))) := fun x => oMod_ii (by omega)
  have d4 : ∀ x : Int, oDiv (.int x) (.int 448) = some (.sh (.int (x / 448))) := fun x => oDiv_ii (by decide) (by decide)
  generalize ns.getD (0 : Int).toNat 0 = c0 at hc0
  have k0 := Int.emod_nonneg (c0 / 448) (show (as.length : Int) ≠ 0 by omega)
  have k1 := Int.emod_lt_of_pos (c0 / 448) (show 0 < (as.length : Int) by omega)
  obtain ⟨d, hd, q, hq, rfl⟩ := at_all (ds := as.map pairD2) (i := c0 / 448 % (as.length : Int)) (fun d => ∃ q ∈ as, d = pairD2 q) k0 (by rw [List.length_map]; exact k1) (fun d hd => by obtain ⟨q, hq, e⟩ := List.mem_map.mp hd; exact ⟨q, hq, e.symm⟩)
  obtain ⟨row, hr, hp, hw⟩ := row_at (s := q.1) (by omega) hg ⟨q, hq, rfl⟩
  have hlen : (cst row).length = as.length := by unfold cst; rw [List.length_map, hp.length_eq, List.length_range]
  obtain ⟨y6, hf⟩ := walk_at (as := as) (x0 := some (.sh (.scr ns))) (x3 := some (.sh (.lst (as.map pairD2)))) (x4 := some (.sh (.lst ((cst row).map D.int)))) (s := q.1) row q.1 q.1 none hw fun n hn => List.mem_range.mp (hp.mem_iff.mp hn)
  have hsort := e_wsB (ns := cst row) (by rw [hlen]; omega)
  have hrng : bRng1 [.int (as.length : Int)] = some (.fr ((rngZ 0 as.length).map D.int)) := by
    rw [rng1_ok ⟨by omega, by omega⟩, Int.toNat_natCast]
  have hpq : sortZ (cst row) = rngZ 0 as.length := by
    refine le_perm_eq sortZ_le ?_ (sortZ_perm.trans ?_)
    · unfold rngZ
      rw [List.pairwise_map]
      exact List.pairwise_lt_range.imp fun h => by omega
    · have : rngZ 0 as.length = cst (List.range as.length) := by
        unfold rngZ cst
        exact List.map_congr_left fun k _ => by omega
      rw [this]
      exact hp.map _
  rw [hpq] at hsort
  have hne := oNe_self (prs_shp as)
  have hn1 : ((as.length : Int) == (as.length : Int)) = true := by simp
  unfold m_law B_law
  rw [show pairD2 q = D.tup [.int q.1, .int q.2] from rfl] at hd
  simp -implicitDefEqProofs only [e_wsortB, e_wsB, e_wdrop, e_wd, e_wclr, e_wrev, e_wm, e_wzip, e_wz, e_wrem, e_wpop, e_wsort, e_wchk, e_wck, e_dnew, e_dnew1, e_dn1, e_dset, e_dget, e_dgr, e_dco, e_dcs, e_dhas, e_dht, e_dhn, e_dsort, e_dpop0, e_dsh, e_lset, e_aug, e_augi, e_irv, e_irl, e_max3, e_ien, e_enl, e_mir, e_om_rt, e_om_nx, e_seq, e_bs_nx, e_bs_rt, e_bs_bk, e_bs_ct, e_nil, e_brk, e_cnt, e_set, e_ss_sh, e_ss_fr, e_if, e_if_t, e_if_f, e_ret, e_rs_sh, e_rs_fr, e_retn, e_retv, e_rv_sh, e_rv_ow, e_app, e_as, e_ext, e_es_t, e_es_l, e_share, e_sh_ow, e_sh_sh, e_sh_no, e_for, e_fs, e_asg, e_ag, e_gn, e_gt, e_gc, e_g0, e_var, e_vr_sh, e_vr_ow, e_c, e_e, e_ed, e_d, e_dr_sh, e_dr_fr, e_v, e_vv_sh, e_vv_fr, e_vv_vw, e_op, e_o2, e_call, e_cl, e_or_sh, e_or_fr, e_ac, e_ca, e_an, e_lst, e_tup, e_mf, e_mt, e_blt, e_bl, e_slc, e_sl, e_po, e_pa, e_ap, e_ite, e_it_t, e_it_f, e_isi, e_isi_int, e_isi_bl, e_isi_non, e_isi_str, e_isi_lst, e_isi_tup, e_t, e_tr, e_tand, e_ta_t, e_ta_f, e_ta, e_ta2, e_tor, e_to_t, e_to_f, e_to, e_to2, e_tnot, e_tn, e_ttru, e_tt_bl, e_tt_int, e_tt_lst, e_tt_tup, e_tt_non, e_ttt, e_vand, e_va_t, e_va_f, e_va, e_va2, e_vor, e_vo_t, e_vo_f, e_vo, e_vo2, e_vnot, e_vn, e_iseq, e_is_l, e_is_t, e_rg1, e_rg2, e_comp, e_cp, e_neg, e_ng, e_len_l, e_len_t, e_len_s, e_list_l, e_list_t, e_tuple_l, e_tuple_t, e_ms, e_st_nx, e_st_ct, oEq_ii, oNe_ii, oEq_bb, oSub_ii, oLt_ii, oLe_ii, oGt_ii, oGe_ii, oAdd_ii, oIs_bb, oIsn_bb, oIs_n, oIsn_n, oIx_l, oIx_t, oIx_s, at0, at1, at2, oMod_ii, oDiv_ii, subT, entry, Option.bind_some, Option.map_some, List.length_cons, List.length_nil, List.length_map, List.map_cons, List.map_nil, List.cons_append, List.nil_append, List.replicate_succ, List.replicate_zero, List.set_cons_succ, List.set_cons_zero, List.getElem?_cons_succ, List.getElem?_cons_zero, Nat.reduceSub, Nat.reduceAdd, Nat.reduceLT, Int.reduceLT, Int.reduceLE, Int.reduceSub, Int.reduceAdd, Int.reduceMul, Int.reduceMod, Int.reduceDiv, Int.reduceNeg, Int.reducePow, Int.reduceBEq, Int.reduceToNat, ↓reduceIte, Bool.not_true, Bool.true_and, Bool.false_and, Bool.and_true, Bool.and_false, Bool.true_or, Bool.false_or, Bool.or_true, Bool.or_false, Bool.not_false, Nat.zero_add, beq_self_eq_true, Bool.false_eq_true, e_xtry, e_xtry_n, e_xtry_s, e_xgo, e_xif, e_xif_t, e_xif_f, e_xno, e_xraise, e_xcall, e_xc, e_xis, e_xi, e_xdrop, e_xd, e_xt0, e_xt0_n, e_xt0_s, ha, hc0, d4, ob, hd, bList, hr, hlen, hn1, hne, hf, hsort, hrng, oEq_self']
theorem all_mk {l : PySem.W.OpenLaw} {w : World} {K : PySem.W.Frag} {h : Heap} {mg : Str → Option Value} {fa : Addr} (X : K.In h) (G : h.Ns mainGlobals mg) (hfa : mg "law" = some (.ref fa))
    {od0 an0 : Option Addr} {sl0 : Array (Option Value)} {oc0 kV0 dc0 pm0 cd0 ct0 : Value} {f0 : Addr}
    {od1 an1 : Option Addr} {sl1 : Array (Option Value)} {oc1 kV1 dc1 pm1 cd1 ct1 : Value} {f1 : Addr}
    {od2 an2 : Option Addr} {sl2 : Array (Option Value)} {oc2 kV2 dc2 pm2 cd2 ct2 : Value} {f2 : Addr}
    {od3 an3 : Option Addr} {sl3 : Array (Option Value)} {oc3 kV3 dc3 pm3 cd3 ct3 : Value} {f3 : Addr}
    {od4 an4 : Option Addr} {sl4 : Array (Option Value)} {oc4 kV4 dc4 pm4 cd4 ct4 : Value} {f4 : Addr}
    {od5 an5 : Option Addr} {sl5 : Array (Option Value)} {oc5 kV5 dc5 pm5 cd5 ct5 : Value} {f5 : Addr}
    {od6 an6 : Option Addr} {sl6 : Array (Option Value)} {oc6 kV6 dc6 pm6 cd6 ct6 : Value} {f6 : Addr}
    {od7 an7 : Option Addr} {sl7 : Array (Option Value)} {oc7 kV7 dc7 pm7 cd7 ct7 : Value} {f7 : Addr}
    {od8 an8 : Option Addr} {sl8 : Array (Option Value)} {oc8 kV8 dc8 pm8 cd8 ct8 : Value} {f8 : Addr}
    {od9 an9 : Option Addr} {sl9 : Array (Option Value)} {oc9 kV9 dc9 pm9 cd9 ct9 : Value} {f9 : Addr}
    (a0 : PySem.W.nsIn K mainGlobals "numbers_by_start" = some (some (.ref f0))) (l0 : K.lookup f0 = some ⟨oc0, od0, .func (PySem.W.fnOf "numbers_by_start" "numbers_by_start" (defArgs s_numbers_by_start) (defBody s_numbers_by_start) (defScope s_numbers_by_start) .none kV0 dc0 pm0 an0 cd0 ct0), sl0⟩) (c0 : PySem.W.codeIn K cd0 "numbers_by_start" = true) (k0 : PySem.W.keepIn K (.ref f0) = true)
    (a1 : PySem.W.nsIn K mainGlobals "as_many_begin_as_end" = some (some (.ref f1))) (l1 : K.lookup f1 = some ⟨oc1, od1, .func (PySem.W.fnOf "as_many_begin_as_end" "as_many_begin_as_end" (defArgs s_as_many_begin_as_end) (defBody s_as_many_begin_as_end) (defScope s_as_many_begin_as_end) .none kV1 dc1 pm1 an1 cd1 ct1), sl1⟩) (c1 : PySem.W.codeIn K cd1 "as_many_begin_as_end" = true) (k1 : PySem.W.keepIn K (.ref f1) = true)
    (a2 : PySem.W.nsIn K mainGlobals "round_from" = some (some (.ref f2))) (l2 : K.lookup f2 = some ⟨oc2, od2, .func (PySem.W.fnOf "round_from" "round_from" (defArgs s_round_from) (defBody s_round_from) (defScope s_round_from) .none kV2 dc2 pm2 an2 cd2 ct2), sl2⟩) (c2 : PySem.W.codeIn K cd2 "round_from" = true) (k2 : PySem.W.keepIn K (.ref f2) = true)
    (a3 : PySem.W.nsIn K mainGlobals "row_of" = some (some (.ref f3))) (l3 : K.lookup f3 = some ⟨oc3, od3, .func (PySem.W.fnOf "row_of" "row_of" (defArgs s_row_of) (defBody s_row_of) (defScope s_row_of) .none kV3 dc3 pm3 an3 cd3 ct3), sl3⟩) (c3 : PySem.W.codeIn K cd3 "row_of" = true) (k3 : PySem.W.keepIn K (.ref f3) = true)
    (a4 : PySem.W.nsIn K mainGlobals "_law_cell_at" = some (some (.ref f4))) (l4 : K.lookup f4 = some ⟨oc4, od4, .func (PySem.W.fnOf "_law_cell_at" "_law_cell_at" (defArgs s__law_cell_at) (defBody s__law_cell_at) (defScope s__law_cell_at) .none kV4 dc4 pm4 an4 cd4 ct4), sl4⟩) (c4 : PySem.W.codeIn K cd4 "_law_cell_at" = true) (k4 : PySem.W.keepIn K (.ref f4) = true)
    (a5 : PySem.W.nsIn K mainGlobals "_law_whole" = some (some (.ref f5))) (l5 : K.lookup f5 = some ⟨oc5, od5, .func (PySem.W.fnOf "_law_whole" "_law_whole" (defArgs s__law_whole) (defBody s__law_whole) (defScope s__law_whole) .none kV5 dc5 pm5 an5 cd5 ct5), sl5⟩) (c5 : PySem.W.codeIn K cd5 "_law_whole" = true) (k5 : PySem.W.keepIn K (.ref f5) = true)
    (a6 : PySem.W.nsIn K mainGlobals "_law_place" = some (some (.ref f6))) (l6 : K.lookup f6 = some ⟨oc6, od6, .func (PySem.W.fnOf "_law_place" "_law_place" (defArgs s__law_place) (defBody s__law_place) (defScope s__law_place) .none kV6 dc6 pm6 an6 cd6 ct6), sl6⟩) (c6 : PySem.W.codeIn K cd6 "_law_place" = true) (k6 : PySem.W.keepIn K (.ref f6) = true)
    (a7 : PySem.W.nsIn K mainGlobals "_law_long" = some (some (.ref f7))) (l7 : K.lookup f7 = some ⟨oc7, od7, .func (PySem.W.fnOf "_law_long" "_law_long" (defArgs s__law_long) (defBody s__law_long) (defScope s__law_long) .none kV7 dc7 pm7 an7 cd7 ct7), sl7⟩) (c7 : PySem.W.codeIn K cd7 "_law_long" = true) (k7 : PySem.W.keepIn K (.ref f7) = true)
    (a8 : PySem.W.nsIn K mainGlobals "_law_arcs" = some (some (.ref f8))) (l8 : K.lookup f8 = some ⟨oc8, od8, .func (PySem.W.fnOf "_law_arcs" "_law_arcs" (defArgs s__law_arcs) (defBody s__law_arcs) (defScope s__law_arcs) .none kV8 dc8 pm8 an8 cd8 ct8), sl8⟩) (c8 : PySem.W.codeIn K cd8 "_law_arcs" = true) (k8 : PySem.W.keepIn K (.ref f8) = true)
    (a9 : PySem.W.nsIn K mainGlobals "law" = some (some (.ref f9))) (l9 : K.lookup f9 = some ⟨oc9, od9, .func (PySem.W.fnOf "law" "law" (defArgs s_law) (defBody s_law) (defScope s_law) .none kV9 dc9 pm9 an9 cd9 ct9), sl9⟩) (c9 : PySem.W.codeIn K cd9 "law" = true) (k9 : PySem.W.keepIn K (.ref f9) = true)
    (z_enumerate : PySem.W.nsIn K mainGlobals "enumerate" = some none)
    (z_sorted : PySem.W.nsIn K mainGlobals "sorted" = some none)
    (z_list : PySem.W.nsIn K mainGlobals "list" = some none)
    (z_reversed : PySem.W.nsIn K mainGlobals "reversed" = some none)
    (z_len : PySem.W.nsIn K mainGlobals "len" = some none)
    (z_isinstance : PySem.W.nsIn K mainGlobals "isinstance" = some none)
    (z_bool : PySem.W.nsIn K mainGlobals "bool" = some none)
    (z_int : PySem.W.nsIn K mainGlobals "int" = some none)
    (z_range : PySem.W.nsIn K mainGlobals "range" = some none)
    (i_int : IsT K .int)
    (i_bool : IsT K .bl)
    (i_list : IsT K .lst)
    : ∃ fd : FuncData, (∀ (s : Shared) (v : Value), BindsTo s fd ⟨[v], []⟩ [("script", v)]) ∧ ∀ base : Heap, K.In base → base.Ns mainGlobals mg → FnOk l.prog w K mg base CX0 4 fa fd ["script"] (spD K 1 m_law) := by
  have e := hfa.symm.trans (PySem.W.mg_of X G a9)
  cases e
  have F0 := fun_mk (st := s_numbers_by_start) l0 c0 k0
  have b0 := F0.binds (ps := ["arcs"]) fun _ _ _ _ _ _ us hl => match us, hl with | [_], _ => rfl
  have F1 := fun_mk (st := s_as_many_begin_as_end) l1 c1 k1
  have b1 := F1.binds (ps := ["arcs"]) fun _ _ _ _ _ _ us hl => match us, hl with | [_], _ => rfl
  have F2 := fun_mk (st := s_round_from) l2 c2 k2
  have b2 := F2.binds (ps := ["start", "arcs"]) fun _ _ _ _ _ _ us hl => match us, hl with | [_, _], _ => rfl
  have F3 := fun_mk (st := s_row_of) l3 c3 k3
  have b3 := F3.binds (ps := ["start", "arcs"]) fun _ _ _ _ _ _ us hl => match us, hl with | [_, _], _ => rfl
  have F4 := fun_mk (st := s__law_cell_at) l4 c4 k4
  have b4 := F4.binds (ps := ["script", "k"]) fun _ _ _ _ _ _ us hl => match us, hl with | [_, _], _ => rfl
  have F5 := fun_mk (st := s__law_whole) l5 c5 k5
  have b5 := F5.binds (ps := ["found"]) fun _ _ _ _ _ _ us hl => match us, hl with | [_], _ => rfl
  have F6 := fun_mk (st := s__law_place) l6 c6 k6
  have b6 := F6.binds (ps := ["cell"]) fun _ _ _ _ _ _ us hl => match us, hl with | [_], _ => rfl
  have F7 := fun_mk (st := s__law_long) l7 c7 k7
  have b7 := F7.binds (ps := ["number", "spots"]) fun _ _ _ _ _ _ us hl => match us, hl with | [_, _], _ => rfl
  have F8 := fun_mk (st := s__law_arcs) l8 c8 k8
  have b8 := F8.binds (ps := ["script"]) fun _ _ _ _ _ _ us hl => match us, hl with | [_], _ => rfl
  have F9 := fun_mk (st := s_law) l9 c9 k9
  have y_enumerate := PySem.W.mg_none_of X G z_enumerate
  have y_sorted := PySem.W.mg_none_of X G z_sorted
  have y_list := PySem.W.mg_none_of X G z_list
  have y_reversed := PySem.W.mg_none_of X G z_reversed
  have y_len := PySem.W.mg_none_of X G z_len
  have y_isinstance := PySem.W.mg_none_of X G z_isinstance
  have y_bool := PySem.W.mg_none_of X G z_bool
  have y_int := PySem.W.mg_none_of X G z_int
  have y_range := PySem.W.mg_none_of X G z_range
  refine ⟨PySem.W.fnOf "law" "law" (defArgs s_law) (defBody s_law) (defScope s_law) .none kV9 dc9 pm9 an9 cd9 ct9, fun s v => .of_eq rfl, fun base _ _ => ?_⟩
  have C0 := ok_numbers_by_start (P := l.prog) (w := w) (mg := mg) (base := base) F0 y_enumerate
  have C1 : Cal _ _ _ _ _ _ _ _ _ _ _ _ := ⟨ok_as_many_begin_as_end (P := l.prog) (w := w) (mg := mg) (base := base) F1 y_sorted, PySem.W.mg_of X G a1, k1, b1⟩
  have C2 : Cal _ _ _ _ _ _ _ _ _ _ _ _ := ⟨ok_round_from (P := l.prog) (w := w) (mg := mg) (base := base) F2 C0 (PySem.W.mg_of X G a0) k0 b0 y_list y_reversed, PySem.W.mg_of X G a2, k2, b2⟩
  have C3 : Cal _ _ _ _ _ _ _ _ _ _ _ _ := ⟨ok_row_of (P := l.prog) (w := w) (mg := mg) (base := base) F3 C1 C2 y_len, PySem.W.mg_of X G a3, k3, b3⟩
  have C4 : Cal _ _ _ _ _ _ _ _ _ _ _ _ := ⟨ok__law_cell_at (P := l.prog) (w := w) (mg := mg) (base := base) F4 y_len, PySem.W.mg_of X G a4, k4, b4⟩
  have C5 : Cal _ _ _ _ _ _ _ _ _ _ _ _ := ⟨ok__law_whole (P := l.prog) (w := w) (mg := mg) (base := base) F5 y_isinstance y_bool y_int i_int i_bool, PySem.W.mg_of X G a5, k5, b5⟩
  have C6 : Cal _ _ _ _ _ _ _ _ _ _ _ _ := ⟨ok__law_place (P := l.prog) (w := w) (mg := mg) (base := base) F6, PySem.W.mg_of X G a6, k6, b6⟩
  have C7 : Cal _ _ _ _ _ _ _ _ _ _ _ _ := ⟨ok__law_long (P := l.prog) (w := w) (mg := mg) (base := base) F7 y_range y_len y_list y_reversed, PySem.W.mg_of X G a7, k7, b7⟩
  have C8 : Cal _ _ _ _ _ _ _ _ _ _ _ _ := ⟨ok__law_arcs (P := l.prog) (w := w) (mg := mg) (base := base) F8 C4 C6 C7 y_range y_len, PySem.W.mg_of X G a8, k8, b8⟩
  exact ok_law F9 C8 C4 C3 C5 y_len y_list y_isinstance y_sorted y_range i_list
theorem walk {l : PySem.W.OpenLaw} {q : Program} {loose : List Str} {XP : (Str → Option Value) → Heap → Prop} {YP : World → Heap → Prop} {d : DefRec} {K : Params → PySem.W.Frag} (hn : l.most = some 63) (hdf : d.params.defaults = [])
    (hY : ∀ (w : World) (h : Heap), YP w h → (K w.params).In h)
    (F : ∀ (w : World) (mg : Str → Option Value) (fa : Addr) (h : Heap), (K w.params).In h → h.Ns mainGlobals mg → mg d.name = some (.ref fa) →
      ∃ fd : FuncData, (∀ (s : Shared) (u : Value), BindsTo s fd ⟨[u], []⟩ [("script", u)]) ∧ ∀ base : Heap, (K w.params).In base → base.Ns mainGlobals mg → FnOk l.prog w (K w.params) mg base CX0 4 fa fd ["script"] (spD (K w.params) 1 m_law)) :
    PySem.W.WalkO q loose XP YP l.row.toRowW d [] (fun f vs => PySem.call f vs) :=
  L2.walk_of (n := 63) (k := 4) (x := "script") (CX := fun _ => CX0) (sp := fun w => spD (K w.params) 1 m_law) hn (by decide) hdf ⟨rfl, by decide, by decide⟩ hY F
    (fun _ H a ns hl _ hS => ⟨H, [.scr ns], .sh (.bl true), law_true ns hl, rfl, Same.refl _, ⟨.ref a, [], rfl, ⟨a, rfl, hS⟩, rfl⟩, fun _ _ _ _ y => y⟩) fun _ _ _ _ _ z => z
end Kx
open PySem PySem.W PyProof.Rows
set_option maxRecDepth 100000 in
set_option maxHeartbeats 0 in
theorem PySem.Challenge.cw_hookrail_k30_any_walk_is_a_row_holds : PySem.Challenge.rw_hookrail_k30_any_walk_is_a_row.Holds := by
  w_on; o_law; k_head; (case hw => w_witness2)
  k_fill
  refine Kx.walk (l := PySem.Challenge.rw_hookrail_k30_any_walk_is_a_row) rfl rfl (fun w h Y => PySem.W.kIn_of Y) ?F
  case F =>
    intro w mg fa h KX G hmg
    refine' Kx.all_mk KX G hmg ?a0 ?l0 ?c0 ?k0 ?a1 ?l1 ?c1 ?k1 ?a2 ?l2 ?c2 ?k2 ?a3 ?l3 ?c3 ?k3 ?a4 ?l4 ?c4 ?k4 ?a5 ?l5 ?c5 ?k5 ?a6 ?l6 ?c6 ?k6 ?a7 ?l7 ?c7 ?k7 ?a8 ?l8 ?c8 ?k8 ?a9 ?l9 ?c9 ?k9 ?z_enumerate ?z_sorted ?z_list ?z_reversed ?z_len ?z_isinstance ?z_bool ?z_int ?z_range ?i_int ?i_bool ?i_list
    (case a0 => k_is); (case l0 => k_is); (case c0 => k_is); (case k0 => k_is)
    (case a1 => k_is); (case l1 => k_is); (case c1 => k_is); (case k1 => k_is)
    (case a2 => k_is); (case l2 => k_is); (case c2 => k_is); (case k2 => k_is)
    (case a3 => k_is); (case l3 => k_is); (case c3 => k_is); (case k3 => k_is)
    (case a4 => k_is); (case l4 => k_is); (case c4 => k_is); (case k4 => k_is)
    (case a5 => k_is); (case l5 => k_is); (case c5 => k_is); (case k5 => k_is)
    (case a6 => k_is); (case l6 => k_is); (case c6 => k_is); (case k6 => k_is)
    (case a7 => k_is); (case l7 => k_is); (case c7 => k_is); (case k7 => k_is)
    (case a8 => k_is); (case l8 => k_is); (case c8 => k_is); (case k8 => k_is)
    (case a9 => k_is); (case l9 => k_is); (case c9 => k_is); (case k9 => k_is)
    (case z_enumerate => k_is)
    (case z_sorted => k_is)
    (case z_list => k_is)
    (case z_reversed => k_is)
    (case z_len => k_is)
    (case z_isinstance => k_is)
    (case z_bool => k_is)
    (case z_int => k_is)
    (case z_range => k_is)
    (case i_int => intro t ht; cases t <;> first | (exact absurd rfl ht) | rfl | k_is)
    (case i_bool => intro t ht; cases t <;> first | (exact absurd rfl ht) | rfl | k_is)
    (case i_list => intro t ht; cases t <;> first | (exact absurd rfl ht) | rfl | k_is)
#print axioms PySem.Challenge.cw_hookrail_k30_any_walk_is_a_row_holds
