import PyProof.Rows.All
import Wide.All
import OpenK.AllK
import Wide.FinOn
import Lean
import PyProof.EqAt
import PyProof.EqKinds
import PyProof.TupleCall
import PySem.SetOps
import KE.KDictSum
import KE.KDictList
import PyProof.ZipIter
import KE.KFind
import PyProof.MaxThree
import PyProof.Rows.IntMath
import PyProof.EnumMake
import PyProof.Rows.EnumRows
import PyProof.StrCalls
import PyProof.SliceStr2
import PyProof.StrBlockI
import KE.KIntText
import PyProof.StrCalls2
import PyProof.Rows.StrNews
import PyProof.StrWalks
import PyProof.FString
import KE.KTab
import PyProof.StrOps2
import PySem.Challenge.RW_hookrail_k75_rows_refused
set_option Elab.async false
set_option linter.all false
set_option maxRecDepth 100000
namespace L2
open PySem PySem.Spec PyProof.Rows
abbrev Key := Sum Int Str
def keyIs : Key → Value → Bool
  | .inl k, v => Value.isInt k v
  | .inr x, v => Value.isStrOf x v
def keyH (w : World) : Key → Int
  | .inl k => hashInt k
  | .inr x => hashStr w x
theorem keyIs_shape : ∀ {k : Key} {v : Value}, keyIs k v = true → (∃ i t, k = Sum.inl i ∧ v = Value.int i t) ∨ (∃ x t, k = Sum.inr x ∧ v = Value.str x t)
  | .inl i, v, h => by
    obtain ⟨t, e⟩ := Value.isInt_shape (k := i) (v := v) h
    exact .inl ⟨i, t, rfl, e⟩
  | .inr x, v, h => by
    obtain ⟨t, e⟩ := Value.isStrOf_shape (x := x) (v := v) h
    exact .inr ⟨x, t, rfl, e⟩
theorem key_ll (a b : Int) : decide ((Sum.inl a : Key) = Sum.inl b) = (a == b) := by
  by_cases e : a = b
  · subst e; simp
  · have h : ¬ (Sum.inl a : Key) = Sum.inl b := fun q => e (Sum.inl.inj q)
    rw [decide_eq_false h]
    exact (beq_eq_false_iff_ne.mpr e).symm
theorem key_rr (a b : Str) : decide ((Sum.inr a : Key) = Sum.inr b) = decide (a = b) := by
  by_cases e : a = b
  · subst e; simp
  · have h : ¬ (Sum.inr a : Key) = Sum.inr b := fun q => e (Sum.inr.inj q)
    rw [decide_eq_false h, decide_eq_false e]
theorem key_lr (a : Int) (b : Str) : decide ((Sum.inl a : Key) = Sum.inr b) = false := decide_eq_false (fun q => nomatch q)
theorem key_rl (a : Str) (b : Int) : decide ((Sum.inr a : Key) = Sum.inl b) = false := decide_eq_false (fun q => nomatch q)
def mixKind (prog : Program) (w : World) : PySem.KeyKind prog w Key where
  is := keyIs
  hash := keyH w
  inj := fun v a b ha hb => by
    rcases keyIs_shape ha with ⟨i, t, rfl, rfl⟩ | ⟨x, t, rfl, rfl⟩
    · rcases keyIs_shape hb with ⟨j, u, rfl, e⟩ | ⟨y, u, rfl, e⟩
      · injection e with e1 _; rw [e1]
      · exact nomatch e
    · rcases keyIs_shape hb with ⟨j, u, rfl, e⟩ | ⟨y, u, rfl, e⟩
      · exact nomatch e
      · injection e with e1 _; rw [e1]
  byValue := fun k v h => by
    rcases keyIs_shape h with ⟨i, t, rfl, rfl⟩ | ⟨x, t, rfl, rfl⟩ <;> rfl
  pyHash := fun hv h => by
    rcases keyIs_shape hv with ⟨i, t, rfl, rfl⟩ | ⟨x, t, rfl, rfl⟩
    · exact wpAny_pyHash_int h
    · exact wpAny_pyHash_str h
  eqBool := fun hu hv h => by
    rcases keyIs_shape hu with ⟨i, t, rfl, rfl⟩ | ⟨x, t, rfl, rfl⟩
    · rcases keyIs_shape hv with ⟨j, u, rfl, rfl⟩ | ⟨y, u, rfl, rfl⟩
      · rw [key_ll] at h; exact wpAny_eqBool_int h
      · rw [key_lr] at h; exact SeqAt.EqAt.int_str i t y u _ _ _ _ h
    · rcases keyIs_shape hv with ⟨j, u, rfl, rfl⟩ | ⟨y, u, rfl, rfl⟩
      · rw [key_rl] at h; exact SeqAt.EqAt.str_int x t j u _ _ _ _ h
      · rw [key_rr] at h; exact wpAny_eqBool_str h
  «strs» := fun k x t v h => by
    rcases keyIs_shape h with ⟨i, u, rfl, e⟩ | ⟨y, u, rfl, e⟩
    · exact nomatch e
    · injection e with e1 _
      subst e1
      cases v <;> rfl
end L2
namespace L2
open PySem PySem.Spec PyProof.Rows
inductive V where
  | non | bl (b : Bool) | int (i : Int) | str (x : Str) | byt (b : Array UInt8) | flt (b : UInt64) | ref (a : Addr) | ty (n : String)
  deriving DecidableEq
def RelV : V → Value → Prop
  | .non, u => u = Value.none
  | .bl b, u => u = Value.bool b
  | .int i, u => ∃ t, u = Value.int i t
  | .str x, u => ∃ t, u = Value.str x t
  | .byt b, u => ∃ t, u = Value.bytes b t
  | .flt b, u => ∃ t, u = Value.float b t
  | .ref a, u => u = Value.ref a
  | .ty n, u => u = Value.type n
abbrev Vals : List V → List Value → Prop := Paired RelV
theorem Vals.length {xs : List V} {us : List Value} (r : Vals xs us) : xs.length = us.length := Paired.length r
theorem Vals.get : ∀ {xs : List V} {us : List Value} {i : Nat} {x : V}, Vals xs us → xs[i]? = some x → ∃ u, us[i]? = some u ∧ RelV x u
  | _, _, _, _, .nil, e => by simp at e
  | _, _, 0, _, .cons r _, e => by simp at e; subst e; exact ⟨_, rfl, r⟩
  | _, _, i + 1, x, .cons _ t, e => by
    obtain ⟨u, h1, h2⟩ := Vals.get (i := i) (x := x) t (by simpa using e)
    exact ⟨u, by simpa using h1, h2⟩
theorem Vals.append : ∀ {xs ys : List V} {us ws : List Value}, Vals xs us → Vals ys ws → Vals (xs ++ ys) (us ++ ws)
  | _, _, _, _, .nil, s => s
  | _, _, _, _, .cons r t, s => .cons r (Vals.append t s)
theorem Vals.take : ∀ {xs : List V} {us : List Value} (n : Nat), Vals xs us → Vals (xs.take n) (us.take n)
  | _, _, 0, _ => .nil
  | _, _, _ + 1, .nil => .nil
  | _, _, n + 1, .cons r t => .cons r (Vals.take n t)
theorem Vals.drop : ∀ {xs : List V} {us : List Value} (n : Nat), Vals xs us → Vals (xs.drop n) (us.drop n)
  | _, _, 0, r => r
  | _, _, _ + 1, .nil => .nil
  | _, _, n + 1, .cons _ t => Vals.drop n t
def RelO : Option V → Option Value → Prop
  | some v, some u => RelV v u
  | none, none => True
  | _, _ => False
def KV {κ : Type} : List (κ × V) → List (κ × Value) → Prop := Paired fun (p : κ × V) (q : κ × Value) => p.1 = q.1 ∧ RelV p.2 q.2
def kV : Key → V
  | .inl i => .int i
  | .inr x => .str x
inductive HO where
  /-- a list -/
  | lst (xs : List V)
  /-- a tuple (never changes) -/
  | tup (xs : List V)
  /-- a dict whose keys are ints and texts; one whose keys are tuples of ints and texts (the empty one is both) -/
  | dK (kvs : List (Key × V)) | dT (kvs : List (List Key × V))
  /-- a set of ints: its members, its size -/
  | set (S : Int → Bool) (n : Nat)
  /-- an instance of the class at C, its dict at dx, its attributes -/
  | ins (C dx : Addr) (fs : List (Str × V))
  /-- the dict of the instance at x -/
  | own (x : Addr)
  /-- the dict of an exception -/
  | xd (fs : List (Str × V))
  /-- a bound method, f of x -/
  | met (f x : Addr)
  /-- a range object lo, lo + 1, .. below hi -/
  | rng (lo hi : Int)
  /-- a thing that is known to the object (the script; a dict while a loop walks it): read, never written while it is so -/
  | frz (o : Obj) (u : HO)
  /-- a code object's table -/
  | tbl (ps : Array Value)
  /-- any other thing, by what is true of its one object (a def of one's own: SetO a S n := HO.ext fun h => ..) -/
  | ext (φ : Heap → Prop)
abbrev Hp := Addr → Option HO
def upd (H : Hp) (a : Addr) (o : HO) : Hp := fun b => if b = a then some o else H b
theorem upd_same {H : Hp} {a : Addr} {o : HO} : upd H a o a = some o := by unfold upd; rw [if_pos rfl]
theorem upd_ne {H : Hp} {a b : Addr} {o : HO} (h : b ≠ a) : upd H a o b = H b := by unfold upd; rw [if_neg h]
theorem ne_of_none {H : Hp} {a b : Addr} {o : HO} (h : H a = some o) (h' : H b = none) : a ≠ b := by
  intro e; subst e; rw [h] at h'; cases h'
section
variable (P : Program) (w : World)
def ObjOk (H : Hp) (h : Heap) (a : Addr) : HO → Prop
  | .lst xs => xs.length ≤ sizeLine ∧ ∃ (its : List Value) (n : Nat), Vals xs its ∧ h.get? a = some { cls := .type "list", data := .seq its.toArray n }
  | .tup xs => xs.length ≤ sizeLine ∧ ∃ its : List Value, Vals xs its ∧ IsTup h a its.toArray
  | .dK kvs => kvs.length ≤ sizeLine ∧ (a == sysModules) = false ∧ ∃ vs, KV kvs vs ∧ h.DictOf (mixKind P w) a vs
  | .dT kvs => kvs.length ≤ sizeLine ∧ (a == sysModules) = false ∧ ∃ xs : List (List Key × Addr × Value),
      Paired (fun (p : List Key × V) (q : List Key × Addr × Value) => p.1 = q.1 ∧ H q.2.1 = some (.tup (p.1.map kV)) ∧ RelV p.2 q.2.2) kvs xs ∧
      ∃ o es ep, h.get? a = some o ∧ o.ExactDict ∧ o.data = .dict es ep ∧ es.toList = xs.map (entryOfKey (tupleKind (mixKind P w))) ∧ (xs.map (·.1)).Nodup
  | .set S n => h.SetOf (intKind P w) a S n
  | .ins C dx fs => H dx = some (.own a) ∧ fs.length ≤ 1000 ∧ dx ≠ a ∧ h.get? a = some (PySem.W.instObj C dx) ∧
      ∃ mA, h.Ns1 dx mA ∧ (∀ f, RelO (fs.lookup f) (mA f)) ∧ PySem.Within mA (fs.map (·.1))
  | .own _ => ∃ o, h.get? a = some o
  | .xd fs => ∃ mA, h.Ns1 a mA ∧ ∀ f, RelO (fs.lookup f) (mA f)
  | .rng lo hi => ∃ t u v, h.get? a = some { cls := .type "range", data := .fields #[.int lo t, .int hi u, .int 1 v] }
  | .frz o u => h.get? a = some o ∧ ObjOk H h a u
  | .tbl ps => h.get? a = some { cls := .none, data := .fields ps }
  | .met f x => h.get? a = some (PySem.W.methodObj (.ref f) (.ref x))
  | .ext φ => φ h ∧ (∃ o, h.get? a = some o) ∧ ∀ h1 h2 : Heap, φ h1 → (∀ o, h1.get? a = some o → h2.get? a = some o) → φ h2
def HOk (H : Hp) (h : Heap) : Prop := ∀ a o, H a = some o → ObjOk P w H h a o
end
section
variable {P : Program} {w : World} {H H' : Hp} {h h' : Heap} {a : Addr} {o : HO}
theorem ObjOk.lt (x : ObjOk P w H h a o) : a < h.objs.size := by
  cases o with
  | lst xs => obtain ⟨_, _, _, _, e⟩ := x; exact Heap.lt_size e
  | tup xs => obtain ⟨_, _, _, p⟩ := x; exact p.lt
  | dK kvs => obtain ⟨_, _, _, _, o, _, _, e, _⟩ := x; exact Heap.lt_size e
  | dT kvs => obtain ⟨_, _, _, _, o, _, _, e, _⟩ := x; exact Heap.lt_size e
  | set S n => obtain ⟨o, _, _, _, e, _⟩ := x; exact Heap.lt_size e
  | ins C dx fs => obtain ⟨_, _, _, e, _⟩ := x; exact Heap.lt_size e
  | own y => obtain ⟨_, e⟩ := x; exact Heap.lt_size e
  | xd fs => obtain ⟨_, ⟨_, _, _, e, _⟩, _⟩ := x; exact Heap.lt_size e
  | rng lo hi => obtain ⟨_, _, _, e⟩ := x; exact Heap.lt_size e
  | frz ob u => obtain ⟨e, _⟩ := x; exact Heap.lt_size e
  | tbl ps => exact Heap.lt_size (show h.get? a = some _ from x)
  | met f y => exact Heap.lt_size (show h.get? a = some _ from x)
  | ext φ => obtain ⟨_, ⟨_, e⟩, _⟩ := x; exact Heap.lt_size e
theorem Paired.mapP {α β : Type} {F G : α → β → Prop} : ∀ {l₁ : List α} {l₂ : List β}, Paired F l₁ l₂ → (∀ a b, F a b → G a b) → Paired G l₁ l₂
  | _, _, .nil, _ => .nil
  | _, _, .cons r t, f => .cons (f _ _ r) (Paired.mapP t f)
theorem ObjOk.stay (x : ObjOk P w H h a o) (k : ∀ b u, (b = a ∨ H b = some (.own a)) → h.get? b = some u → h'.get? b = some u)
    (ho : ∀ b, H b = some (.own a) → H' b = some (.own a)) (ht : ∀ b xs, H b = some (.tup xs) → H' b = some (.tup xs)) : ObjOk P w H' h' a o := by
  induction o with
  | lst xs => obtain ⟨z, its, n, r, e⟩ := x; exact ⟨z, its, n, r, k _ _ (.inl rfl) e⟩
  | tup xs => obtain ⟨z, its, r, ob, e, c⟩ := x; exact ⟨z, its, r, ob, k _ _ (.inl rfl) e, c⟩
  | dK kvs => obtain ⟨z, y, vs, r, ob, es, ep, e, c⟩ := x; exact ⟨z, y, vs, r, ob, es, ep, k _ _ (.inl rfl) e, c⟩
  | dT kvs =>
    obtain ⟨z, y, xs, r, ob, es, ep, e, c⟩ := x
    exact ⟨z, y, xs, Paired.mapP r fun p q z => ⟨z.1, ht _ _ z.2.1, z.2.2⟩, ob, es, ep, k _ _ (.inl rfl) e, c⟩
  | set S n => obtain ⟨ob, es, ep, t, e, c⟩ := x; exact ⟨ob, es, ep, t, k _ _ (.inl rfl) e, c⟩
  | ins C dx fs =>
    obtain ⟨d, z, ne, e, mA, ⟨od, es, ep, e2, c⟩, r⟩ := x
    exact ⟨ho _ d, z, ne, k _ _ (.inl rfl) e, mA, ⟨od, es, ep, k _ _ (.inr d) e2, c⟩, r⟩
  | own y => obtain ⟨ob, e⟩ := x; exact ⟨ob, k _ _ (.inl rfl) e⟩
  | xd fs => obtain ⟨mA, ⟨od, es, ep, e, c⟩, r⟩ := x; exact ⟨mA, ⟨od, es, ep, k _ _ (.inl rfl) e, c⟩, r⟩
  | rng lo hi => obtain ⟨t, u, v, e⟩ := x; exact ⟨t, u, v, k _ _ (.inl rfl) e⟩
  | frz ob u ih => obtain ⟨e, q⟩ := x; exact ⟨k _ _ (.inl rfl) e, ih q⟩
  | tbl ps =>
    have e : h.get? a = some { cls := .none, data := .fields ps } := x
    show h'.get? a = some { cls := .none, data := .fields ps }
    exact k a _ (.inl rfl) e
  | met f y =>
    have e : h.get? a = some (PySem.W.methodObj (.ref f) (.ref y)) := x
    show h'.get? a = some (PySem.W.methodObj (.ref f) (.ref y))
    exact k a _ (.inl rfl) e
  | ext φ => obtain ⟨p, ⟨o, e⟩, st⟩ := x; exact ⟨st _ _ p fun o q => k _ _ (.inl rfl) q, ⟨o, k _ _ (.inl rfl) e⟩, st⟩
theorem HOk.lt (x : HOk P w H h) (e : H a = some o) : a < h.objs.size := (x a o e).lt
theorem HOk.fresh (x : HOk P w H h) (e : h.objs.size ≤ a) : H a = none := by
  cases q : H a with
  | none => rfl
  | some u => exact absurd (Nat.lt_of_lt_of_le (x.lt q) e) (Nat.lt_irrefl _)
theorem HOk.kept (x : HOk P w H h) (k : ∀ b u, h.get? b = some u → h'.get? b = some u) : HOk P w H h' := fun a o e =>
  (x a o e).stay (fun b u _ q => k b u q) (fun _ q => q) fun _ _ q => q
theorem HOk.laid (x : HOk P w H h) (k : ∀ b u, h.get? b = some u → h'.get? b = some u) (hp : h.objs.size ≤ a) (new : ObjOk P w (upd H a o) h' a o) : HOk P w (upd H a o) h' := fun b u e => by
  have hn := x.fresh hp
  by_cases hb : b = a
  · subst hb; rw [upd_same] at e; cases e; exact new
  · rw [upd_ne hb] at e
    exact (x b u e).stay (fun c v _ q => k c v q) (fun c q => by rw [upd_ne (ne_of_none q hn)]; exact q) fun c xs q => by rw [upd_ne (ne_of_none q hn)]; exact q
end
def Rd (H : Hp) (a : Addr) (u : HO) : Prop := H a = some u ∨ ∃ o, H a = some (.frz o u)
theorem Rd.ok {P : Program} {w : World} {H : Hp} {h : Heap} {a : Addr} {u : HO} (r : Rd H a u) (x : HOk P w H h) : ObjOk P w H h a u := by
  rcases r with r | ⟨o, r⟩
  · exact x a u r
  · obtain ⟨_, q⟩ := x a _ r
    exact q
def Mut : Option HO → Prop
  | some (.lst _) => True
  | some (.dK _) => True
  | some (.dT _) => True
  | some (.set _ _) => True
  | some (.ins _ _ _) => True
  | some (.ext _) => True
  | _ => False
section
variable {P : Program} {w : World} {H : Hp} {h h' : Heap} {x e : Addr} {o' : HO}
theorem HOk.write (ok : HOk P w H h) (mu : Mut (H x)) (he : e = x ∨ H e = some (.own x)) (k : ∀ b u, b ≠ e → h.get? b = some u → h'.get? b = some u) (heo : ∃ u, h'.get? e = some u)
    (new : ObjOk P w (upd H x o') h' x o') : HOk P w (upd H x o') h' := fun b u q => by
  have nown : ∀ c y, H c = some (.own y) → c ≠ x := fun c y r z => by subst z; rw [r] at mu; exact mu
  have ntup : ∀ c xs, H c = some (.tup xs) → c ≠ x := fun c xs r z => by subst z; rw [r] at mu; exact mu
  by_cases hb : b = x
  · subst hb; rw [upd_same] at q; cases q; exact new
  · rw [upd_ne hb] at q
    by_cases hbe : b = e
    · have q' : H b = some (.own x) := by
        rcases he with z | z
        · exact absurd (hbe.trans z) hb
        · rw [hbe]; exact z
      rw [q] at q'; cases q'
      obtain ⟨v, hv⟩ := heo
      exact ⟨v, by rw [hbe]; exact hv⟩
    · refine (ok b u q).stay (fun c v hc r => k c v ?_ r) (fun c r => by rw [upd_ne (nown c b r)]; exact r) fun c xs r => by rw [upd_ne (ntup c xs r)]; exact r
      rcases hc with rfl | hc
      · exact hbe
      · rintro rfl
        rcases he with z | z
        · exact nown c b hc z
        · rw [hc] at z; cases z; exact hb rfl
end
structure Un (fs ex : List Addr) (H H' : Hp) (h h' : Heap) : Prop where
  keep : ∀ b o, h.get? b = some o → H b = none → b ∉ fs → b ∉ ex → h'.get? b = some o
  slot : ∀ b o, h.get? b = some o → H b = none → b ∈ fs → b ∉ ex → ∃ sl, h'.get? b = some { o with slots := sl }
  free : ∀ b o, h.get? b = some o → H b = none → b ∉ ex → H' b = none
  there : ∀ b o, h.get? b = some o → b ∉ ex → ∃ o', h'.get? b = some o'
  tups : ∀ b xs, H b = some (.tup xs) → H' b = some (.tup xs)
  frzs : ∀ b o u, H b = some (.frz o u) → H' b = some (.frz o u)
  tbls : ∀ b ps, H b = some (.tbl ps) → ∃ more, H' b = some (.tbl (ps ++ more))
section
variable {fs fs' ex ex' : List Addr} {H H1 H2 : Hp} {h h1 h2 h' : Heap} {a x e : Addr} {o : HO}
theorem Un.any (u : Un fs ex H H1 h h1) {b : Addr} {ob : Obj} (q : h.get? b = some ob) (n : H b = none) (hx : b ∉ ex) : ∃ sl, h1.get? b = some { ob with slots := sl } := by
  by_cases hb : b ∈ fs
  · exact u.slot b ob q n hb hx
  · exact ⟨ob.slots, u.keep b ob q n hb hx⟩
theorem Un.kept (k : ∀ b u, h.get? b = some u → h'.get? b = some u) : Un fs ex H H h h' :=
  ⟨fun b ob q _ _ _ => k b ob q, fun b ob q _ _ _ => ⟨ob.slots, k b ob q⟩, fun _ _ _ n _ => n, fun b ob q _ => ⟨ob, k b ob q⟩, fun _ _ q => q, fun _ _ _ q => q, fun _ ps q => ⟨#[], by rw [q]; simp⟩⟩
theorem Un.refl : Un fs ex H H h h := Un.kept fun _ _ q => q
theorem Un.laid (k : ∀ b u, h.get? b = some u → h'.get? b = some u) (hp : h.objs.size ≤ a) (hn : H a = none) : Un fs ex H (upd H a o) h h' where
  keep := fun b u q _ _ _ => k b u q
  slot := fun b u q _ _ _ => ⟨u.slots, k b u q⟩
  free := fun b u q n _ => by rw [upd_ne (Nat.ne_of_lt (Nat.lt_of_lt_of_le (Heap.lt_size q) hp))]; exact n
  there := fun b u q _ => ⟨u, k b u q⟩
  tups := fun b xs q => by rw [upd_ne (ne_of_none q hn)]; exact q
  frzs := fun b u xs q => by rw [upd_ne (ne_of_none q hn)]; exact q
  tbls := fun b ps q => ⟨#[], by rw [upd_ne (ne_of_none q hn), q]; simp⟩
theorem Un.write (mu : Mut (H x)) (he : e = x ∨ H e = some (.own x)) (k : ∀ b u, b ≠ e → h.get? b = some u → h'.get? b = some u) (heo : ∃ u, h'.get? e = some u) : Un fs ex H (upd H x o) h h' := by
  have hx : ∀ b, H b = none → b ≠ x := fun b n z => by subst z; rw [n] at mu; exact mu
  have hb : ∀ b, H b = none → b ≠ e := fun b n z => by
    subst z
    rcases he with r | r
    · exact hx b n r
    · rw [n] at r; cases r
  have hm : ∀ b u, H b = some u → ¬ Mut (some u) → b ≠ x := fun b u q nm z => by subst z; rw [q] at mu; exact nm mu
  refine ⟨fun b u q n _ _ => k b u (hb b n) q, fun b u q n _ _ => ⟨u.slots, k b u (hb b n) q⟩, fun b u q n _ => by rw [upd_ne (hx b n)]; exact n, fun b u q _ => ?_,
    fun b xs q => by rw [upd_ne (hm b _ q fun z => z)]; exact q, fun b u xs q => by rw [upd_ne (hm b _ q fun z => z)]; exact q, fun b ps q => ⟨#[], by rw [upd_ne (hm b _ q fun z => z), q]; simp⟩⟩
  by_cases hbe : b = e
  · subst hbe; exact heo
  · exact ⟨u, k b u hbe q⟩
end
def trk (h : Heap) (H : Hp) : List Addr := (List.range h.objs.size).filter fun a => (H a).isSome
def hidT (h : Heap) (H : Hp) : Heap := PySem.W.hideAll h (trk h H)
theorem hidT_size (h : Heap) (H : Hp) : (hidT h H).objs.size = h.objs.size := PySem.W.hideAll_size _ _
theorem hidT_get {h : Heap} {H : Hp} {b : Addr} {o : Obj} (e : h.get? b = some o) (n : H b = none) : (hidT h H).get? b = some o :=
  PySem.W.hideAll_get _ e fun hm => by
    have q : (H b).isSome = true := (List.mem_filter.mp hm).2
    rw [n] at q; simp at q
theorem of_hidT {h : Heap} {H : Hp} {b : Addr} {o : Obj} (e : (hidT h H).get? b = some o) : h.get? b = some o ∧ H b = none := by
  have e' : h.get? b = some o := PySem.W.of_hideAll (trk h H) e
  refine ⟨e', ?_⟩
  cases q : H b with
  | none => rfl
  | some x =>
    have hm : b ∈ trk h H := List.mem_filter.mpr ⟨List.mem_range.mpr (Heap.lt_size e'), by simp [q]⟩
    have z : (hidT h H).get? b = none := PySem.W.hideAll_none (trk h H) hm
    rw [z] at e; cases e
def allNews (g h : Heap) (L : Addr) : List (Addr × Obj) := (List.range h.objs.size).filterMap fun a => if a = L ∨ (g.get? a).isSome = true then none else (h.get? a).map fun o => (a, o)
def rest (g h : Heap) (L d : Addr) : List (Addr × Obj) := (allNews g h L).filter fun p => decide (p.1 ≠ d)
end L2
namespace L2
open PySem PySem.Spec PyProof.Rows
structure Mod (K : PySem.W.Frag) (mg : Str → Option Value) (base : Heap) : Prop where
  kin : K.In base
  glob : base.Ns mainGlobals mg
  blt : ∃ mb, base.Ns builtinsNs mb ∧ ∀ x : Str, x ≠ "__name__" → mb x = bootBuiltins x
  nolimit : base.NoLimit
structure Cx where
  prog : Program
  w : World
  K : PySem.W.Frag
  mg : Str → Option Value
  base : Heap
  A : Around
  N : List Str
  s₀ : Shared
  H₀ : Hp
  env : Env
  outer : List Env
  stack : List Env
  ex : List Addr
  fn : Str → Bool
  calm : Bool
  pn : List (Addr × Obj)
  xe : Value → Shared → Prop
def frs (l : List Env) : List Addr := l.filterMap (·.frame)
abbrev Cx.fs (X : Cx) : List Addr := frs X.outer
def Vis (sc : Scope) (x : Str) : Prop := sc.names.lookup x = some .local ∨ sc.names.lookup x = some .cell ∨ sc.names.lookup x = some .free
def Loc (sc : Scope) (x : Str) : Prop := sc.names.lookup x = some .local ∨ sc.names.lookup x = some .cell
def Look (env : Env) (h : Heap) (m : Str → Option Value) (x : Str) (u : Value) : Prop :=
  (env.kindOf x = some .local ∧ m x = some u) ∨ ((env.kindOf x = some .cell ∨ env.kindOf x = some .free) ∧ ∃ c, env.cells.lookup x = some c ∧ h.IsCell c (some u))
structure Cx.Ok (X : Cx) : Prop where
  mod : Mod X.K X.mg X.base
  kind : X.env.scope.kind = .function
  glob : X.env.globals = mainGlobals
  blt : X.env.builtins = builtinsNs
  above : X.s₀.heap.objs.size ≤ X.env.locals
  inj : ∀ x y c, X.env.cells.lookup x = some c → X.env.cells.lookup y = some c → x = y
  has : ∀ x, (X.env.kindOf x = some .cell ∨ X.env.kindOf x = some .free) → ∃ c, X.env.cells.lookup x = some c
  cab : ∀ x c, X.fn x = true → X.env.cells.lookup x = some c → X.s₀.heap.objs.size ≤ c
  hd : X.calm = true → X.A.handled = none
  frames : X.A.frames = some X.stack
  stk : X.stack = X.outer ∨ (X.stack = X.env :: X.outer ∧ X.env.frame = some X.env.locals)
  exf : ∀ b ∈ X.ex, b ≠ X.env.locals ∧ ∀ x c, X.env.cells.lookup x = some c → c ≠ b
  bs : ∀ b o, X.base.get? b = some o → X.s₀.heap.get? b = some o ∧ X.H₀ b = none
  bsz : X.base.objs.size ≤ X.s₀.heap.objs.size
  noex : ∀ b o, X.base.get? b = some o → b ∉ X.ex
  exfs : ∀ b ∈ X.ex, b ∉ X.fs
  funs : X.s₀.heap.FunFrames X.base X.outer
  frf : ∀ b ∈ X.fs, X.H₀ b = none
structure Inv (X : Cx) (pins : List (Addr × Obj)) (σ : List (Option V)) (H : Hp) (s : Shared) : Prop where
  ok : X.Ok
  os : s.os = X.s₀.os
  bare : AllBare s.gens
  base : Un X.fs X.ex X.H₀ H X.s₀.heap s.heap
  loc : ∃ m, s.heap.Ns X.env.locals m ∧ ∀ (i : Nat) (x : Str) (v : V), X.N[i]? = some x → σ[i]? = some (some v) → Vis X.env.scope x → ∃ u, RelV v u ∧ Look X.env s.heap m x u
  cell : ∀ x c, X.env.cells.lookup x = some c → ∃ v, s.heap.IsCell c v
  free : H X.env.locals = none
  freeC : ∀ x c, X.env.cells.lookup x = some c → H c = none
  pin : ∀ p ∈ X.pn ++ pins, s.heap.get? p.1 = some p.2 ∧ H p.1 = none ∧ p.1 ≠ X.env.locals ∧ p.1 ∉ X.fs ∧ ∀ v, p.2.data ≠ .cell v
  hok : HOk X.prog X.w H s.heap
  len : σ.length = X.N.length
section
variable {X : Cx} {pins : List (Addr × Obj)} {σ : List (Option V)} {H H' : Hp} {s : Shared} {h' : Heap}
theorem Cx.Ok.nofr (ok : X.Ok) {b : Addr} {o : Obj} (e : X.base.get? b = some o) : b ∉ X.fs := fun hb => by
  have := (ok.funs.mem hb).1
  rw [e] at this; cases this
theorem Inv.bs (I : Inv X pins σ H s) : ∀ b o, X.base.get? b = some o → s.heap.get? b = some o ∧ H b = none := fun b o e =>
  ⟨I.base.keep b o (I.ok.bs b o e).1 (I.ok.bs b o e).2 (I.ok.nofr e) (I.ok.noex b o e), I.base.free b o (I.ok.bs b o e).1 (I.ok.bs b o e).2 (I.ok.noex b o e)⟩
theorem Inv.bk (I : Inv X pins σ H s) : ∀ b o, X.base.get? b = some o → s.heap.get? b = some o := fun b o e => (I.bs b o e).1
theorem Inv.mod (I : Inv X pins σ H s) : Mod X.K X.mg X.base := I.ok.mod
theorem Inv.kIn (I : Inv X pins σ H s) : X.K.In s.heap := I.ok.mod.kin.keeps I.bk
theorem Inv.lt (I : Inv X pins σ H s) : X.env.locals < s.heap.objs.size := let ⟨_, hn, _⟩ := I.loc; hn.lt
theorem Inv.sz (I : Inv X pins σ H s) : X.s₀.heap.objs.size ≤ s.heap.objs.size := Nat.le_trans I.ok.above (Nat.le_of_lt I.lt)
theorem Inv.nofs (I : Inv X pins σ H s) {a : Addr} (h : s.heap.objs.size ≤ a) : a ∉ X.fs := fun hb => by
  obtain ⟨_, o, ho, _⟩ := I.ok.funs.mem hb
  exact absurd (Nat.lt_of_lt_of_le (Heap.lt_size ho) (Nat.le_trans I.sz h)) (Nat.lt_irrefl _)
theorem Inv.cne (I : Inv X pins σ H s) : ∀ x c, X.env.cells.lookup x = some c → c ≠ X.env.locals := fun x c e z => by
  obtain ⟨v, o, ho, hd⟩ := I.cell x c e
  obtain ⟨m, ⟨o', es, ep, ho', hd', _⟩, _⟩ := I.loc
  rw [z, ho'] at ho; cases ho; rw [hd'] at hd; cases hd
theorem Inv.funs (I : Inv X pins σ H s) : s.heap.FunFrames X.base X.outer := by
  have all : ∀ (l : List Env), (∀ b ∈ frs l, b ∈ X.fs) → X.s₀.heap.FunFrames X.base l → s.heap.FunFrames X.base l := by
    intro l
    induction l with
    | nil => intro _ _; trivial
    | cons env r ih =>
      intro hs hl
      obtain ⟨hk, ⟨L, o, hf, hn, ho, hd⟩, hr⟩ := hl
      have hL : L ∈ X.fs := hs L (by unfold frs; rw [List.filterMap_cons, hf]; exact List.mem_cons_self)
      obtain ⟨sl, e⟩ := I.base.slot L o ho (I.ok.frf L hL) hL fun z => I.ok.exfs L z hL
      exact ⟨hk, ⟨L, _, hf, hn, e, hd⟩, ih (fun b hb => hs b (by unfold frs; rw [List.filterMap_cons, hf]; exact List.mem_cons_of_mem _ hb)) hr⟩
  exact all X.outer (fun _ hb => hb) I.ok.funs
theorem Inv.stack (I : Inv X pins σ H s) : s.heap.FunFrames X.base X.stack := by
  rcases I.ok.stk with e | ⟨e, hf⟩
  · rw [e]; exact I.funs
  · rw [e]
    obtain ⟨m, hn, _⟩ := I.loc
    refine .cons (by rw [I.ok.kind]; decide) hf hn ?_ I.funs
    exact Heap.get?_none_of_le (Nat.le_trans I.ok.bsz I.ok.above)
theorem Inv.stkSub (I : Inv X pins σ H s) : ∀ b ∈ frs X.stack, b ∈ X.env.locals :: X.fs := fun b hb => by
  rcases I.ok.stk with e | ⟨e, hf⟩
  · rw [e] at hb; exact List.mem_cons_of_mem _ hb
  · rw [e] at hb
    unfold frs at hb
    rw [List.filterMap_cons, hf] at hb
    exact hb
theorem Inv.stkFree (I : Inv X pins σ H s) : ∀ b ∈ frs X.stack, H b = none := fun b hb => by
  rcases List.mem_cons.mp (I.stkSub b hb) with e | hb
  · rw [e]; exact I.free
  · obtain ⟨_, o, ho, _⟩ := I.ok.funs.mem hb
    exact I.base.free b o ho (I.ok.frf b hb) fun z => I.ok.exfs b z hb
theorem Inv.step {g' : Array GenState} {t' : Nat} {d' : Drawn} {ch : List Addr} (I : Inv X pins σ H s)
    (hch : ∀ b ∈ ch, (b ∈ X.ex ∨ X.s₀.heap.objs.size ≤ b) ∧ b ≠ X.env.locals ∧ (∀ x c, X.env.cells.lookup x = some c → c ≠ b) ∧ ∀ p ∈ X.pn ++ pins, p.1 ≠ b)
    (keep : ∀ b o, b ≠ X.env.locals → b ∉ X.fs → b ∉ ch → s.heap.get? b = some o → H b = none → h'.get? b = some o)
    (slot : ∀ b o, b ≠ X.env.locals → b ∈ X.fs → b ∉ ch → s.heap.get? b = some o → H b = none → ∃ sl, h'.get? b = some { o with slots := sl }) (free : ∀ b o, b ∉ ch → s.heap.get? b = some o → H b = none → H' b = none)
    (there : ∀ b o, b ∉ ch → s.heap.get? b = some o → ∃ o', h'.get? b = some o')
    (tups : ∀ b xs, H b = some (.tup xs) → H' b = some (.tup xs)) (frzs : ∀ b o u, H b = some (.frz o u) → H' b = some (.frz o u)) (tbls : ∀ b ps, H b = some (.tbl ps) → ∃ more, H' b = some (.tbl (ps ++ more)))
    (ns : ∀ m, s.heap.Ns X.env.locals m → h'.Ns X.env.locals m) (hok : HOk X.prog X.w H' h') (hg : AllBare g') :
    Inv X pins σ H' { s with heap := h', gens := g', drawn := d', toks := t' } := by
  have neL : ∀ b o, X.s₀.heap.get? b = some o → b ≠ X.env.locals := fun b o e => Nat.ne_of_lt (Nat.lt_of_lt_of_le (Heap.lt_size e) I.ok.above)
  have neC : ∀ b o, X.s₀.heap.get? b = some o → b ∉ X.ex → b ∉ ch := fun b o e hx hb => by
    rcases (hch b hb).1 with z | z
    · exact hx z
    · exact absurd (Nat.lt_of_lt_of_le (Heap.lt_size e) z) (Nat.lt_irrefl _)
  have cellK : ∀ x c, X.env.cells.lookup x = some c → ∀ v, s.heap.IsCell c v → h'.IsCell c v := fun x c e v ⟨o, ho, hd⟩ => by
    have nch : c ∉ ch := fun z => (hch c z).2.2.1 x c e rfl
    by_cases hc : c ∈ X.fs
    · obtain ⟨sl, q⟩ := slot c o (I.cne x c e) hc nch ho (I.freeC x c e)
      exact ⟨_, q, hd⟩
    · exact ⟨o, keep c o (I.cne x c e) hc nch ho (I.freeC x c e), hd⟩
  refine ⟨I.ok, I.os, hg, ⟨fun b o e n hb hx => ?_, fun b o e n hb hx => ?_, fun b o e n hx => ?_, fun b o e hx => ?_, fun b xs e => tups b xs (I.base.tups b xs e), fun b o xs e => frzs b o xs (I.base.frzs b o xs e), fun b ps e => ?_⟩, ?_, fun x c e => ?_, ?_, fun x c e => ?_, fun p hp => ?_, hok, I.len⟩
  · exact keep b o (neL b o e) hb (neC b o e hx) (I.base.keep b o e n hb hx) (I.base.free b o e n hx)
  · obtain ⟨sl, e1⟩ := I.base.slot b o e n hb hx
    obtain ⟨sl', e2⟩ := slot b _ (neL b o e) hb (neC b o e hx) e1 (I.base.free b o e n hx)
    exact ⟨sl', e2⟩
  · obtain ⟨o', e1⟩ := I.base.there b o e hx
    exact free b o' (neC b o e hx) e1 (I.base.free b o e n hx)
  · obtain ⟨o', e1⟩ := I.base.there b o e hx
    exact there b o' (neC b o e hx) e1
  · obtain ⟨m1, e1⟩ := I.base.tbls b ps e
    obtain ⟨m2, e2⟩ := tbls b _ e1
    exact ⟨m1 ++ m2, by rw [e2, Array.append_assoc]⟩
  · obtain ⟨m, hn, hl⟩ := I.loc
    refine ⟨m, ns m hn, fun i x v e1 e2 e3 => ?_⟩
    obtain ⟨u, r, l⟩ := hl i x v e1 e2 e3
    refine ⟨u, r, ?_⟩
    rcases l with l | ⟨k, c, e, z⟩
    · exact .inl l
    · exact .inr ⟨k, c, e, cellK x c e _ z⟩
  · obtain ⟨v, z⟩ := I.cell x c e
    exact ⟨v, cellK x c e v z⟩
  · obtain ⟨m, ⟨o, _, _, ho, _⟩, _⟩ := I.loc
    exact free _ o (fun z => (hch _ z).2.1 rfl) ho I.free
  · obtain ⟨v, o, ho, hd⟩ := I.cell x c e
    exact free c o (fun z => (hch c z).2.2.1 x c e rfl) ho (I.freeC x c e)
  · obtain ⟨e, n, ne, nf, d⟩ := I.pin p hp
    have nch : p.1 ∉ ch := fun z => (hch p.1 z).2.2.2 p hp rfl
    exact ⟨keep p.1 p.2 ne nf nch e n, free p.1 p.2 nch e n, ne, nf, d⟩
theorem Inv.un {t' : Nat} (I : Inv X pins σ H s) (u : Un X.fs [] H H' s.heap h') (hok : HOk X.prog X.w H' h') : Inv X pins σ H' { s with heap := h', toks := t' } := by
  obtain ⟨m, ⟨o, es, ep, ho, r⟩, _⟩ := id I.loc
  obtain ⟨sl, hL⟩ := u.any ho I.free (by simp)
  exact I.step (g' := s.gens) (d' := s.drawn) (ch := []) (fun _ z => nomatch z) (fun b o _ hb _ e n => u.keep b o e n hb (by simp)) (fun b o _ hb _ e n => u.slot b o e n hb (by simp)) (fun b o _ e n => u.free b o e n (by simp)) (fun b o _ e => u.there b o e (by simp)) u.tups u.frzs u.tbls (fun m' hm => by
    obtain ⟨o', es', ep', ho', r'⟩ := hm
    rw [ho] at ho'; cases ho'
    exact ⟨_, es', ep', hL, r'⟩) hok I.bare
theorem Inv.call {g' : Array GenState} {t' : Nat} {d' : Drawn} {ch : List Addr} (I : Inv X pins σ H s) (u : Un (frs X.stack) ch H H' s.heap h') (hok : HOk X.prog X.w H' h') (hg : AllBare g')
    (hch : ∀ b ∈ ch, (b ∈ X.ex ∨ X.s₀.heap.objs.size ≤ b) ∧ b ≠ X.env.locals ∧ (∀ x c, X.env.cells.lookup x = some c → c ≠ b) ∧ ∀ p ∈ X.pn ++ pins, p.1 ≠ b) :
    Inv X pins σ H' { s with heap := h', gens := g', drawn := d', toks := t' } := by
  obtain ⟨m, ⟨o, es, ep, ho, r⟩, _⟩ := id I.loc
  obtain ⟨sl, hL⟩ := u.any ho I.free fun z => (hch _ z).2.1 rfl
  exact I.step (ch := ch) hch (fun b o hL hb hc e n => u.keep b o e n (fun z => (List.mem_cons.mp (I.stkSub b z)).elim hL hb) hc) (fun b o _ _ hc e n => u.any e n hc) (fun b o hc e n => u.free b o e n hc) (fun b o hc e => u.there b o e hc) u.tups u.frzs u.tbls (fun m' hm => by
    obtain ⟨o', es', ep', ho', r'⟩ := hm
    rw [ho] at ho'; cases ho'
    exact ⟨_, es', ep', hL, r'⟩) hok hg
theorem Inv.turned {t' : Nat} {it : Addr} (I : Inv X pins σ H s) (k : ∀ b o, b ≠ it → s.heap.get? b = some o → h'.get? b = some o) (hn : H it = none) (hL : it ≠ X.env.locals)
    (h1 : it ∈ X.ex ∨ X.s₀.heap.objs.size ≤ it) (h2 : ∀ x c, X.env.cells.lookup x = some c → c ≠ it) (h3 : ∀ p ∈ X.pn ++ pins, p.1 ≠ it) : Inv X pins σ H { s with heap := h', toks := t' } := by
  have nit : ∀ b u, H b = some u → b ≠ it := fun b u e z => by rw [z, hn] at e; cases e
  refine I.step (g' := s.gens) (d' := s.drawn) (ch := [it]) (fun b hb => ?_) (fun b o _ _ hc e _ => k b o (fun z => hc (by simp [z])) e) (fun b o _ _ hc e _ => ⟨o.slots, k b o (fun z => hc (by simp [z])) e⟩) (fun _ _ _ _ n => n)
    (fun b o hc e => ⟨o, k b o (fun z => hc (by simp [z])) e⟩) (fun _ _ e => e) (fun _ _ _ e => e) (fun b ps e => ⟨#[], by rw [e]; simp⟩) (fun m hm => ?_) (fun b u e => ?_) I.bare
  · have e : b = it := by simpa using hb
    subst e
    exact ⟨h1, hL, h2, h3⟩
  · obtain ⟨o, es, ep, ho, r⟩ := hm
    exact ⟨o, es, ep, k _ o (Ne.symm hL) ho, r⟩
  · refine (I.hok b u e).stay (fun c v hc q => k c v ?_ q) (fun _ q => q) fun _ _ q => q
    rcases hc with z | z
    · rw [z]; exact nit b u e
    · exact nit c _ z
theorem Inv.tok (I : Inv X pins σ H s) (t : Nat) : Inv X pins σ H { s with toks := t } := I.un (h' := s.heap) (t' := t) Un.refl I.hok
theorem Inv.kept {t' : Nat} (I : Inv X pins σ H s) (k : ∀ b u, s.heap.get? b = some u → h'.get? b = some u) : Inv X pins σ H { s with heap := h', toks := t' } := I.un (Un.kept k) (I.hok.kept k)
theorem Inv.laid {a : Addr} {o : HO} {t' : Nat} (I : Inv X pins σ H s) (k : ∀ b u, s.heap.get? b = some u → h'.get? b = some u) (hp : s.heap.objs.size ≤ a) (new : ObjOk X.prog X.w (upd H a o) h' a o) :
    Inv X pins σ (upd H a o) { s with heap := h', toks := t' } := I.un (Un.laid k hp (I.hok.fresh hp)) (I.hok.laid k hp new)
theorem Inv.write {x e : Addr} {o : HO} {t' : Nat} (I : Inv X pins σ H s) (mu : Mut (H x)) (he : e = x ∨ H e = some (.own x)) (k : ∀ b u, b ≠ e → s.heap.get? b = some u → h'.get? b = some u) (heo : ∃ u, h'.get? e = some u)
    (new : ObjOk X.prog X.w (upd H x o) h' x o) : Inv X pins σ (upd H x o) { s with heap := h', toks := t' } := I.un (Un.write mu he k heo) (I.hok.write mu he k heo new)
theorem Inv.pins_of {pins' : List (Addr × Obj)} (I : Inv X pins σ H s) (h : ∀ p ∈ pins', s.heap.get? p.1 = some p.2 ∧ H p.1 = none ∧ p.1 ≠ X.env.locals ∧ p.1 ∉ X.fs ∧ ∀ v, p.2.data ≠ .cell v) : Inv X pins' σ H s :=
  ⟨I.ok, I.os, I.bare, I.base, I.loc, I.cell, I.free, I.freeC, fun p hp => (List.mem_append.mp hp).elim (fun z => I.pin p (List.mem_append_left _ z)) (h p), I.hok, I.len⟩
theorem nodup_ix {N : List Str} (hN : N.Nodup) {i j : Nat} {x : Str} (a : N[i]? = some x) (b : N[j]? = some x) : i = j := by
  obtain ⟨h1, e1⟩ := List.getElem?_eq_some_iff.mp a
  obtain ⟨h2, e2⟩ := List.getElem?_eq_some_iff.mp b
  exact (List.getElem_inj hN).mp (e1.trans e2.symm)
theorem store_ok2 {M : Model} {A : Around} {E : Value → Shared → Prop} {i : Nat} {x : Str} {v : V} {u : Value} {Q : Unit → Shared → Prop} (I : Inv X pins σ H s) (hN : X.N.Nodup) (hi : X.N[i]? = some x) (hx : Loc X.env.scope x) (r : RelV v u)
    (h : ∀ s', Inv X pins (σ.set i (some v)) H s' → (∃ a, Heap.SameBut a s.heap s'.heap ∧ (a = X.env.locals ∨ X.env.cells.lookup x = some a)) → Q () s') (hf : X.fn x = true ∨ X.env.scope.names.lookup x = some .local := by first | exact .inl rfl | exact .inr rfl | assumption) : wpAny M A (storeName X.env x u) Q E s := by
  obtain ⟨m, hn, hl⟩ := id I.loc
  have hcls : (X.env.scope.kind == .class || (X.env.scope.kind == .module && X.env.locals != X.env.globals)) = false := by rw [I.ok.kind]; rfl
  have hiσ : i < σ.length := by rw [I.len]; exact (List.getElem?_eq_some_iff.mp hi).1
  have cne := I.cne
  have tracked : ∀ {a : Addr} {h' : Heap}, (∃ o, s.heap.get? a = some o ∧ H a = none) → Heap.SameBut a s.heap h' → HOk X.prog X.w H h' := fun {a h'} ha hs b ob e => by
    obtain ⟨_, _, hfree⟩ := ha
    refine (I.hok b ob e).stay (fun c w' hc q => (hs.2 c ?_).trans q) (fun _ q => q) fun _ _ q => q
    rintro rfl
    rcases hc with rfl | hc
    · rw [hfree] at e; cases e
    · rw [hfree] at hc; cases hc
  rcases hx with hk | hk
  · refine wpAny_storeName_local hk hn (fun h' hn' hs => ?_) hcls
    obtain ⟨oL, _, _, hoL, _⟩ := id hn
    refine h _ ⟨I.ok, I.os, I.bare, ⟨fun b o e n hb hx => ?_, fun b o e n hb hx => ?_, I.base.free, fun b o e hx => ?_, I.base.tups, I.base.frzs, I.base.tbls⟩, ⟨_, hn', fun j y v' e1 e2 e3 => ?_⟩, fun y c e => ?_, I.free, I.freeC, fun p hp => ?_, tracked ⟨oL, hoL, I.free⟩ hs, by simpa using I.len⟩ ⟨_, hs, .inl rfl⟩
    · exact (hs.2 b (Nat.ne_of_lt (Nat.lt_of_lt_of_le (Heap.lt_size e) I.ok.above))).trans (I.base.keep b o e n hb hx)
    · obtain ⟨sl, e1⟩ := I.base.slot b o e n hb hx
      exact ⟨sl, (hs.2 b (Nat.ne_of_lt (Nat.lt_of_lt_of_le (Heap.lt_size e) I.ok.above))).trans e1⟩
    · obtain ⟨o', e1⟩ := I.base.there b o e hx
      exact ⟨o', (hs.2 b (Nat.ne_of_lt (Nat.lt_of_lt_of_le (Heap.lt_size e) I.ok.above))).trans e1⟩
    · by_cases hj : j = i
      · subst hj
        rw [hi] at e1; cases e1
        rw [List.getElem?_set_self hiσ] at e2
        cases e2
        exact ⟨u, r, .inl ⟨hk, by simp⟩⟩
      · rw [List.getElem?_set_ne (Ne.symm hj)] at e2
        obtain ⟨u', r', q⟩ := hl j y v' e1 e2 e3
        refine ⟨u', r', ?_⟩
        rcases q with ⟨k, e⟩ | ⟨k, c, e, z⟩
        · refine .inl ⟨k, ?_⟩
          have : y ≠ x := fun e => hj (nodup_ix hN e1 (e ▸ hi))
          simp [this, e]
        · exact .inr ⟨k, c, e, z.sameBut hs (cne y c e)⟩
    · obtain ⟨w', z⟩ := I.cell y c e
      exact ⟨w', z.sameBut hs (cne y c e)⟩
    · obtain ⟨e, n, ne, nf, d⟩ := I.pin p hp
      exact ⟨(hs.2 p.1 ne).trans e, n, ne, nf, d⟩
  · have hfn : X.fn x = true := by
      rcases hf with z | z
      · exact z
      · rw [z] at hk; cases hk
    obtain ⟨c, hc⟩ := I.ok.has x (.inl hk)
    obtain ⟨w', z⟩ := I.cell x c hc
    refine wpAny_storeName_cell I.ok.kind hk hc z (fun h' hc' hs => ?_)
    obtain ⟨oc, hoc, hocd⟩ := id z
    refine h { s with heap := h' } ⟨I.ok, I.os, I.bare, ⟨fun b o e n hb hx => ?_, fun b o e n hb hx => ?_, I.base.free, fun b o e hx => ?_, I.base.tups, I.base.frzs, I.base.tbls⟩, ⟨m, hn.sameBut hs (Ne.symm (cne x c hc)), fun j y v' e1 e2 e3 => ?_⟩, fun y c' e => ?_, I.free, I.freeC, fun p hp => ?_, tracked ⟨oc, hoc, I.freeC x c hc⟩ hs, by simpa using I.len⟩ ⟨c, hs, .inr hc⟩
    · exact (hs.2 b (Nat.ne_of_lt (Nat.lt_of_lt_of_le (Heap.lt_size e) (I.ok.cab x c hfn hc)))).trans (I.base.keep b o e n hb hx)
    · obtain ⟨sl, e1⟩ := I.base.slot b o e n hb hx
      exact ⟨sl, (hs.2 b (Nat.ne_of_lt (Nat.lt_of_lt_of_le (Heap.lt_size e) (I.ok.cab x c hfn hc)))).trans e1⟩
    · obtain ⟨o', e1⟩ := I.base.there b o e hx
      exact ⟨o', (hs.2 b (Nat.ne_of_lt (Nat.lt_of_lt_of_le (Heap.lt_size e) (I.ok.cab x c hfn hc)))).trans e1⟩
    · by_cases hj : j = i
      · subst hj
        rw [hi] at e1; cases e1
        rw [List.getElem?_set_self hiσ] at e2
        cases e2
        exact ⟨u, r, .inr ⟨.inl hk, c, hc, hc'⟩⟩
      · rw [List.getElem?_set_ne (Ne.symm hj)] at e2
        obtain ⟨u', r', q⟩ := hl j y v' e1 e2 e3
        refine ⟨u', r', ?_⟩
        rcases q with q | ⟨k, c', e, z'⟩
        · exact .inl q
        · refine .inr ⟨k, c', e, z'.sameBut hs ?_⟩
          rintro rfl
          exact hj (nodup_ix hN e1 (I.ok.inj _ _ _ e hc ▸ hi))
    · by_cases hcc : c' = c
      · subst hcc; exact ⟨_, hc'⟩
      · obtain ⟨w2, z2⟩ := I.cell y c' e
        exact ⟨w2, z2.sameBut hs hcc⟩
    · obtain ⟨e, n, ne, nf, d⟩ := I.pin p hp
      refine ⟨(hs.2 p.1 ?_).trans e, n, ne, nf, d⟩
      intro q
      rw [q, hoc] at e
      have q' : oc = p.2 := Option.some.inj e
      exact d w' (by rw [← q']; exact hocd)
theorem store_ok {M : Model} {A : Around} {E : Value → Shared → Prop} {i : Nat} {x : Str} {v : V} {u : Value} {Q : Unit → Shared → Prop} (I : Inv X pins σ H s) (hN : X.N.Nodup) (hi : X.N[i]? = some x) (hx : Loc X.env.scope x) (r : RelV v u)
    (h : ∀ s', Inv X pins (σ.set i (some v)) H s' → Q () s') (hf : X.fn x = true ∨ X.env.scope.names.lookup x = some .local := by first | exact .inl rfl | exact .inr rfl | assumption) : wpAny M A (storeName X.env x u) Q E s :=
  store_ok2 I hN hi hx r (fun s' I' _ => h s' I') hf
theorem Inv.call' {s' : Shared} {ch : List Addr} (I : Inv X pins σ H s) (ho : s'.os = s.os) (u : Un (frs X.stack) ch H H' s.heap s'.heap) (hok : HOk X.prog X.w H' s'.heap) (hg : AllBare s'.gens)
    (hch : ∀ b ∈ ch, (b ∈ X.ex ∨ X.s₀.heap.objs.size ≤ b) ∧ b ≠ X.env.locals ∧ (∀ x c, X.env.cells.lookup x = some c → c ≠ b) ∧ ∀ p ∈ X.pn ++ pins, p.1 ≠ b) : Inv X pins σ H' s' := by
  obtain ⟨h', g', d', t', o'⟩ := s'
  have e : o' = s.os := ho
  subst e
  exact I.call (g' := g') (t' := t') (d' := d') u hok hg hch
end
abbrev XK := Value → Option Addr → Hp → Prop
abbrev St := List (Option V)
abbrev VK := V → Hp → Prop
abbrev TE := St → Hp → VK → Prop
abbrev TT := St → Hp → (Bool → Hp → Prop) → Prop
abbrev TA := St → Hp → (List V → Hp → Prop) → Prop
structure Ends where
  nx : St → Hp → Prop
  rt : VK
  bk : St → Hp → Prop := fun _ _ => False
  ct : St → Hp → Prop := fun _ _ => False
abbrev TS := Ends → St → Hp → Prop
def EP (X : Cx) (pins : List (Addr × Obj)) (σ : St) (Q : VK) (u : Value) (s' : Shared) : Prop := ∃ v H', Inv X pins σ H' s' ∧ RelV v u ∧ Q v H'
def TP (X : Cx) (pins : List (Addr × Obj)) (σ : St) (Q : Bool → Hp → Prop) (b : Bool) (s' : Shared) : Prop := ∃ H', Inv X pins σ H' s' ∧ Q b H'
def AP (X : Cx) (pins : List (Addr × Obj)) (σ : St) (Q : List V → Hp → Prop) (us : List Value) (s' : Shared) : Prop := ∃ vs H', Inv X pins σ H' s' ∧ Vals vs us ∧ Q vs H'
def SP (X : Cx) (pins : List (Addr × Obj)) (D : Ends) (f : Flow) (s' : Shared) : Prop :=
  match f with
  | .next => ∃ σ' H', Inv X pins σ' H' s' ∧ D.nx σ' H'
  | .brk => ∃ σ' H', Inv X pins σ' H' s' ∧ D.bk σ' H'
  | .cont => ∃ σ' H', Inv X pins σ' H' s' ∧ D.ct σ' H'
  | .ret u => ∃ v σ' H', Inv X pins σ' H' s' ∧ RelV v u ∧ D.rt v H'
def PE (X : Cx) (e : Expr) (t : TE) : Prop :=
  ∀ (pins : List (Addr × Obj)) (s : Shared) (σ : St) (H : Hp) (Q : VK), Inv X pins σ H s → t σ H Q → wpAny (model X.prog X.w) X.A (eval e X.env) (EP X pins σ Q) X.xe s
def PT (X : Cx) (e : Expr) (t : TT) : Prop :=
  ∀ (pins : List (Addr × Obj)) (s : Shared) (σ : St) (H : Hp) (Q : Bool → Hp → Prop), Inv X pins σ H s → t σ H Q → wpAny (model X.prog X.w) X.A (isTrue e X.env (eval e X.env)) (TP X pins σ Q) X.xe s
def PW (X : Cx) (e : Expr) (t : TT) : Prop :=
  ∀ (whole : Sem Value) (pins : List (Addr × Obj)) (s : Shared) (σ : St) (H : Hp) (Q : Bool → Hp → Prop), Inv X pins σ H s → t σ H Q → wpAny (model X.prog X.w) X.A (isTrue e X.env whole) (TP X pins σ Q) X.xe s
theorem PW.pt {X : Cx} {e : Expr} {t : TT} (h : PW X e t) : PT X e t := h _
def PA (X : Cx) (es : List Expr) (t : TA) : Prop :=
  ∀ (pos : Pos) (pins : List (Addr × Obj)) (s : Shared) (σ : St) (H : Hp) (Q : List V → Hp → Prop), Inv X pins σ H s → t σ H Q → wpAny (model X.prog X.w) X.A (spliced (backTo pos (starEach es X.env))) (AP X pins σ Q) X.xe s
def PS (X : Cx) (st : Stmt) (t : TS) : Prop :=
  ∀ (pins : List (Addr × Obj)) (s : Shared) (σ : St) (H : Hp) (D : Ends), Inv X pins σ H s → t D σ H → wpAny (model X.prog X.w) X.A (exec st X.env) (SP X pins D) X.xe s
def PSs (X : Cx) (st : List Stmt) (t : TS) : Prop :=
  ∀ (pins : List (Addr × Obj)) (s : Shared) (σ : St) (H : Hp) (D : Ends), Inv X pins σ H s → t D σ H → wpAny (model X.prog X.w) X.A (execs st X.env) (SP X pins D) X.xe s
theorem thn {α : Type} {t : Sem α} {Q Q' : α → Shared → Prop} {M : Model} {A : Around} {E : Value → Shared → Prop} {s : Shared} (h : wpAny M A t Q E s) (hQ : ∀ a s, Q a s → Q' a s) : wpAny M A t Q' E s := wpAny_mono h hQ fun _ _ x => x
end L2
namespace L2
open PySem PySem.Spec PyProof.Rows
section
variable {X : Cx}
def tVar (i : Nat) : TE := fun σ H Q => ∃ v, σ[i]? = some (some v) ∧ Q v H
def tC (v : V) : TE := fun _ H Q => Q v H
theorem pe_var {i : Nat} {x : Str} {pos : Pos} (hN : X.N[i]? = some x) (hv : Vis X.env.scope x) (hd : (x == ("__debug__" : Str)) = false := by decide) (hcd : (x == ("__classdict__" : Str)) = false := by decide) : PE X (.Name x pos) (tVar i) := by
  intro pins s σ H Q I h
  obtain ⟨v, e, h⟩ := h
  obtain ⟨m, hn, hl⟩ := I.loc
  obtain ⟨u, r, l⟩ := hl i x v hN e hv
  have fin : EP X pins σ Q u s := ⟨v, H, I, r, h⟩
  rcases l with ⟨hk, hm⟩ | ⟨hk, c, hc, hcell⟩
  · exact wpAny_Name (wpAny_loadName_local I.ok.kind hk hn hm fin) hd
  · rcases hk with hk | hk
    · exact wpAny_Name (wpAny_loadName_cell I.ok.kind hk hc hcell fin) hd
    · exact wpAny_Name (wpAny_loadName_free I.ok.kind hk hc hcell fin hcd) hd
theorem pe_int {i j pos} : PE X (.Constant (.int i) j pos) (tC (.int i)) := fun _ _ _ H _ I h => wpAny_Constant_int ⟨.int i, H, I.tok _, ⟨_, rfl⟩, h⟩
theorem pe_bl {b j pos} : PE X (.Constant (.bool b) j pos) (tC (.bl b)) := fun _ _ _ H _ I h => Constant_bool ⟨.bl b, H, I, rfl, h⟩
theorem pe_non {j pos} : PE X (.Constant .none j pos) (tC .non) := fun _ _ _ H _ I h => Constant_none ⟨.non, H, I, rfl, h⟩
theorem pe_str {x j pos} : PE X (.Constant (.str x) j pos) (tC (.str x)) := fun _ _ _ H _ I h => Calls.Constant_str ⟨.str x, H, I.tok _, ⟨_, rfl⟩, h⟩
def Gl (X : Cx) (x : Str) : Prop := X.env.kindOf x = some .globalImplicit
theorem ld_glob {E : Value → Shared → Prop} {pins : List (Addr × Obj)} {s : Shared} {σ : St} {H : Hp} {x : Str} {u : Value} {pos : Pos} {Q : Value → Shared → Prop} (I : Inv X pins σ H s) (hg : Gl X x) (hm : X.mg x = some u) (h : Q u s)
    (hd : (x == ("__debug__" : Str)) = false := by decide) : wpAny (model X.prog X.w) X.A (eval (.Name x pos) X.env) Q E s :=
  Calls.Name_function_global I.ok.kind hg (Calls.loadGlobal_global (by rw [I.ok.glob]; exact I.mod.glob.keeps I.bk) hm h) hd
theorem ld_blt {E : Value → Shared → Prop} {pins : List (Addr × Obj)} {s : Shared} {σ : St} {H : Hp} {x : Str} {u : Value} {pos : Pos} {Q : Value → Shared → Prop} (I : Inv X pins σ H s) (hg : Gl X x) (hm : X.mg x = none) (hv : bootBuiltins x = some u) (h : Q u s)
    (hn : x ≠ "__name__" := by decide) (hd : (x == ("__debug__" : Str)) = false := by decide) : wpAny (model X.prog X.w) X.A (eval (.Name x pos) X.env) Q E s := by
  obtain ⟨mb, h1, h2⟩ := I.mod.blt
  exact Calls.Name_function_global I.ok.kind hg (Calls.loadGlobal_builtin (by rw [I.ok.glob]; exact I.mod.glob.keeps I.bk) hm (by rw [I.ok.blt]; exact h1.keeps I.bk) ((h2 x hn).trans hv) h) hd
theorem pe_glob {x : Str} {v : V} {u : Value} {pos : Pos} (hg : Gl X x) (hm : X.mg x = some u) (r : RelV v u) (hd : (x == ("__debug__" : Str)) = false := by decide) : PE X (.Name x pos) (tC v) :=
  fun _ _ _ H _ I h => ld_glob I hg hm ⟨v, H, I, r, h⟩ hd
theorem pe_bltn {x : Str} {v : V} {u : Value} {pos : Pos} (hg : Gl X x) (hm : X.mg x = none) (hv : bootBuiltins x = some u) (r : RelV v u) (hn : x ≠ "__name__" := by decide) (hd : (x == ("__debug__" : Str)) = false := by decide) : PE X (.Name x pos) (tC v) :=
  fun _ _ _ H _ I h => ld_blt I hg hm hv ⟨v, H, I, r, h⟩ hn hd
variable {a b : Expr} {ta tb : TE} {pos : Pos}
def tB (t : TE) : TT := fun σ H Q => t σ H fun x H1 => ∃ c, x = .bl c ∧ Q c H1
variable {tA tB' : TT} {rest : List Expr}
def tAnd (t u : TT) : TT := fun σ H Q => t σ H fun c H1 => if c = true then u σ H1 Q else Q false H1
def tOr (t u : TT) : TT := fun σ H Q => t σ H fun c H1 => if c = true then Q true H1 else u σ H1 Q
def tNot (t : TT) : TT := fun σ H Q => t σ H fun c H1 => Q (!c) H1
theorem pw_and1 (ha : PT X a tA) : PW X (.BoolOp .And [a] pos) tA := by
  intro wh pins s σ H Q I h
  refine isTrue_and (thn (ha pins s σ H Q I h) fun c s1 e => ?_)
  cases c with
  | true => exact isTrue_and_nil e
  | false => exact e
theorem pw_or1 (ha : PT X a tA) : PW X (.BoolOp .Or [a] pos) tA := by
  intro wh pins s σ H Q I h
  refine isTrue_or (thn (ha pins s σ H Q I h) fun c s1 e => ?_)
  cases c with
  | false => exact isTrue_or_nil e
  | true => exact e
theorem pw_and (ha : PT X a tA) (hb : PW X (.BoolOp .And (b :: rest) pos) tB') : PW X (.BoolOp .And (a :: b :: rest) pos) (tAnd tA tB') := by
  intro wh pins s σ H Q I h
  refine isTrue_and (thn (ha pins s σ H _ I h) fun c s1 ⟨H1, I1, q1⟩ => ?_)
  cases c with
  | true => exact hb wh pins s1 σ H1 Q I1 q1
  | false => exact ⟨H1, I1, q1⟩
theorem pw_or (ha : PT X a tA) (hb : PW X (.BoolOp .Or (b :: rest) pos) tB') : PW X (.BoolOp .Or (a :: b :: rest) pos) (tOr tA tB') := by
  intro wh pins s σ H Q I h
  refine isTrue_or (thn (ha pins s σ H _ I h) fun c s1 ⟨H1, I1, q1⟩ => ?_)
  cases c with
  | true => exact ⟨H1, I1, q1⟩
  | false => exact hb wh pins s1 σ H1 Q I1 q1
theorem pt_not (ha : PT X a tA) : PT X (.UnaryOp .Not a pos) (tNot tA) := by
  intro pins s σ H Q I h
  exact isTrue_not (ha pins s σ H (fun c H1 => Q (!c) H1) I h)
def tAndV (ta tb : TE) : TE := fun σ H Q => ta σ H fun x H1 => ∃ c, x = .bl c ∧ if c = true then tb σ H1 Q else Q (.bl false) H1
def tOrV (ta tb : TE) : TE := fun σ H Q => ta σ H fun x H1 => ∃ c, x = .bl c ∧ if c = true then Q (.bl true) H1 else tb σ H1 Q
def tNotV (ta : TE) : TE := fun σ H Q => ta σ H fun x H1 => ∃ c, x = .bl c ∧ Q (.bl (!c)) H1
theorem pe_one {op} {t : TE} (h : PE X a t) : PE X (.BoolOp op [a] pos) t := fun pins s σ H Q I hw => BoolOp_one (h pins s σ H Q I hw)
theorem pe_and (ha : PE X a ta) (hb : PE X (.BoolOp .And (b :: rest) pos) tb) : PE X (.BoolOp .And (a :: b :: rest) pos) (tAndV ta tb) := by
  intro pins s σ H Q I h
  refine BoolOp_and (thn (ha pins s σ H _ I h) fun v s1 ⟨x, H1, I1, r1, q1⟩ => ?_)
  obtain ⟨c, rfl, q1⟩ := q1
  cases r1
  refine wpAny_truthy_bool ?_
  cases c with
  | true => exact hb pins s1 σ H1 Q I1 q1
  | false => exact ⟨.bl false, H1, I1, rfl, q1⟩
theorem pe_or (ha : PE X a ta) (hb : PE X (.BoolOp .Or (b :: rest) pos) tb) : PE X (.BoolOp .Or (a :: b :: rest) pos) (tOrV ta tb) := by
  intro pins s σ H Q I h
  refine BoolOp_or (thn (ha pins s σ H _ I h) fun v s1 ⟨x, H1, I1, r1, q1⟩ => ?_)
  obtain ⟨c, rfl, q1⟩ := q1
  cases r1
  refine wpAny_truthy_bool ?_
  cases c with
  | false => exact hb pins s1 σ H1 Q I1 q1
  | true => exact ⟨.bl true, H1, I1, rfl, q1⟩
theorem pe_not (ha : PE X a ta) : PE X (.UnaryOp .Not a pos) (tNotV ta) := by
  intro pins s σ H Q I h
  refine UnaryOp_ (thn (ha pins s σ H _ I h) fun v s1 ⟨x, H1, I1, r1, q1⟩ => ?_)
  obtain ⟨c, rfl, q1⟩ := q1
  cases r1
  exact not_of (wpAny_truthy_bool ⟨.bl (!c), H1, I1, rfl, q1⟩)
def tIf (t : TT) (ta tb : TE) : TE := fun σ H Q => t σ H fun c H1 => if c = true then ta σ H1 Q else tb σ H1 Q
theorem pe_ifExp {c : Expr} (hc : PT X c tA) (ha : PE X a ta) (hb : PE X b tb) : PE X (.IfExp c a b pos) (tIf tA ta tb) := by
  intro pins s σ H Q I h
  refine wpAny_IfExp (thn (hc pins s σ H _ I h) fun d s1 ⟨H1, I1, q1⟩ => ?_)
  cases d with
  | true => exact ha pins s1 σ H1 Q I1 q1
  | false => exact hb pins s1 σ H1 Q I1 q1
end
end L2
namespace L2
open PySem PySem.Spec PyProof.Rows
def SqL (K : PySem.W.Frag) (H : Hp) (a : Addr) (xs : List V) : Prop :=
  Rd H a (.lst xs) ∨
    ∃ (o : Obj) (its : Array Value) (n : Nat), K.lookup a = some o ∧ o.cls = .type "list" ∧ o.dict = none ∧ o.data = .seq its n ∧ its.size ≤ sizeLine ∧ Vals xs its.toList
def SqT (K : PySem.W.Frag) (H : Hp) (a : Addr) (xs : List V) : Prop :=
  Rd H a (.tup xs) ∨
    ∃ (o : Obj) (its : Array Value) (n : Nat), K.lookup a = some o ∧ o.cls = .type "tuple" ∧ o.data = .seq its n ∧ its.size ≤ sizeLine ∧ Vals xs its.toList
def absV : Value → Option V
  | .none => some .non
  | .bool b => some (.bl b)
  | .int i _ => some (.int i)
  | .str x _ => some (.str x)
  | .bytes b _ => some (.byt b)
  | .float b _ => some (.flt b)
  | .ref a => some (.ref a)
  | .type n => some (.ty n)
  | _ => none
theorem RelV.abs {x : V} {u : Value} (r : RelV x u) : absV u = some x := by
  cases x with
  | non => cases r; rfl
  | bl _ => cases r; rfl
  | int _ => obtain ⟨t, rfl⟩ := r; rfl
  | str _ => obtain ⟨t, rfl⟩ := r; rfl
  | byt _ => obtain ⟨t, rfl⟩ := r; rfl
  | flt _ => obtain ⟨t, rfl⟩ := r; rfl
  | ref _ => cases r; rfl
  | ty _ => cases r; rfl
theorem RelV.inj {x y : V} {u : Value} (r : RelV x u) (q : RelV y u) : x = y := Option.some.inj (r.abs.symm.trans q.abs)
theorem Vals.inj : ∀ {xs ys : List V} {us : List Value}, Vals xs us → Vals ys us → xs = ys
  | _, _, _, .nil, .nil => rfl
  | _, _, _, .cons r t, .cons r' t' => by rw [r.inj r', Vals.inj t t']
section
variable {X : Cx} {pins : List (Addr × Obj)} {σ : St} {H : Hp} {s : Shared} {a : Addr} {xs ys : List V}
theorem SqL.of {K : PySem.W.Frag} (h : H a = some (.lst xs)) : SqL K H a xs := .inl (.inl h)
theorem SqT.of {K : PySem.W.Frag} (h : H a = some (.tup xs)) : SqT K H a xs := .inl (.inl h)
theorem Inv.list (I : Inv X pins σ H s) (h : SqL X.K H a xs) : ∃ its : List Value, Vals xs its ∧ PlainL s.heap a its.toArray ∧ xs.length ≤ sizeLine := by
  rcases h with h | ⟨o, its, n, hk, hc, hd, hs, hz, r⟩
  · obtain ⟨z, its, n, r, e⟩ := h.ok I.hok
    exact ⟨its, r, ⟨_, n, e, rfl, rfl, rfl⟩, z⟩
  · refine ⟨its.toList, r, ⟨o, n, I.kIn a o hk, hc, hd, by simpa using hs⟩, ?_⟩
    have e := r.length
    simp only [Array.length_toList] at e
    omega
theorem Inv.tuple (I : Inv X pins σ H s) (h : SqT X.K H a xs) : ∃ its : List Value, Vals xs its ∧ IsTup s.heap a its.toArray ∧ xs.length ≤ sizeLine := by
  rcases h with h | ⟨o, its, n, hk, hc, hs, hz, r⟩
  · obtain ⟨z, its, r, p⟩ := h.ok I.hok
    exact ⟨its, r, p, z⟩
  · refine ⟨its.toList, r, ⟨o, I.kIn a o hk, hc, n, by simpa using hs⟩, ?_⟩
    have e := r.length
    simp only [Array.length_toList] at e
    omega
theorem Inv.list_inj (I : Inv X pins σ H s) (h : SqL X.K H a xs) (h' : SqL X.K H a ys) : xs = ys := by
  obtain ⟨its, r, ⟨o, n, e, _, _, d⟩, _⟩ := I.list h
  obtain ⟨its', r', ⟨o', n', e', _, _, d'⟩, _⟩ := I.list h'
  rw [e] at e'; cases e'
  rw [d] at d'
  injection d' with d1 _
  have : its = its' := by simpa using congrArg Array.toList d1
  subst this
  exact r.inj r'
theorem Inv.tuple_inj (I : Inv X pins σ H s) (h : SqT X.K H a xs) (h' : SqT X.K H a ys) : xs = ys := by
  obtain ⟨its, r, ⟨o, e, _, n, d⟩, _⟩ := I.tuple h
  obtain ⟨its', r', ⟨o', e', _, n', d'⟩, _⟩ := I.tuple h'
  rw [e] at e'; cases e'
  rw [d] at d'
  injection d' with d1 _
  have : its = its' := by simpa using congrArg Array.toList d1
  subst this
  exact r.inj r'
end
abbrev Cx.wish (X : Cx) (E : Value → Shared → Prop) : Cx := { X with xe := E }
abbrev Cx.nox (X : Cx) : Cx := X.wish fun _ _ => False
theorem Cx.Ok.wish {X : Cx} (ok : X.Ok) (E : Value → Shared → Prop) : (X.wish E).Ok :=
  ⟨ok.mod, ok.kind, ok.glob, ok.blt, ok.above, ok.inj, ok.has, ok.cab, ok.hd, ok.frames, ok.stk, ok.exf, ok.bs, ok.bsz, ok.noex, ok.exfs, ok.funs, ok.frf⟩
theorem Cx.Ok.unwish {X : Cx} {E : Value → Shared → Prop} (ok : (X.wish E).Ok) : X.Ok :=
  ⟨ok.mod, ok.kind, ok.glob, ok.blt, ok.above, ok.inj, ok.has, ok.cab, ok.hd, ok.frames, ok.stk, ok.exf, ok.bs, ok.bsz, ok.noex, ok.exfs, ok.funs, ok.frf⟩
section
variable {X : Cx} {pins : List (Addr × Obj)} {σ : St} {H : Hp} {s : Shared} {E : Value → Shared → Prop}
theorem Inv.wish (I : Inv X pins σ H s) (E : Value → Shared → Prop) : Inv (X.wish E) pins σ H s := ⟨I.ok.wish E, I.os, I.bare, I.base, I.loc, I.cell, I.free, I.freeC, I.pin, I.hok, I.len⟩
theorem Inv.unwish (I : Inv (X.wish E) pins σ H s) : Inv X pins σ H s := ⟨I.ok.unwish, I.os, I.bare, I.base, I.loc, I.cell, I.free, I.freeC, I.pin, I.hok, I.len⟩
theorem SP.unwish {D : Ends} {f : Flow} {s' : Shared} (h : SP (X.wish E) pins D f s') : SP X pins D f s' := by
  cases f with
  | next => obtain ⟨σ', H', I, q⟩ := h; exact ⟨σ', H', I.unwish, q⟩
  | brk => obtain ⟨σ', H', I, q⟩ := h; exact ⟨σ', H', I.unwish, q⟩
  | cont => obtain ⟨σ', H', I, q⟩ := h; exact ⟨σ', H', I.unwish, q⟩
  | ret u => obtain ⟨v, σ', H', I, r, q⟩ := h; exact ⟨v, σ', H', I.unwish, r, q⟩
theorem PE.nox {e : Expr} {t : TE} (h : PE X.nox e t) : PE X e t := fun pins s σ H Q I hw =>
  wpAny_mono (h pins s σ H Q (I.wish _) hw) (fun _ _ ⟨v, H', I', r, q⟩ => ⟨v, H', I'.unwish, r, q⟩) fun _ _ z => False.elim z
theorem PSs.nox {st : List Stmt} {t : TS} (h : PSs X.nox st t) : PSs X st t := fun pins s σ H D I hw =>
  wpAny_mono (h pins s σ H D (I.wish _) hw) (fun _ _ q => q.unwish) fun _ _ z => False.elim z
end
section
variable {X : Cx} {st : Stmt} {rest : List Stmt} {t u : TS} {e : Expr} {te : TE} {pos : Pos}
def tNext : TS := fun D σ H => D.nx σ H
def tSeq (t u : TS) : TS := fun D σ H => t { D with nx := u D } σ H
theorem pss_nil : PSs X [] tNext := fun _ _ σ H _ I h => wpAny_execs_nil ⟨σ, H, I, h⟩
theorem pss_cons (h1 : PS X st t) (h2 : PSs X rest u) : PSs X (st :: rest) (tSeq t u) := by
  intro pins s σ H D I h
  refine wpAny_execs_cons (thn (h1 pins s σ H { D with nx := u D } I h) fun f s1 q => ?_)
  cases f with
  | next =>
    obtain ⟨σ', H', I', q⟩ := q
    exact h2 pins s1 σ' H' D I' q
  | ret v => exact q
  | brk => exact q
  | cont => exact q
theorem pss_one (h1 : PS X st t) : PSs X [st] t := by
  intro pins s σ H D I h
  refine wpAny_execs_cons (thn (h1 pins s σ H D I h) fun f s1 q => ?_)
  cases f with
  | next => exact wpAny_execs_nil q
  | ret v => exact q
  | brk => exact q
  | cont => exact q
theorem Inv.quiet {pins : List (Addr × Obj)} {σ : St} {H : Hp} {s : Shared} (I : Inv X pins σ H s) : interactive X.env = false := by simp [interactive, I.ok.kind]
def tDrop (te : TE) : TS := fun D σ H => te σ H fun _ H1 => D.nx σ H1
theorem ps_expr (he : PE X e te) (hs : swapsWith e none pos.line X.env = pure false := by rfl) : PS X (.Expr e pos) (tDrop te) := by
  intro pins s σ H D I h
  exact wpAny_Expr_any (thn (he pins s σ H _ I h) fun v s1 ⟨x, H1, I1, r1, q1⟩ => ⟨σ, H1, I1, q1⟩) I.quiet hs
def tRet (te : TE) : TS := fun D σ H => te σ H D.rt
theorem ps_ret (he : PE X e te) : PS X (.Return (some e) pos) (tRet te) := by
  intro pins s σ H D I h
  exact wpAny_Return_some (thn (he pins s σ H _ I h) fun v s1 ⟨x, H1, I1, r1, q1⟩ => ⟨x, σ, H1, I1, r1, q1⟩)
def tIfS (c : TT) (t u : TS) : TS := fun D σ H => c σ H fun b H1 => if b = true then t D σ H1 else u D σ H1
theorem ps_if {c : Expr} {a b : List Stmt} {tc : TT} (hc : PT X c tc) (ha : PSs X a t) (hb : PSs X b u) : PS X (.If c a b pos) (tIfS tc t u) := by
  intro pins s σ H D I h
  refine wpAny_If (thn (hc pins s σ H _ I h) fun d s1 ⟨H1, I1, q1⟩ => ?_)
  cases d with
  | true => exact ha pins s1 σ H1 D I1 q1
  | false => exact hb pins s1 σ H1 D I1 q1
def tNever : TS := fun _ _ _ => False
theorem ps_never : PS X st tNever := fun _ _ _ _ _ _ h => h.elim
theorem pss_never {sts : List Stmt} : PSs X sts tNever := fun _ _ _ _ _ _ h => h.elim
end
abbrev TG := V → St → Hp → (St → Hp → Prop) → Prop
def PG (X : Cx) (target : Expr) (t : TG) : Prop :=
  ∀ (pins : List (Addr × Obj)) (s : Shared) (σ : St) (H : Hp) (v : V) (u : Value) (Q : St → Hp → Prop), Inv X pins σ H s → RelV v u → t v σ H Q →
    wpAny (model X.prog X.w) X.A (assign target X.env u) (fun _ s' => ∃ σ' H', Inv X pins σ' H' s' ∧ Q σ' H') X.xe s
section
variable {X : Cx} {pos : Pos}
def gName (i : Nat) : TG := fun v σ H Q => Q (σ.set i (some v)) H
theorem pg_name {i : Nat} {x : Str} (hN : X.N.Nodup) (hi : X.N[i]? = some x) (hx : Loc X.env.scope x) (hf : X.fn x = true ∨ X.env.scope.names.lookup x = some .local := by first | exact .inl rfl | exact .inr rfl | assumption) : PG X (.Name x pos) (gName i) := by
  intro pins s σ H v u Q I r h
  exact wpAny_assign_Name (store_ok I hN hi hx r (fun s' I' => ⟨_, H, I', h⟩) hf)
def tAsg (te : TE) (g : TG) : TS := fun D σ H => te σ H fun x H1 => g x σ H1 D.nx
theorem ps_set {i : Nat} {x : Str} {e : Expr} {te : TE} {pos' : Pos} (hN : X.N.Nodup) (hi : X.N[i]? = some x) (hx : Loc X.env.scope x) (he : PE X e te) (hs : swapsWith e (some (.Name x pos')) pos.line X.env = pure false := by rfl) (hf : X.fn x = true ∨ X.env.scope.names.lookup x = some .local := by first | exact .inl rfl | exact .inr rfl | assumption) :
    PS X (.Assign [.Name x pos'] e pos) (tAsg te (gName i)) := by
  intro pins s σ H D I h
  refine wpAny_Assign_Name (thn (he pins s σ H _ I h) fun v s1 ⟨y, H1, I1, r1, q1⟩ => ?_) hs
  exact store_ok I1 hN hi hx r1 (fun s2 I2 => ⟨_, H1, I2, q1⟩) hf
end
section
variable {X : Cx} {pos : Pos}
end
structure It where
  go : Nat → Hp → Prop
  yld : Nat → Hp → V → Hp → Prop
  stop : Nat → Hp → Prop
def FpOk (X : Cx) (pins : List (Addr × Obj)) (H : Hp) (b : Addr) : Prop :=
  H b = none ∧ b ≠ X.env.locals ∧ b ∉ X.fs ∧ (b ∈ X.ex ∨ X.s₀.heap.objs.size ≤ b) ∧ (∀ x c, X.env.cells.lookup x = some c → c ≠ b) ∧ ∀ p ∈ X.pn ++ pins, p.1 ≠ b
theorem Inv.fpOk {X : Cx} {pins : List (Addr × Obj)} {σ : St} {H H' : Hp} {s : Shared} {b : Addr} (I : Inv X pins σ H s) (hb : s.heap.objs.size ≤ b) (hn : H' b = none) : FpOk X pins H' b := by
  refine ⟨hn, Nat.ne_of_gt (Nat.lt_of_lt_of_le I.lt hb), I.nofs hb, .inr (Nat.le_trans I.sz hb), fun x c e z => ?_, fun p hp z => ?_⟩
  · obtain ⟨v, q⟩ := I.cell x c e
    exact absurd (Nat.lt_of_lt_of_le q.lt (by rw [z]; exact hb)) (Nat.lt_irrefl _)
  · exact absurd (Nat.lt_of_lt_of_le (Heap.lt_size (I.pin p hp).1) (by rw [z]; exact hb)) (Nat.lt_irrefl _)
structure Turn (P : Program) (w : World) (K : PySem.W.Frag) (tg : Expr) (J : It) (fp : List Addr) (it : Addr) (tn : Nat → Heap → Prop) : Prop where
  mem : it ∈ fp
  obj : ∀ i h, tn i h → ∀ b ∈ fp, ∃ o, h.get? b = some o ∧ ∀ v, o.data ≠ .cell v
  keep : ∀ i h h', tn i h → (∀ b ∈ fp, ∀ o, h.get? b = some o → h'.get? b = some o) → tn i h'
  item : ∀ (X : Cx), X.prog = P → X.w = w → X.K = K → X.calm = true → ∀ (i : Nat) (pins : List (Addr × Obj)) (s : Shared) (σ : St) (H : Hp) (E : Value → Shared → Prop), Inv X pins σ H s → (∀ b ∈ fp, FpOk X pins H b) → tn i s.heap → J.go i H →
    wpAny (model P w) X.A (pyNext (.ref it)) (fun r s1 => ∃ u, r = some u ∧
      wpAny (model P w) X.A (letOwnedTupleGo tg (.ref it) u) (fun _ s2 => ∃ x H', Inv X pins σ H' s2 ∧ RelV x u ∧ J.yld i H x H' ∧ tn (i + 1) s2.heap ∧ ∀ b ∈ fp, H' b = none) E s1) E s
  done : ∀ (X : Cx), X.prog = P → X.w = w → X.K = K → X.calm = true → ∀ (i : Nat) (pins : List (Addr × Obj)) (s : Shared) (σ : St) (H : Hp) (E : Value → Shared → Prop), Inv X pins σ H s → (∀ b ∈ fp, FpOk X pins H b) → tn i s.heap → J.stop i H →
    wpAny (model P w) X.A (pyNext (.ref it)) (fun r s1 => r = none ∧ Inv X pins σ H s1) E s
  self : ∀ (A : Around) (i : Nat) (s : Shared) (Q : Value → Shared → Prop) (E : Value → Shared → Prop), tn i s.heap → Q (.ref it) s → wpAny (model P w) A (pyIter (.ref it)) Q E s
abbrev TI := St → Hp → (It → Hp → Prop) → Prop
def PIE (X : Cx) (pins : List (Addr × Obj)) (σ : St) (tg : Expr) (R : It → Hp → Prop) (itv : Value) (s2 : Shared) : Prop :=
  ∃ (it : Addr) (fp : List Addr) (tn : Nat → Heap → Prop) (J : It) (H' : Hp), itv = .ref it ∧ Inv X pins σ H' s2 ∧ Turn X.prog X.w X.K tg J fp it tn ∧ tn 0 s2.heap ∧ (∀ b ∈ fp, FpOk X pins H' b) ∧ R J H'
def PI (X : Cx) (tg iter : Expr) (wi : TI) : Prop :=
  ∀ (pins : List (Addr × Obj)) (s : Shared) (σ : St) (H : Hp) (R : It → Hp → Prop), Inv X pins σ H s → wi σ H R →
    wpAny (model X.prog X.w) X.A (eval iter X.env) (fun v s1 => wpAny (model X.prog X.w) X.A (pyIter v) (PIE X pins σ tg R) X.xe s1) X.xe s
theorem go_of {M : Model} {A : Around} {E : Value → Shared → Prop} {s : Shared} {tg : Expr} {it : Addr} {u : Value} {o : Obj} {n : String} {vs : Array Value} {Q : Unit → Shared → Prop} (ho : s.heap.get? it = some o) (hc : o.cls = .type n) (hd : o.data = .fields vs)
    (hn : ["enumerate", "zip", "dict_itemiterator", "dict_reverseitemiterator", "odict_iterator", "itertools.zip_longest", "itertools.pairwise"].contains n = false) (hQ : Q () s) : wpAny M A (letOwnedTupleGo tg (.ref it) u) Q E s := by
  unfold letOwnedTupleGo
  cases tg <;> first
    | exact wpAny_pure hQ
    | (cases u <;> first
        | exact wpAny_pure hQ
        | (refine wpAny_bind (wpAny_load ho ?_)
           rw [hc, hd]
           show wpAny M A (if (["enumerate", "zip", "dict_itemiterator", "dict_reverseitemiterator", "odict_iterator", "itertools.zip_longest", "itertools.pairwise"].contains n && vs[0]? == some (rawInt _)) = true then _ else _) Q E s
           rw [if_neg (by intro h; rw [hn, Bool.false_and] at h; cases h)]
           exact wpAny_pure hQ))
def Itl (K : PySem.W.Frag) (a : Addr) : It :=
  ⟨fun i H => ∃ xs x, SqL K H a xs ∧ xs[i]? = some x, fun i H x H' => H' = H ∧ ∀ xs, SqL K H a xs → xs[i]? = some x, fun i H => ∃ xs, SqL K H a xs ∧ xs.length ≤ i⟩
def Itt (K : PySem.W.Frag) (a : Addr) : It :=
  ⟨fun i H => ∃ xs x, SqT K H a xs ∧ xs[i]? = some x, fun i H x H' => H' = H ∧ ∀ xs, SqT K H a xs → xs[i]? = some x, fun i H => ∃ xs, SqT K H a xs ∧ xs.length ≤ i⟩
def Itr (lo : Int) (n : Nat) : It := ⟨fun i _ => i < n, fun i H x H' => H' = H ∧ x = .int (lo + i), fun i _ => n ≤ i⟩
theorem turn_list {P : Program} {w : World} {K : PySem.W.Frag} {tg : Expr} (a it : Addr) : Turn P w K tg (Itl K a) [it] it (fun i h => h.IsListIter it a i) where
  mem := by simp
  obj := fun i h st b hb => by
    have e : b = it := by simpa using hb
    subst e
    obtain ⟨o, e, c, d⟩ := st
    exact ⟨o, e, fun v z => by rw [d] at z; cases z⟩
  keep := fun i h h' st k => st.at fun o e => k it (by simp) o e
  item := by
    intro X hP hw hK hc i pins s σ H E I hf st hg
    subst hP hw hK
    obtain ⟨xs, x, hq, hx⟩ := hg
    obtain ⟨its, rv, p, hz⟩ := I.list hq
    obtain ⟨u, hu, ru⟩ := rv.get hx
    obtain ⟨f0, f1, f2, f3, f4, f5⟩ := hf it (by simp)
    refine wpAny_pyNext_list_item st p.isList (x := u) (by simpa using hu) fun h' st' sb => ?_
    have I1 : Inv X pins σ H { s with heap := h' } := I.turned (t' := s.toks) (fun b o hb e => (sb.2 b hb).trans e) f0 f1 f3 f4 f5
    obtain ⟨o, e, c, d⟩ := id st'
    exact ⟨u, rfl, go_of (s := { s with heap := h' }) e c d (by decide) ⟨x, H, I1, ru, ⟨rfl, fun ys hy => by rw [I.list_inj hy hq]; exact hx⟩, st', fun b hb => (hf b hb).1⟩⟩
  done := by
    intro X hP hw hK hc i pins s σ H E I hf st hg
    subst hP hw hK
    obtain ⟨xs, hq, hx⟩ := hg
    obtain ⟨its, rv, p, hz⟩ := I.list hq
    obtain ⟨f0, f1, f2, f3, f4, f5⟩ := hf it (by simp)
    have hl := rv.length
    exact wpAny_pyNext_list_end (I.ok.hd hc) st p.isList (by simp; omega) fun h' eb => ⟨rfl, I.turned (t' := s.toks) (fun b o hb e => eb b o hb e) f0 f1 f3 f4 f5⟩
  self := fun _ _ _ _ _ st h => wpAny_pyIter_listiter st h
theorem turn_tuple {P : Program} {w : World} {K : PySem.W.Frag} {tg : Expr} (a it : Addr) : Turn P w K tg (Itt K a) [it] it (fun i h => h.IsTupleIter it a i) where
  mem := by simp
  obj := fun i h st b hb => by
    have e : b = it := by simpa using hb
    subst e
    obtain ⟨o, e, c, d⟩ := st
    exact ⟨o, e, fun v z => by rw [d] at z; cases z⟩
  keep := fun i h h' st k => st.at fun o e => k it (by simp) o e
  item := by
    intro X hP hw hK hc i pins s σ H E I hf st hg
    subst hP hw hK
    obtain ⟨xs, x, hq, hx⟩ := hg
    obtain ⟨its, rv, p, hz⟩ := I.tuple hq
    obtain ⟨u, hu, ru⟩ := rv.get hx
    obtain ⟨f0, f1, f2, f3, f4, f5⟩ := hf it (by simp)
    refine wpAny_pyNext_tuple_item st (show s.heap.IsTuple a its.toArray from p) (x := u) (by simpa using hu) fun h' st' sb => ?_
    have I1 : Inv X pins σ H { s with heap := h' } := I.turned (t' := s.toks) (fun b o hb e => (sb.2 b hb).trans e) f0 f1 f3 f4 f5
    obtain ⟨o, e, c, d⟩ := id st'
    exact ⟨u, rfl, go_of (s := { s with heap := h' }) e c d (by decide) ⟨x, H, I1, ru, ⟨rfl, fun ys hy => by rw [I.tuple_inj hy hq]; exact hx⟩, st', fun b hb => (hf b hb).1⟩⟩
  done := by
    intro X hP hw hK hc i pins s σ H E I hf st hg
    subst hP hw hK
    obtain ⟨xs, hq, hx⟩ := hg
    obtain ⟨its, rv, p, hz⟩ := I.tuple hq
    obtain ⟨f0, f1, f2, f3, f4, f5⟩ := hf it (by simp)
    have hl := rv.length
    exact wpAny_pyNext_tuple_end (I.ok.hd hc) st (show s.heap.IsTuple a its.toArray from p) (by simp; omega) fun h' eb => ⟨rfl, I.turned (t' := s.toks) (fun b o hb e => eb b o hb e) f0 f1 f3 f4 f5⟩
  self := fun _ _ _ _ _ st h => wpAny_pyIter_tupleiter st h
theorem turn_range {P : Program} {w : World} {K : PySem.W.Frag} {tg : Expr} (it : Addr) (lo : Int) (n : Nat) : Turn P w K tg (Itr lo n) [it] it (fun i h => IsRangeIter h it (lo + (i : Nat) * 1) ((n : Int) - (i : Nat)) 1) where
  mem := by simp
  obj := fun i h st b hb => by
    have e : b = it := by simpa using hb
    subst e
    exact ⟨_, st, fun v z => by
      have z' : Data.fields _ = Data.cell v := z
      cases z'⟩
  keep := fun i h h' st k => k it (by simp) _ st
  item := by
    intro X hP hw hK hc i pins s σ H E I hf st hg
    subst hP hw hK
    obtain ⟨f0, f1, f2, f3, f4, f5⟩ := hf it (by simp)
    have W := Walks.range (prog := X.prog) (w := X.w) (I.ok.hd hc) it lo 1 n
    refine W.item i s _ _ hg st fun v h' tk hv st' kk => ?_
    obtain ⟨t, rfl⟩ := hv
    have I1 : Inv X pins σ H { s with heap := h', toks := tk } := I.turned (fun b o hb e => kk b o (by simpa using hb) e) f0 f1 f3 f4 f5
    refine ⟨_, rfl, go_of (s := { s with heap := h', toks := tk }) (n := "range_iterator") st' rfl rfl (by decide) ⟨.int (lo + i), H, I1, ⟨t, ?_⟩, ⟨rfl, rfl⟩, st', fun b hb => (hf b hb).1⟩⟩
    rw [Int.mul_one]
  done := by
    intro X hP hw hK hc i pins s σ H E I hf st hg
    subst hP hw hK
    obtain ⟨f0, f1, f2, f3, f4, f5⟩ := hf it (by simp)
    exact wpAny_pyNext_range_end (I.ok.hd hc) st (by have : n ≤ i := hg; omega) fun h' eb => ⟨rfl, I.turned (t' := s.toks) (fun b o hb e => eb b o hb e) f0 f1 f3 f4 f5⟩
  self := fun _ _ _ _ _ st h => wpAny_pyIter_rangeiter st h
end L2
namespace L2
open PySem PySem.Spec PyProof.Rows
section
variable {X : Cx} {tg : Expr}
def iList (K : PySem.W.Frag) (tl : TE) : TI := fun σ H R => tl σ H fun x H1 => ∃ a, x = .ref a ∧ (∃ xs, SqL K H1 a xs) ∧ R (Itl K a) H1
def iTup (K : PySem.W.Frag) (tl : TE) : TI := fun σ H R => tl σ H fun x H1 => ∃ a, x = .ref a ∧ (∃ xs, SqT K H1 a xs) ∧ R (Itt K a) H1
theorem pi_list {l : Expr} {tl : TE} (hl : PE X l tl) : PI X tg l (iList X.K tl) := by
  intro pins s σ H R I h
  refine thn (hl pins s σ H _ I h) fun v s1 ⟨x, H1, I1, r1, q1⟩ => ?_
  obtain ⟨a, e, ⟨xs, hq⟩, q⟩ := q1
  subst e
  cases r1
  obtain ⟨its, rv, p, hz⟩ := I1.list hq
  refine wpAny_pyIter_list p.isList ?_
  refine ⟨s1.heap.objs.size, [s1.heap.objs.size], _, _, H1, rfl, I1.kept (t' := s1.toks) fun b o e => Heap.get?_push_of_some _ e, turn_list a _, ⟨_, Heap.get?_push_size _ rfl, rfl, rfl⟩, fun b hb => ?_, q⟩
  have e : b = s1.heap.objs.size := by simpa using hb
  subst e
  exact I1.fpOk (Nat.le_refl _) (I1.hok.fresh (Nat.le_refl _))
theorem pi_tup {l : Expr} {tl : TE} (hl : PE X l tl) : PI X tg l (iTup X.K tl) := by
  intro pins s σ H R I h
  refine thn (hl pins s σ H _ I h) fun v s1 ⟨x, H1, I1, r1, q1⟩ => ?_
  obtain ⟨a, e, ⟨xs, hq⟩, q⟩ := q1
  subst e
  cases r1
  obtain ⟨its, rv, p, hz⟩ := I1.tuple hq
  refine wpAny_pyIter_tuple (show s1.heap.IsTuple a its.toArray from p) ?_
  refine ⟨s1.heap.objs.size, [s1.heap.objs.size], _, _, H1, rfl, I1.kept (t' := s1.toks) fun b o e => Heap.get?_push_of_some _ e, turn_tuple a _, ⟨_, Heap.get?_push_size _ rfl, rfl, rfl⟩, fun b hb => ?_, q⟩
  have e : b = s1.heap.objs.size := by simpa using hb
  subst e
  exact I1.fpOk (Nat.le_refl _) (I1.hok.fresh (Nat.le_refl _))
theorem range_it {pins : List (Addr × Obj)} {σ : St} {H : Hp} {s : Shared} {R : It → Hp → Prop} {E : Value → Shared → Prop} {lo hi : Int} {t u v : Tok} {tk : Nat} (I : Inv X pins σ H s) (h1 : -(2 ^ 62) ≤ lo) (h2 : lo < 2 ^ 62) (h3 : -(2 ^ 62) ≤ hi) (h4 : hi < 2 ^ 62)
    (q : R (Itr lo (hi - lo).toNat) H) : wpAny (model X.prog X.w) X.A (pyIter (.ref s.heap.objs.size)) (PIE X pins σ tg R) E { s with heap := s.heap.push { cls := .type "range", data := .fields #[.int lo t, .int hi u, .int 1 v] }, toks := tk } := by
  refine wpAny_pyIter_range (IsRange.new ..) (small_one h1 h2 h3 h4) ?_
  have I1 : Inv X pins σ H { s with heap := s.heap.push { cls := .type "range", data := .fields #[.int lo t, .int hi u, .int 1 v] }, toks := tk } := I.kept fun b o e => Heap.get?_push_of_some _ e
  refine ⟨(s.heap.push { cls := .type "range", data := .fields #[.int lo t, .int hi u, .int 1 v] }).objs.size, [(s.heap.push { cls := .type "range", data := .fields #[.int lo t, .int hi u, .int 1 v] }).objs.size], _, _, H, rfl,
    I1.kept (t' := tk) fun b o e => Heap.get?_push_of_some _ e, turn_range _ lo (hi - lo).toNat, ?_, fun b hb => ?_, q⟩
  · have e1 : lo + ((0 : Nat) : Int) * 1 = lo := by simp
    have e2 : (((hi - lo).toNat : Nat) : Int) - ((0 : Nat) : Int) = Builtin.Range.rangeSize lo hi 1 := by rw [rangeSize_one]; split <;> omega
    show IsRangeIter _ _ (lo + ((0 : Nat) : Int) * 1) ((((hi - lo).toNat : Nat) : Int) - ((0 : Nat) : Int)) 1
    rw [e1, e2]
    exact Heap.get?_push_size _ rfl
  · have e : b = (s.heap.push { cls := .type "range", data := .fields #[.int lo t, .int hi u, .int 1 v] }).objs.size := by simpa using hb
    subst e
    exact I1.fpOk (Nat.le_refl _) (I1.hok.fresh (Nat.le_refl _))
def iRng1 (ta : TA) : TI := fun σ H R => ta σ H fun vs H1 => ∃ j : Int, vs = [.int j] ∧ -(2 ^ 62) ≤ j ∧ j < 2 ^ 62 ∧ R (Itr 0 j.toNat) H1
theorem pi_range1 {a : Expr} {ta : TA} {p pos : Pos} (hg : Gl X "range") (hm : X.mg "range" = none) (ha : PA X [a] ta) (hs : starEach [a] X.env = [(false, eval a X.env)] := by rfl) : PI X tg (.Call (.Name "range" p) [a] [] pos) (iRng1 ta) := by
  intro pins s σ H R I h
  refine Call_ (ld_blt I hg hm boot_range (PyProof.Rows.callWith_type1 (thn (ha pos pins s σ H _ I h) fun us s1 ⟨vs, H1, I1, r1, q1⟩ => ?_) hs rfl))
  obtain ⟨j, e, q1, q2, q⟩ := q1
  subst e
  cases r1 with
  | cons r rr =>
    cases rr
    obtain ⟨t, rfl⟩ := r
    exact call_range_1 (range_it I1 (by omega) (by omega) q1 q2 (by simpa using q))
def tFor (wi : TI) (g : TG) (tb : TS) : TS := fun D σ H => wi σ H fun J H1 => ∃ W : Nat → Nat → St → Hp → Prop, (∃ m, W 0 m σ H1) ∧ ∀ i m σ H, W i m σ H →
  (J.stop i H ∧ D.nx σ H) ∨ (J.go i H ∧ ∃ N : St → Hp → Prop, (∀ σ' H', N σ' H' → ∃ m', m' < m ∧ W (i + 1) m' σ' H') ∧ ∀ x H', J.yld i H x H' → g x σ H' fun σ2 H2 => tb { D with nx := N, ct := N, bk := D.nx } σ2 H2)
def pinsAt (fp : List Addr) (h : Heap) : List (Addr × Obj) := fp.filterMap fun b => (h.get? b).map fun o => (b, o)
theorem mem_pinsAt {fp : List Addr} {h : Heap} {b : Addr} {o : Obj} (hb : b ∈ fp) (e : h.get? b = some o) : (b, o) ∈ pinsAt fp h := List.mem_filterMap.mpr ⟨b, hb, by rw [e]; rfl⟩
theorem of_pinsAt {fp : List Addr} {h : Heap} {p : Addr × Obj} (hp : p ∈ pinsAt fp h) : p.1 ∈ fp ∧ h.get? p.1 = some p.2 := by
  obtain ⟨b, hb, e⟩ := List.mem_filterMap.mp hp
  cases q : h.get? b with
  | none => rw [q] at e; cases e
  | some o =>
    rw [q] at e
    have e' : (b, o) = p := Option.some.inj e
    subst e'
    exact ⟨hb, q⟩
theorem Inv.pinned {pins : List (Addr × Obj)} {σ : St} {H : Hp} {s : Shared} {fp : List Addr} (I : Inv X pins σ H s) (hf : ∀ b ∈ fp, FpOk X pins H b) (ho : ∀ b ∈ fp, ∃ o, s.heap.get? b = some o ∧ ∀ v, o.data ≠ .cell v) : Inv X (pins ++ pinsAt fp s.heap) σ H s :=
  I.pins_of fun p hp => (List.mem_append.mp hp).elim (fun z => I.pin p (List.mem_append_right _ z)) fun z => by
    obtain ⟨hb, e⟩ := of_pinsAt z
    obtain ⟨f0, f1, f2, _⟩ := hf p.1 hb
    obtain ⟨o, e', d⟩ := ho p.1 hb
    rw [e] at e'; cases e'
    exact ⟨e, f0, f1, f2, d⟩
theorem Inv.unpinned {pins pl : List (Addr × Obj)} {σ : St} {H : Hp} {s : Shared} (I : Inv X (pins ++ pl) σ H s) : Inv X pins σ H s := I.pins_of fun p hp => I.pin p (List.mem_append_right _ (List.mem_append_left _ hp))
theorem ps_for {iter : Expr} {body : List Stmt} {wi : TI} {g : TG} {tb : TS} {pos : Pos} (hp : PassesOwn (model X.prog X.w) X.A X.env X.xe) (hc : X.calm = true) (hi : PI X tg iter wi) (hg : PG X tg g) (hb : PSs X body tb)
    (hs : ∀ x, foldedSetIterable iter X.env x = pure x := by intro _; rfl) : PS X (.For tg iter body [] pos) (tFor wi g tb) := by
  intro pins s σ H D I h
  refine wpAny_For (thn (hi pins s σ H _ I h) fun v s1 h1 => thn h1 fun itv s2 h2 => ?_) hs
  obtain ⟨it, fp, tn, J, H2, e, I2, T, st2, f2, W, ⟨m0, w0⟩, turn⟩ := h2
  subst e
  have stat : ∀ {H' : Hp}, (∀ b ∈ fp, H' b = none) → ∀ b ∈ fp, FpOk X pins H' b := fun hn b hb => ⟨hn b hb, (f2 b hb).2⟩
  refine codeAny_forLoop_any (fun n s' => ∃ i σ' H', Inv X pins σ' H' s' ∧ tn i s'.heap ∧ (∀ b ∈ fp, H' b = none) ∧ W i n σ' H') ?_ m0 ⟨0, σ, H2, I2, st2, fun b hb => (f2 b hb).1, w0⟩
  rintro n s3 ⟨i, σ3, H3, I3, st3, fr3, w3⟩
  rcases turn i n σ3 H3 w3 with ⟨stop, qn⟩ | ⟨go, N, hN, step⟩
  · refine wpAny_passesOwn hp (thn (T.done X rfl rfl rfl hc i pins s3 σ3 H3 X.xe I3 (stat fr3) st3 stop) fun r s4 ⟨hr, I4⟩ => ?_)
    subst hr
    exact wpAny_execs_nil ⟨σ3, H3, I4, qn⟩
  · refine wpAny_passesOwn hp (thn (T.item X rfl rfl rfl hc i pins s3 σ3 H3 X.xe I3 (stat fr3) st3 go) fun r s4 ⟨u, hr, h4⟩ => ?_)
    subst hr
    refine wpAny_passesOwn hp (thn h4 fun _ s5 ⟨x, H5, I5, r5, y5, st5, fr5⟩ => ?_)
    have I5' := I5.pinned (stat fr5) (T.obj _ _ st5)
    refine wpAny_passesOwn hp (thn (hg _ s5 σ3 H5 x u _ I5' r5 (step x H5 y5)) fun _ s6 ⟨σ6, H6, I6, q6⟩ => ?_)
    refine wpAny_passesOwn hp (thn (hb _ s6 σ6 H6 _ I6 q6) fun f s7 q7 => ?_)
    have again : ∀ {σ7 : St} {H7 : Hp}, Inv X (pins ++ pinsAt fp s5.heap) σ7 H7 s7 → N σ7 H7 → ∃ m, m < n ∧ ∃ i σ' H', Inv X pins σ' H' s7 ∧ tn i s7.heap ∧ (∀ b ∈ fp, H' b = none) ∧ W i m σ' H' := fun {σ7 H7} I7 n7 => by
      obtain ⟨m', hm, w7⟩ := hN σ7 H7 n7
      refine ⟨m', hm, i + 1, σ7, H7, I7.unpinned, T.keep _ _ _ st5 fun b hb o e => (I7.pin (b, o) (List.mem_append_right _ (List.mem_append_right _ (mem_pinsAt hb e)))).1, fun b hb => ?_, w7⟩
      obtain ⟨o, e, d⟩ := T.obj _ _ st5 b hb
      exact (I7.pin (b, o) (List.mem_append_right _ (List.mem_append_right _ (mem_pinsAt hb e)))).2.1
    cases f with
    | next => obtain ⟨σ7, H7, I7, n7⟩ := q7; exact again I7 n7
    | cont => obtain ⟨σ7, H7, I7, n7⟩ := q7; exact again I7 n7
    | brk => obtain ⟨σ7, H7, I7, q7⟩ := q7; exact ⟨σ7, H7, I7.unpinned, q7⟩
    | ret v => obtain ⟨x7, σ7, H7, I7, r7, q7⟩ := q7; exact ⟨x7, σ7, H7, I7.unpinned, r7, q7⟩
end
end L2
namespace L2
open PySem PySem.Spec PyProof.Rows
abbrev R2 := V → V → Hp → VK → Prop
def OpR (X : Cx) (f : Value → Value → Sem Value) (r : R2) : Prop :=
  ∀ (pins : List (Addr × Obj)) (s : Shared) (σ : St) (H : Hp) (x y : V) (v u : Value) (Q : VK), Inv X pins σ H s → RelV x v → RelV y u → r x y H Q →
    wpAny (model X.prog X.w) X.A (f v u) (EP X pins σ Q) X.xe s
def UnR (X : Cx) (f : Value → Sem Value) (r : V → Hp → VK → Prop) : Prop :=
  ∀ (pins : List (Addr × Obj)) (s : Shared) (σ : St) (H : Hp) (x : V) (v : Value) (Q : VK), Inv X pins σ H s → RelV x v → r x H Q →
    wpAny (model X.prog X.w) X.A (f v) (EP X pins σ Q) X.xe s
def CallR (X : Cx) (f : Value) (r : List V → Hp → VK → Prop) : Prop :=
  ∀ (pins : List (Addr × Obj)) (s : Shared) (σ : St) (H : Hp) (xs : List V) (us : List Value) (Q : VK), Inv X pins σ H s → Vals xs us → r xs H Q →
    wpAny (model X.prog X.w) X.A (call f us) (EP X pins σ Q) X.xe s
def TruR (X : Cx) (r : V → Hp → (Bool → Hp → Prop) → Prop) : Prop :=
  ∀ (pins : List (Addr × Obj)) (s : Shared) (σ : St) (H : Hp) (x : V) (v : Value) (Q : Bool → Hp → Prop), Inv X pins σ H s → RelV x v → r x H Q →
    wpAny (model X.prog X.w) X.A (truthy v) (TP X pins σ Q) X.xe s
def tOp (r : R2) (ta tb : TE) : TE := fun σ H Q => ta σ H fun x H1 => tb σ H1 fun y H2 => r x y H2 Q
def tUn (r : V → Hp → VK → Prop) (ta : TE) : TE := fun σ H Q => ta σ H fun x H1 => r x H1 Q
def rI (C : Int → Int → Prop) (g : Int → Int → V) : R2 := fun x y H Q => ∃ i j, x = .int i ∧ y = .int j ∧ C i j ∧ Q (g i j) H
def rI0 (g : Int → Int → V) : R2 := fun x y H Q => ∃ i j, x = .int i ∧ y = .int j ∧ Q (g i j) H
def rU (g : Int → V) : V → Hp → VK → Prop := fun x H Q => ∃ i, x = .int i ∧ Q (g i) H
section
variable {X : Cx} {a b c : Expr} {ta tb tc : TE} {pos : Pos}
theorem binT (ha : PE X a ta) (hb : PE X b tb) {pins : List (Addr × Obj)} {s : Shared} {σ : St} {H : Hp} {R : V → V → Hp → Prop} (I : Inv X pins σ H s)
    (h : ta σ H fun x H1 => tb σ H1 fun y H2 => R x y H2) {Q : Value → Shared → Prop} {f : Value → Value → Sem Value}
    (hf : ∀ v u s2 x y H2, Inv X pins σ H2 s2 → RelV x v → RelV y u → R x y H2 → wpAny (model X.prog X.w) X.A (f v u) Q X.xe s2) :
    wpAny (model X.prog X.w) X.A (eval a X.env) (fun v s₁ => wpAny (model X.prog X.w) X.A (eval b X.env) (fun u s₂ => wpAny (model X.prog X.w) X.A (f v u) Q X.xe s₂) X.xe s₁) X.xe s := by
  refine thn (ha pins s σ H _ I h) fun v s1 ⟨x, H1, I1, r1, q1⟩ => ?_
  refine thn (hb pins s1 σ H1 _ I1 q1) fun u s2 ⟨y, H2, I2, r2, q2⟩ => ?_
  exact hf v u s2 x y H2 I2 r1 r2 q2
theorem pe_op {op : Operator} {r : R2} (ho : OpR X (binaryOp op) r) (ha : PE X a ta) (hb : PE X b tb) : PE X (.BinOp a op b pos) (tOp r ta tb) := by
  intro pins s σ H Q I h
  exact wpAny_BinOp (binT ha hb I h fun v u s2 x y H2 I2 rx ry q => ho pins s2 σ H2 x y v u Q I2 rx ry q)
theorem pe_un {op : UnaryOp} {r : V → Hp → VK → Prop} (ho : UnR X (unaryOp op) r) (ha : PE X a ta) : PE X (.UnaryOp op a pos) (tUn r ta) := by
  intro pins s σ H Q I h
  exact UnaryOp_ (thn (ha pins s σ H _ I h) fun v s1 ⟨x, H1, I1, r1, q1⟩ => ho pins s1 σ H1 x v Q I1 r1 q1)
theorem opI {f : Value → Value → Sem Value} {C : Int → Int → Prop} {g : Int → Int → Int}
    (rule : ∀ (i j : Int) (t u : Tok) (s : Shared) (Q : Value → Shared → Prop) (E : Value → Shared → Prop), C i j → Q (.int (g i j) s.toks) { s with toks := s.toks + 1 } → wpAny (model X.prog X.w) X.A (f (.int i t) (.int j u)) Q E s) :
    OpR X f (rI C fun i j => .int (g i j)) := by
  intro pins s σ H x y v u Q I rx ry h
  obtain ⟨i, j, rfl, rfl, hc, q⟩ := h
  obtain ⟨t, rfl⟩ := rx
  obtain ⟨t', rfl⟩ := ry
  exact rule i j t t' s _ _ hc ⟨.int (g i j), H, I.tok _, ⟨_, rfl⟩, q⟩
theorem opI0 {f : Value → Value → Sem Value} {g : Int → Int → Int}
    (rule : ∀ (i j : Int) (t u : Tok) (s : Shared) (Q : Value → Shared → Prop) (E : Value → Shared → Prop), Q (.int (g i j) s.toks) { s with toks := s.toks + 1 } → wpAny (model X.prog X.w) X.A (f (.int i t) (.int j u)) Q E s) :
    OpR X f (rI0 fun i j => .int (g i j)) := by
  intro pins s σ H x y v u Q I rx ry h
  obtain ⟨i, j, rfl, rfl, q⟩ := h
  obtain ⟨t, rfl⟩ := rx
  obtain ⟨t', rfl⟩ := ry
  exact rule i j t t' s _ _ ⟨.int (g i j), H, I.tok _, ⟨_, rfl⟩, q⟩
theorem opB0 {f : Value → Value → Sem Value} {g : Int → Int → Bool}
    (rule : ∀ (i j : Int) (t u : Tok) (s : Shared) (Q : Value → Shared → Prop) (E : Value → Shared → Prop), Q (.bool (g i j)) s → wpAny (model X.prog X.w) X.A (f (.int i t) (.int j u)) Q E s) :
    OpR X f (rI0 fun i j => .bl (g i j)) := by
  intro pins s σ H x y v u Q I rx ry h
  obtain ⟨i, j, rfl, rfl, q⟩ := h
  obtain ⟨t, rfl⟩ := rx
  obtain ⟨t', rfl⟩ := ry
  exact rule i j t t' s _ _ ⟨.bl (g i j), H, I, rfl, q⟩
def CDiv (i j : Int) : Prop := 0 < j ∧ j < 1073741824
def CPow (i j : Int) : Prop := 0 ≤ j ∧ j ≤ 1000000 ∧ i.natAbs < 2 ^ 64
def CMul (i j : Int) : Prop := (-(2 ^ 64) < i ∧ i < 2 ^ 64) ∨ (-(2 ^ 64) < j ∧ j < 2 ^ 64)
theorem CMul.ok {i j : Int} (h : CMul i j) : IntMulOk i j := by
  rcases h with ⟨h1, h2⟩ | ⟨h1, h2⟩
  · exact .of_left (intBits_le_64 h1 h2)
  · exact .of_right (intBits_le_64 h1 h2)
theorem op_add : OpR X (binaryOp .Add) (rI0 fun i j => .int (i + j)) := opI0 fun _ _ _ _ _ _ _ q => add_int q
theorem op_sub : OpR X (binaryOp .Sub) (rI0 fun i j => .int (i - j)) := opI0 fun _ _ _ _ _ _ _ q => sub_int q
theorem op_mul : OpR X (binaryOp .Mult) (rI CMul fun i j => .int (i * j)) := opI fun _ _ _ _ _ _ _ hc q => mul_int q hc.ok
theorem op_fdiv : OpR X (binaryOp .FloorDiv) (rI CDiv fun i j => .int (i / j)) := opI fun i j _ _ _ _ _ hc q => by
  have h1 : (0 : Int) < j := hc.1
  have h2 : j < 1073741824 := hc.2
  exact floordiv_int (by omega) (by rw [Int.fdiv_eq_ediv_of_nonneg i (by omega)]; exact q) (.inl (PyProof.noPylong_small (by omega)))
theorem op_mod : OpR X (binaryOp .Mod) (rI (fun _ j => 0 < j) fun i j => .int (i % j)) := opI fun i j _ _ _ _ _ hc q => by
  have h1 : (0 : Int) < j := hc
  exact mod_int' (by omega) (by rw [Int.fmod_eq_emod_of_nonneg i (by omega)]; exact q)
theorem op_pow : OpR X (binaryOp .Pow) (rI CPow fun i j => .int (i ^ j.toNat)) := opI fun _ _ _ _ _ _ _ hc q => pow_int_small hc.1 hc.2.1 hc.2.2 q
theorem unI {f : Value → Sem Value} {g : Int → Int}
    (rule : ∀ (i : Int) (t : Tok) (s : Shared) (Q : Value → Shared → Prop) (E : Value → Shared → Prop), Q (.int (g i) s.toks) { s with toks := s.toks + 1 } → wpAny (model X.prog X.w) X.A (f (.int i t)) Q E s) :
    UnR X f (rU fun i => .int (g i)) := by
  intro pins s σ H x v Q I rx h
  obtain ⟨i, rfl, q⟩ := h
  obtain ⟨t, rfl⟩ := rx
  exact rule i t s _ _ ⟨.int (g i), H, I.tok _, ⟨_, rfl⟩, q⟩
theorem un_neg : UnR X (unaryOp .USub) (rU fun i => .int (-i)) := unI fun _ _ _ _ _ q => neg_int q
end
section
variable {X : Cx} {a b c : Expr} {ta tb tc : TE} {pos : Pos}
theorem fin_bl {pins : List (Addr × Obj)} {σ : St} {H : Hp} {s : Shared} {Q : VK} {k k' : Bool} (I : Inv X pins σ H s) (q : Q (.bl k) H) (e : k = k') : EP X pins σ Q (.bool k') s := by
  subst e
  exact ⟨.bl k, H, I, rfl, q⟩
theorem op_lt : OpR X (compareOp .Lt) (rI0 fun i j => .bl (decide (i < j))) := opB0 fun _ _ _ _ _ _ _ q => lt_int q
theorem op_le : OpR X (compareOp .LtE) (rI0 fun i j => .bl (decide (i ≤ j))) := opB0 fun _ _ _ _ _ _ _ q => le_int q
theorem op_gt : OpR X (compareOp .Gt) (rI0 fun i j => .bl (decide (j < i))) := opB0 fun _ _ _ _ _ _ _ q => gt_int q
theorem op_ge : OpR X (compareOp .GtE) (rI0 fun i j => .bl (decide (j ≤ i))) := opB0 fun _ _ _ _ _ _ _ q => ge_int q
theorem op_in_str : OpR X (compareOp .In) (fun x y H Q => ∃ i j, x = .str i ∧ y = .str j ∧ Q (.bl (!(Builtin.Str.occurrences j i 0 j.length 1).isEmpty)) H) := by
  intro pins s σ H x y v u Q I rx ry h
  obtain ⟨i, j, rfl, rfl, q⟩ := h
  obtain ⟨t, rfl⟩ := rx
  obtain ⟨t', rfl⟩ := ry
  exact in_str (fin_bl I q rfl)
theorem op_isN : OpR X (compareOp .Is) (fun x y H Q => y = .non ∧ Q (.bl (decide (x = .non))) H) := by
  intro pins s σ H x y v u Q I rx ry h
  obtain ⟨rfl, q⟩ := h
  cases ry
  refine is_none_gen (fin_bl I q ?_)
  cases x <;> first
    | (cases rx; rfl)
    | (obtain ⟨t, rfl⟩ := rx; rfl)
theorem OpR.or {f : Value → Value → Sem Value} {r r' : R2} (h : OpR X f r) (h' : OpR X f r') : OpR X f (fun x y H Q => r x y H Q ∨ r' x y H Q) := by
  intro pins s σ H x y v u Q I rx ry q
  rcases q with q | q
  · exact h pins s σ H x y v u Q I rx ry q
  · exact h' pins s σ H x y v u Q I rx ry q
theorem nomark (b : Expr) {op : CmpOp} (h : op ≠ .In := by decide) (h2 : op ≠ .NotIn := by decide) : behindInMarks op b = false := by
  have e1 : (op == CmpOp.In) = false := by cases op <;> first | rfl | exact absurd rfl h
  have e2 : (op == CmpOp.NotIn) = false := by cases op <;> first | rfl | exact absurd rfl h2
  cases b <;> simp [behindInMarks, e1, e2]
theorem pe_cmpR {op : CmpOp} {r : R2} (ho : OpR X (compareOp op) r) (ha : PE X a ta) (hb : PE X b tb) (hm : behindInMarks op b = false) : PE X (.Compare a [op] [b] pos) (tOp r ta tb) := by
  intro pins s σ H Q I h
  exact wpAny_Compare1 (binT ha hb I h fun v u s2 x y H2 I2 rx ry q => ho pins s2 σ H2 x y v u Q I2 rx ry q) hm
def tTest (t : TE) : TT := fun σ H Q => t σ H fun x H' => ∃ k, x = .bl k ∧ Q k H'
theorem pt_cmpR {op : CmpOp} {r : R2} (ho : OpR X (compareOp op) r) (ha : PE X a ta) (hb : PE X b tb) (hm : behindInMarks op b = false) : PT X (.Compare a [op] [b] pos) (tTest (tOp r ta tb)) := by
  intro pins s σ H Q I h
  refine wpAny_isTrue_Compare1 (thn (ha pins s σ H _ I h) fun v s1 ⟨x, H1, I1, r1, q1⟩ => thn (hb pins s1 σ H1 _ I1 q1) fun u s2 ⟨y, H2, I2, r2, q2⟩ =>
    thn (ho pins s2 σ H2 x y v u _ I2 r1 r2 q2) fun c s3 ⟨z, H3, I3, r3, k, e, q3⟩ => ?_) hm
  subst e
  cases r3
  exact wpAny_truthy_bool ⟨H3, I3, q3⟩
def TruV (K : PySem.W.Frag) (x : V) (H : Hp) (k : Bool) : Prop :=
  match x with
  | .non => k = false
  | .bl b => k = b
  | .int i => k = (i != 0)
  | .str y => y.length ≤ sizeLine ∧ k = ((y.length : Int) != 0)
  | .byt y => y.size ≤ sizeLine ∧ k = ((y.size : Int) != 0)
  | .ref p => (∃ xs, SqL K H p xs ∧ k = !xs.isEmpty) ∨ (∃ xs, SqT K H p xs ∧ k = !xs.isEmpty) ∨ ∃ kvs, H p = some (.dK kvs) ∧ k = !kvs.isEmpty
  | _ => False
theorem isEmpty_kv {κ : Type} {kvs : List (κ × V)} {vs : List (κ × Value)} (r : KV kvs vs) : (!vs.isEmpty) = !kvs.isEmpty := by
  cases r <;> rfl
theorem isEmpty_of {xs : List V} {its : List Value} (r : Vals xs its) : (!its.toArray.isEmpty) = !xs.isEmpty := by
  cases r <;> simp
theorem line63 : (sizeLine : Nat) < 2 ^ 63 := by rw [sizeLine_eq]; decide
theorem tru_ok : TruR X (fun x H Q => ∃ k, TruV X.K x H k ∧ Q k H) := by
  intro pins s σ H x v Q I rx h
  obtain ⟨k, e, q⟩ := h
  have hl := line63
  have hs : sizeLine = 16777216 := sizeLine_eq
  cases x with
  | non =>
    cases rx
    have e' : k = false := e
    subst e'
    exact truthy_none ⟨H, I, q⟩
  | bl b =>
    cases rx
    have e' : k = b := e
    subst e'
    exact wpAny_truthy_bool ⟨H, I, q⟩
  | int i =>
    obtain ⟨t, rfl⟩ := rx
    have e' : k = (i != 0) := e
    subst e'
    exact PySem.P.truthy_int ⟨H, I, q⟩
  | str y =>
    obtain ⟨t, rfl⟩ := rx
    obtain ⟨hy, e'⟩ : y.length ≤ sizeLine ∧ k = ((y.length : Int) != 0) := e
    subst e'
    exact PySem.P.truthy_str (by omega) ⟨H, I.tok _, q⟩
  | byt y =>
    obtain ⟨t, rfl⟩ := rx
    obtain ⟨hy, e'⟩ : y.size ≤ sizeLine ∧ k = ((y.size : Int) != 0) := e
    subst e'
    exact PySem.W.truthy_bytes (by omega) ⟨H, I.tok _, q⟩
  | ref p =>
    cases rx
    have e' : (∃ xs, SqL X.K H p xs ∧ k = !xs.isEmpty) ∨ (∃ xs, SqT X.K H p xs ∧ k = !xs.isEmpty) ∨ ∃ kvs, H p = some (.dK kvs) ∧ k = !kvs.isEmpty := e
    rcases e' with ⟨xs, hx, e'⟩ | ⟨xs, hx, e'⟩ | ⟨kvs, hx, e'⟩
    · subst e'
      obtain ⟨its, r, pl, hz⟩ := I.list hx
      have hlen := r.length
      exact wpAny_truthy_list pl.isList (by simp only [List.size_toArray]; omega) ⟨H, I.tok _, by rw [isEmpty_of r]; exact q⟩
    · subst e'
      obtain ⟨its, r, pl, hz⟩ := I.tuple hx
      have hlen := r.length
      exact truthy_tuple pl (by simp only [List.size_toArray]; omega) ⟨H, I.tok _, by rw [isEmpty_of r]; exact q⟩
    · subst e'
      obtain ⟨hz, hS, vs, r, m⟩ : kvs.length ≤ sizeLine ∧ (p == sysModules) = false ∧ ∃ vs, KV kvs vs ∧ s.heap.DictOf (mixKind X.prog X.w) p vs := I.hok p _ hx
      have hlen : kvs.length = vs.length := Paired.length r
      exact wpAny_truthy_dict hS m (by omega) ⟨H, I.tok _, by rw [isEmpty_kv r]; exact q⟩
  | _ => exact (show False from e).elim
theorem pt_truth (ha : PE X a ta) (he : ∀ whole, isTrue a X.env whole = (do let v ← whole; standAt a.pos; holding [v] (truthy v))) :
    PT X a (fun σ H Q => ta σ H fun x H' => ∃ k, TruV X.K x H' k ∧ Q k H') := by
  intro pins s σ H Q I h
  exact isTrue_plain (thn (ha pins s σ H _ I h) fun v s1 ⟨x, H1, I1, r1, q1⟩ => tru_ok pins s1 σ H1 x v Q I1 r1 q1) (he _)
theorem op_add_str : OpR X (binaryOp .Add) (fun x y H Q => ∃ i j, x = .str i ∧ y = .str j ∧ i.length + j.length ≤ sizeLine ∧ Q (.str (i ++ j)) H) := by
  intro pins s σ H x y v u Q I rx ry h
  obtain ⟨i, j, rfl, rfl, hz, q⟩ := h
  obtain ⟨t, rfl⟩ := rx
  obtain ⟨t', rfl⟩ := ry
  exact add_str (fun t' tk => ⟨.str (i ++ j), H, I.tok _, ⟨_, rfl⟩, q⟩) hz
theorem vals1 {x : V} {us : List Value} (r : Vals [x] us) : ∃ u, us = [u] ∧ RelV x u := by
  cases r with
  | cons r1 r2 => cases r2; exact ⟨_, rfl, r1⟩
theorem vals2 {x y : V} {us : List Value} (r : Vals [x, y] us) : ∃ u w', us = [u, w'] ∧ RelV x u ∧ RelV y w' := by
  cases r with
  | cons r1 r2 =>
    cases r2 with
    | cons r3 r4 => cases r4; exact ⟨_, _, rfl, r1, r3⟩
theorem call_int1 : CallR X (.type "int") (fun xs H Q => (∃ i, xs = [.int i] ∧ Q (.int i) H) ∨ ∃ k, xs = [.bl k] ∧ Q (.int (if k then 1 else 0)) H) := by
  intro pins s σ H xs us Q I r h
  rcases h with ⟨i, rfl, q⟩ | ⟨k, rfl, q⟩
  · obtain ⟨u, rfl, t, rfl⟩ := vals1 r
    exact call_int_int ⟨.int i, H, I, ⟨_, rfl⟩, q⟩
  · obtain ⟨u, rfl, r1⟩ := vals1 r
    cases r1
    exact call_int_bool ⟨.int (if k then 1 else 0), H, I.tok _, ⟨_, rfl⟩, q⟩
theorem call_str_int : CallR X (.type "str") (fun xs H Q => ∃ i, xs = [.int i] ∧ i.natAbs.log2 < 1920 ∧ Q (.str (toString i)) H) := by
  intro pins s σ H xs us Q I r h
  obtain ⟨i, rfl, hz, q⟩ := h
  obtain ⟨u, rfl, t, rfl⟩ := vals1 r
  exact PySem.P.str_of_int hz ⟨.str _, H, I.tok _, ⟨_, rfl⟩, q⟩
end
end L2
namespace L2
open PySem PySem.Spec PyProof.Rows
structure ObjM (h : Heap) (x dx C : Addr) (mA : Str → Option Value) : Prop where
  obj : h.get? x = some (PySem.W.instObj C dx)
  ns : h.Ns1 dx mA
  ne : dx ≠ x
theorem lookIn_ns {h : Heap} {dx : Addr} {mA : Str → Option Value} (n : h.Ns1 dx mA) : ∃ od, h.get? dx = some od ∧ ∀ name, PySem.W.lookIn name od = some (mA name) := by
  obtain ⟨o, es, ep, ho, hd, hk, _, hm⟩ := n
  refine ⟨o, ho, fun name => ?_⟩
  have e := hm name
  unfold nsFind findBy at e
  rw [← Array.find?_toList] at e
  unfold PySem.W.lookIn
  rw [hd]
  dsimp only
  split
  · rename_i y q
    rw [q] at e
    exact congrArg some e
  · rename_i q
    rw [q] at e
    have a : es.toList.any (·.refKey) = false := by
      rw [List.any_eq_false]
      intro y hy
      obtain ⟨z, t, hkey⟩ := hk y (Array.mem_toList_iff.mp hy)
      simp [DictEntry.refKey, hkey]
    have a' : ¬ es.toList.any (·.refKey) = true := by rw [a]; exact Bool.false_ne_true
    rw [if_neg a']
    exact congrArg some e
theorem ObjM.look {h : Heap} {x dx C : Addr} {mA : Str → Option Value} (I : ObjM h x dx C mA) : ∃ od, PySem.W.InstAt h x (PySem.W.instObj C dx) C (some od) ∧ ∀ name, PySem.W.lookIn name od = some (mA name) :=
  let ⟨od, ho, hl⟩ := lookIn_ns I.ns
  ⟨od, ⟨I.obj, rfl, rfl, ho⟩, hl⟩
section
variable {prog : Program} {w : World} {A : Around} {E : Value → Shared → Prop} {s : Shared} {K : PySem.W.Frag} {x dx C f : Addr} {mA : Str → Option Value} {name : Str} {v : Value}
theorem get_map {expr : Bool} {Q : Value → Shared → Prop} (X : K.In s.heap) (I : ObjM s.heap x dx C mA) (hg : PySem.W.plainGet K C name = true) (hh : PySem.W.hasDictIn K C = true)
    (ha : PySem.W.findIn K (.ref C) name = some none) (hv : mA name = some v) (hv' : PySem.W.handedIn v = true) (h : Q v { s with toks := s.toks + 1 }) :
    wpAny (model prog w) A (getAttr (.ref x) name expr) Q E s := by
  obtain ⟨od, J, hl⟩ := I.look
  exact PySem.W.get_value X J (PySem.W.plainGet_of hg).1 (PySem.W.findObj_own hh ha rfl (by rw [hl, hv])) hv' h
theorem get_meth {pl : Sem Bool} {Q : Value × List Value → Shared → Prop} (X : K.In s.heap) (I : ObjM s.heap x dx C mA) (hg : PySem.W.plainGet K C name = true)
    (hf : PySem.W.findIn K (.ref C) name = some (some (.ref f))) (ht : PySem.W.isFn K (.ref f) = true) (hv : mA name = none) (h : Q (.ref f, [.ref x]) s) :
    wpAny (model prog w) A (getMethod (.ref x) name pl) Q E s := by
  obtain ⟨od, J, hl⟩ := I.look
  exact PySem.W.method_fn X J (PySem.W.plainGet_of hg).1 (PySem.W.plainGet_of hg).2 hf (beq_iff_eq.mp ht) (by show (PySem.W.lookIn name od).map (·.isSome) = some false; rw [hl, hv]; rfl) h
theorem set_map {ns : List Str} {Q : Unit → Shared → Prop} (X : K.In s.heap) (I : ObjM s.heap x dx C mA)
    (hs : PySem.W.findIn K (.ref C) "__setattr__" = some (some (.builtin "object.__setattr__"))) (hp : PySem.W.plainOver K C = true) (ht : PySem.W.takerIn K C name = some none) (hh : PySem.W.hasDictIn K C = true)
    (hw : PySem.Within mA ns) (hsz : ns.length ≤ sizeLine)
    (h : ∀ h', ObjM h' x dx C (fun y => if y = name then some v else mA y) → Heap.SameBut dx s.heap h' → Q () { s with heap := h', toks := s.toks + 2 }) :
    wpAny (model prog w) A (setAttr (.ref x) name v) Q E s := by
  obtain ⟨od, J, hl⟩ := I.look
  refine PySem.W.set_plain X J hs (PySem.W.osa_open (s := { s with toks := s.toks + 1 }) (r := none) X J hp ht fun b => ?_)
  obtain ⟨cd, hc, hd'⟩ := PySem.W.any_some hh
  have hx : s.heap.get? x = some ⟨.ref C, some dx, .plain, #[]⟩ := I.obj
  refine wpAny_bind (wpAny_pure (wpAny_bind (wpAny_bind (wpAny_loadPart hx (wpAny_bind (PySem.W.Looks.here (s := { s with toks := s.toks + 1 }) (PySem.W.looks_clsIn X hc) ?_))))))
  rw [hd']
  refine wpAny_pure (a := some dx) (wpAny_bind (wpAny_pure (wpAny_bind ?_)))
  refine wpAny_nsSet1 (s := { s with toks := s.toks + 1 }) I.ns fun h' hn2 hs2 => ?_
  obtain ⟨oD, esD, epD, hoD, hdD, hcD⟩ := hn2.count (PySem.Within.cons name v hw)
  refine wpAny_bind (wpAny_lookBehind hoD (by rw [hdD]; exact pastItsLine_dict (Nat.le_trans hcD (by rw [List.length_cons]; omega))) ?_)
  exact wpAny_pure (h _ ⟨(hs2.2 _ (Ne.symm I.ne)).trans I.obj, hn2, I.ne⟩ hs2)
theorem make_map {R : Result → Shared → Prop} {vs : List Value} {kw : List (Str × Value)} (X : K.In s.heap) (hm : PySem.W.makesIn K C = true)
    (hi : PySem.W.findIn K (.ref C) "__init__" = some (some (.ref f))) (hf : PySem.W.typeIn K (.ref f) = some (.type "function"))
    (h : codeAny (model prog w) (A.under (.builtin "type.__call__" ⟨.ref C :: vs, kw⟩)) (.call (.ref f) ⟨.ref (s.heap.objs.size + 1) :: vs, kw⟩) (PySem.W.InitBack (s.heap.objs.size + 1) R)
      { s with heap := (s.heap.push PySem.W.emptyDict).push (PySem.W.instObj C s.heap.objs.size) }) :
    codeAny (model prog w) A (.call (.ref C) ⟨vs, kw⟩) R s := by
  obtain ⟨hh, g, d, t, os⟩ := s
  exact PySem.W.make_core (PySem.W.makes_of X hm) (PySem.W.looks_findIn X hi) (fun self => PySem.W.bind_fn X self hf) (.inl rfl) h
end
def putF (f : Str) (v : V) : List (Str × V) → List (Str × V)
  | [] => [(f, v)]
  | (g, x) :: r => if g = f then (g, v) :: r else (g, x) :: putF f v r
theorem lookup_putF (f g : Str) (v : V) : ∀ fs : List (Str × V), (putF f v fs).lookup g = if g = f then some v else fs.lookup g
  | [] => by
    show List.lookup g [(f, v)] = _
    by_cases h : g = f
    · have hb : (g == f) = true := beq_iff_eq.mpr h
      simp only [List.lookup, hb, if_pos h]
    · have hb : (g == f) = false := beq_eq_false_iff_ne.mpr h
      simp only [List.lookup, hb, if_neg h]
  | (k, x) :: r => by
    have ih := lookup_putF f g v r
    rw [show putF f v ((k, x) :: r) = (if k = f then (k, v) :: r else (k, x) :: putF f v r) from rfl]
    by_cases hk : k = f
    · rw [if_pos hk]
      by_cases h : g = k
      · have hb : (g == k) = true := beq_iff_eq.mpr h
        simp only [List.lookup, hb, if_pos (h.trans hk)]
      · have hb : (g == k) = false := beq_eq_false_iff_ne.mpr h
        simp only [List.lookup, hb, if_neg (fun e : g = f => h (e.trans hk.symm))]
    · rw [if_neg hk]
      by_cases h : g = k
      · have hb : (g == k) = true := beq_iff_eq.mpr h
        simp only [List.lookup, hb, if_neg (fun e : g = f => hk (h.symm.trans e))]
      · have hb : (g == k) = false := beq_eq_false_iff_ne.mpr h
        simp only [List.lookup, hb]
        exact ih
theorem keys_putF (f : Str) (v : V) : ∀ fs : List (Str × V), f ∈ (putF f v fs).map (·.1) ∧ ∀ g, g ∈ fs.map (·.1) → g ∈ (putF f v fs).map (·.1)
  | [] => ⟨by simp [putF], fun g h => by simp at h⟩
  | (k, x) :: r => by
    obtain ⟨i1, i2⟩ := keys_putF f v r
    rw [show putF f v ((k, x) :: r) = (if k = f then (k, v) :: r else (k, x) :: putF f v r) from rfl]
    by_cases hk : k = f
    · rw [if_pos hk]
      subst hk
      exact ⟨by simp, fun g h => by simpa using h⟩
    · rw [if_neg hk]
      refine ⟨?_, fun g h => ?_⟩
      · rw [List.map_cons]
        exact List.mem_cons_of_mem _ i1
      · rw [List.map_cons] at h ⊢
        rcases List.mem_cons.mp h with e | e
        · exact List.mem_cons.mpr (.inl e)
        · exact List.mem_cons_of_mem _ (i2 g e)
theorem length_putF (f : Str) (v : V) : ∀ fs : List (Str × V), (putF f v fs).length ≤ fs.length + 1
  | [] => by simp [putF]
  | (k, x) :: r => by
    have ih := length_putF f v r
    rw [show putF f v ((k, x) :: r) = (if k = f then (k, v) :: r else (k, x) :: putF f v r) from rfl]
    by_cases hk : k = f
    · rw [if_pos hk, List.length_cons, List.length_cons]; omega
    · rw [if_neg hk, List.length_cons, List.length_cons]; omega
theorem RelO.some_of {v : V} {o : Option Value} (r : RelO (some v) o) : ∃ u, o = some u ∧ RelV v u := by
  cases o with
  | none => exact (show False from r).elim
  | some u => exact ⟨u, rfl, r⟩
theorem RelO.none_of {o : Option Value} (r : RelO none o) : o = none := by
  cases o with
  | none => rfl
  | some u => exact (show False from r).elim
theorem handed_of {v : V} {u : Value} (r : RelV v u) : PySem.W.handedIn u = true := by
  cases v with
  | non => cases (show u = Value.none from r); rfl
  | bl b => cases (show u = Value.bool b from r); rfl
  | int i => obtain ⟨t, e⟩ := (show ∃ t, u = Value.int i t from r); cases e; rfl
  | str x => obtain ⟨t, e⟩ := (show ∃ t, u = Value.str x t from r); cases e; rfl
  | byt b => obtain ⟨t, e⟩ := (show ∃ t, u = Value.bytes b t from r); cases e; rfl
  | flt b => obtain ⟨t, e⟩ := (show ∃ t, u = Value.float b t from r); cases e; rfl
  | ref a => cases (show u = Value.ref a from r); rfl
  | ty n => cases (show u = Value.type n from r); rfl
section
variable {P : Program} {w : World} {H H' : Hp} {h h' : Heap} {a C dx : Addr} {fs fs' : List (Str × V)}
theorem ins_get (hok : HOk P w H h) (e : H a = some (.ins C dx fs)) : ∃ mA, ObjM h a dx C mA ∧ (∀ f, RelO (fs.lookup f) (mA f)) ∧ PySem.Within mA (fs.map (·.1)) ∧ fs.length ≤ 1000 ∧ H dx = some (.own a) := by
  obtain ⟨d, z, ne, ob, mA, n, r, q⟩ := (show ObjOk P w H h a (.ins C dx fs) from hok a _ e)
  exact ⟨mA, ⟨ob, n, ne⟩, r, q, z, d⟩
end
structure Cls (K : PySem.W.Frag) (C : Addr) : Prop where
  pg : PySem.W.plainGet K C Str.empty = true
  hd : PySem.W.hasDictIn K C = true
  po : PySem.W.plainOver K C = true
  sa : PySem.W.findIn K (.ref C) "__setattr__" = some (some (.builtin "object.__setattr__"))
theorem Cls.get {K : PySem.W.Frag} {C : Addr} (c : Cls K C) (f : Str) : PySem.W.plainGet K C f = true := c.pg
def NoAttr (K : PySem.W.Frag) (C : Addr) (f : Str) : Prop := PySem.W.findIn K (.ref C) f = some none
theorem NoAttr.taker {K : PySem.W.Frag} {C : Addr} {f : Str} (n : NoAttr K C f) : PySem.W.takerIn K C f = some none := by
  unfold PySem.W.takerIn
  rw [show PySem.W.findIn K (.ref C) f = some none from n]
  rfl
structure Meth (K : PySem.W.Frag) (C : Addr) (m : Str) (f : Addr) : Prop where
  at_ : PySem.W.findIn K (.ref C) m = some (some (.ref f))
  fn : PySem.W.isFn K (.ref f) = true
  kp : PySem.W.keepIn K (.ref f) = true
section
variable {X : Cx} {pins : List (Addr × Obj)} {σ : St} {H : Hp} {s : Shared} {a C dx : Addr} {fs : List (Str × V)} {f : Str} {v : V} {A : Around} {E : Value → Shared → Prop}
theorem getattr_ok {b : Bool} {Q : Value → Shared → Prop} (I : Inv X pins σ H s) (e : H a = some (.ins C dx fs)) (c : Cls X.K C) (n : NoAttr X.K C f) (l : fs.lookup f = some v)
    (h : ∀ u s', Inv X pins σ H s' → RelV v u → Q u s') : wpAny (model X.prog X.w) A (getAttr (.ref a) f b) Q E s := by
  obtain ⟨mA, O, r, _, _, _⟩ := ins_get I.hok e
  obtain ⟨u, hu, ru⟩ := RelO.some_of (v := v) (o := mA f) (by rw [← l]; exact r f)
  exact get_map I.kIn O (c.get f) c.hd n hu (handed_of ru) (h u _ (I.tok _) ru)
theorem getmeth_ok {m : Str} {g : Addr} {pl : Sem Bool} {Q : Value × List Value → Shared → Prop} (I : Inv X pins σ H s) (e : H a = some (.ins C dx fs)) (c : Cls X.K C) (k : Meth X.K C m g) (l : fs.lookup m = none)
    (h : Q (.ref g, [.ref a]) s) : wpAny (model X.prog X.w) A (getMethod (.ref a) m pl) Q E s := by
  obtain ⟨mA, O, r, _, _, _⟩ := ins_get I.hok e
  have hn : mA m = none := RelO.none_of (by rw [← l]; exact r m)
  exact get_meth I.kIn O (c.get m) k.at_ k.fn hn h
theorem setattr_ok {y : V} {u : Value} {Q : Unit → Shared → Prop} (I : Inv X pins σ H s) (e : H a = some (.ins C dx fs)) (c : Cls X.K C) (n : NoAttr X.K C f) (hl : fs.length < 1000) (ry : RelV y u)
    (h : ∀ s', Inv X pins σ (upd H a (.ins C dx (putF f y fs))) s' → Q () s') : wpAny (model X.prog X.w) A (setAttr (.ref a) f u) Q E s := by
  obtain ⟨mA, O, r, wi, _, ho⟩ := ins_get I.hok e
  have hz : (fs.map (·.1)).length ≤ sizeLine := by rw [List.length_map, sizeLine_eq]; omega
  refine set_map I.kIn O c.sa c.po n.taker c.hd wi hz fun h' O' sb => h _ ?_
  have hd : ∃ o, h'.get? dx = some o := let ⟨o, _, _, e', _⟩ := O'.ns; ⟨o, e'⟩
  refine I.write (x := a) (e := dx) (by rw [e]; exact True.intro) (.inr ho) (fun b q hb z => (sb.2 b hb).trans z) hd ?_
  refine ⟨by rw [upd_ne O.ne]; exact ho, ?_, O.ne, O'.obj, _, O'.ns, fun g => ?_, fun g hg => ?_⟩
  · have := length_putF f y fs; omega
  · show RelO ((putF f y fs).lookup g) (if g = f then some u else mA g)
    rw [lookup_putF]
    by_cases q : g = f
    · rw [if_pos q, if_pos q]; exact ry
    · rw [if_neg q, if_neg q]; exact r g
  · by_cases q : g = f
    · rw [q]; exact (keys_putF f y fs).1
    · refine (keys_putF f y fs).2 g (wi g fun z => hg ?_)
      show (if g = f then some u else mA g) = none
      rw [if_neg q]; exact z
theorem Inv.made (I : Inv X pins σ H s) : Inv X pins σ (upd (upd H s.heap.objs.size (.own (s.heap.objs.size + 1))) (s.heap.objs.size + 1) (.ins C s.heap.objs.size []))
    { s with heap := (s.heap.push PySem.W.emptyDict).push (PySem.W.instObj C s.heap.objs.size) } := by
  have e1 : (s.heap.push PySem.W.emptyDict).get? s.heap.objs.size = some PySem.W.emptyDict := Heap.get?_push_size s.heap rfl
  have e2 : ((s.heap.push PySem.W.emptyDict).push (PySem.W.instObj C s.heap.objs.size)).get? (s.heap.objs.size + 1) = some (PySem.W.instObj C s.heap.objs.size) := by
    have := Heap.get?_push_size (s.heap.push PySem.W.emptyDict) (o := PySem.W.instObj C s.heap.objs.size) rfl
    rwa [Heap.size_push] at this
  have e3 : (s.heap.push PySem.W.emptyDict).Ns s.heap.objs.size (fun _ => none) := ⟨PySem.W.emptyDict, #[], _, e1, rfl, (fun e he => absurd he (by simp)), fun _ => rfl⟩
  have I1 := I.laid (a := s.heap.objs.size) (o := .own (s.heap.objs.size + 1)) (h' := s.heap.push PySem.W.emptyDict) (t' := s.toks) (fun b u q => Heap.get?_push_of_some _ q) (Nat.le_refl _) ⟨_, e1⟩
  refine I1.laid (a := s.heap.objs.size + 1) (o := .ins C s.heap.objs.size []) (t' := s.toks) (fun b u q => Heap.get?_push_of_some _ q) (Nat.le_of_eq (Heap.size_push _ _)) ?_
  have ne : s.heap.objs.size ≠ s.heap.objs.size + 1 := Nat.ne_of_lt (Nat.lt_succ_self _)
  refine ⟨by rw [upd_ne ne, upd_same], Nat.zero_le _, ne, e2, fun _ => none, (Heap.Ns1.of_empty e3).at fun o q => Heap.get?_push_of_some _ q, fun _ => True.intro, fun y hy => absurd rfl hy⟩
theorem attr_of {prog : Program} {w : World} {env : Env} {e : Expr} {f : Str} {pos : Pos} {s : Shared} {Q : Value → Shared → Prop} (hb : attributeBase e f env (eval e env) = eval e env)
    (h : wpAny (model prog w) A (eval e env) (fun o s₁ => wpAny (model prog w) A (getAttr o f true) Q E s₁) E s) : wpAny (model prog w) A (eval (.Attribute e f pos) env) Q E s :=
  Attribute_any_ h (by rw [arm_eval_Attribute, hb])
end
def tFld (K : PySem.W.Frag) (ta : TE) (f : Str) : TE := fun σ H Q => ta σ H fun x H1 => ∃ a C dx fs v, x = .ref a ∧ H1 a = some (.ins C dx fs) ∧ Cls K C ∧ NoAttr K C f ∧ fs.lookup f = some v ∧ Q v H1
def sFld (K : PySem.W.Frag) (ta tv : TE) (f : Str) : TS := fun D σ H => tv σ H fun y H1 => ta σ H1 fun x H2 => ∃ a C dx fs, x = .ref a ∧ H2 a = some (.ins C dx fs) ∧ Cls K C ∧ NoAttr K C f ∧ fs.length < 1000 ∧
  D.nx σ (upd H2 a (.ins C dx (putF f y fs)))
section
variable {X : Cx} {o e value : Expr} {f : Str} {pos pos' tpos : Pos} {ta tv : TE}
theorem pe_fld (he : PE X e ta) (hb : attributeBase e f X.env (eval e X.env) = eval e X.env) : PE X (.Attribute e f pos) (tFld X.K ta f) := by
  intro pins s σ H Q I h
  refine attr_of hb (thn (he pins s σ H _ I h) fun u s1 ⟨x, H1, I1, rx, a, C, dx, fs, v, ex, ea, c, n, l, q⟩ => ?_)
  subst ex
  obtain rfl : u = Value.ref a := rx
  exact getattr_ok I1 ea c n l fun u' s2 I2 ru => ⟨v, H1, I2, ru, q⟩
theorem ps_fld (ha : PE X o ta) (hv : PE X value tv) (hs : swapsWith value (some (.Attribute o f pos')) pos.line X.env = pure false) : PS X (.Assign [.Attribute o f pos'] value pos) (sFld X.K ta tv f) := by
  intro pins s σ H D I h
  refine plainObj_wpAny_Assign_Attribute (thn (hv pins s σ H _ I h) fun u s1 ⟨y, H1, I1, ry, q⟩ => thn (ha pins s1 σ H1 _ I1 q) fun ov s2 ⟨x, H2, I2, rx, a, C, dx, fs, ex, ea, c, n, l, q2⟩ => ?_) hs
  subst ex
  obtain rfl : ov = Value.ref a := rx
  exact setattr_ok I2 ea c n l ry fun s3 I3 => ⟨σ, _, I3, q2⟩
end
section
variable {X : Cx} {pins : List (Addr × Obj)} {σ : St} {H : Hp} {s : Shared} {A : Around} {E : Value → Shared → Prop} {Q : Value → Shared → Prop} {c : Value} {b : Bool}
inductive TyOf (K : PySem.W.Frag) (H : Hp) : V → Value → Prop where
  | non : TyOf K H .non (.type "NoneType")
  | bl (x : Bool) : TyOf K H (.bl x) (.type "bool")
  | int (i : Int) : TyOf K H (.int i) (.type "int")
  | str (x : Str) : TyOf K H (.str x) (.type "str")
  | flt (x : UInt64) : TyOf K H (.flt x) (.type "float")
  | lst {a : Addr} {xs : List V} (e : H a = some (.lst xs)) : TyOf K H (.ref a) (.type "list")
  | frz {a : Addr} {o : Obj} {xs : List V} (e : H a = some (.frz o (.lst xs))) : TyOf K H (.ref a) (.type "list")
  | tup {a : Addr} {xs : List V} (e : H a = some (.tup xs)) : TyOf K H (.ref a) (.type "tuple")
  | dK {a : Addr} {kvs : List (Key × V)} (e : H a = some (.dK kvs)) : TyOf K H (.ref a) (.type "dict")
  | dT {a : Addr} {kvs : List (List Key × V)} (e : H a = some (.dT kvs)) : TyOf K H (.ref a) (.type "dict")
  | ins {a C dx : Addr} {fs : List (Str × V)} (e : H a = some (.ins C dx fs)) (cl : Cls K C) (ha : PySem.W.findIn K (.ref C) "__class__" = some (some (.builtin "object.__class__")))
      (hn : PySem.W.specialIn K (.builtin "object.__class__") "__get__" = some (some (.builtin "getset_descriptor.__get__"))) (htk : PySem.W.takesIn K (.builtin "object.__class__") = some true)
      (hm : PySem.W.mroIn K C (.type "object") = some true) : TyOf K H (.ref a) (.ref C)
theorem isinst_ok {x : V} {u t : Value} (I : Inv X pins σ H s) (rx : RelV x u) (ty : TyOf X.K H x t) (e : PySem.W.kitOne X.K t c = some b) (h : ∀ tk, Q (.bool b) { s with toks := tk }) :
    wpAny (model X.prog X.w) A (call (.builtin "isinstance") [u, c]) Q E s := by
  cases ty with
  | non => cases (show u = Value.none from rx); exact PySem.W.kia_one PySem.W.kitx_none I.kIn True.intro e (fun z => nomatch z) h
  | bl y => cases (show u = Value.bool y from rx); exact PySem.W.kia_one PySem.W.kitx_bool I.kIn True.intro e (fun z => nomatch z) h
  | int i => obtain ⟨t, q⟩ := (show ∃ t, u = Value.int i t from rx); cases q; exact PySem.W.kia_one PySem.W.kitx_int I.kIn True.intro e (fun z => nomatch z) h
  | str y => obtain ⟨t, q⟩ := (show ∃ t, u = Value.str y t from rx); cases q; exact PySem.W.kia_one PySem.W.kitx_str I.kIn True.intro e (fun z => nomatch z) h
  | flt y => obtain ⟨t, q⟩ := (show ∃ t, u = Value.float y t from rx); cases q; exact PySem.W.kia_one PySem.W.kitx_float I.kIn True.intro e (fun z => nomatch z) h
  | @lst a xs ea =>
    cases (show u = Value.ref a from rx)
    obtain ⟨_, _, n, _, h1⟩ := (show ObjOk X.prog X.w H s.heap a (.lst xs) from I.hok a _ ea)
    exact PySem.W.kia_one PySem.W.kitx_list I.kIn ⟨_, h1, rfl⟩ e (fun z => nomatch z) h
  | @frz a ob xs ea =>
    cases (show u = Value.ref a from rx)
    obtain ⟨_, _, _, n, _, h1⟩ := (show ObjOk X.prog X.w H s.heap a (.frz ob (.lst xs)) from I.hok a _ ea)
    exact PySem.W.kia_one PySem.W.kitx_list I.kIn ⟨_, h1, rfl⟩ e (fun z => nomatch z) h
  | @tup a xs ea =>
    cases (show u = Value.ref a from rx)
    obtain ⟨_, _, _, p⟩ := (show ObjOk X.prog X.w H s.heap a (.tup xs) from I.hok a _ ea)
    obtain ⟨o, h1, h2, _⟩ := p
    exact PySem.W.kia_one PySem.W.kitx_tuple I.kIn ⟨o, h1, h2⟩ e (fun z => nomatch z) h
  | @dK a kvs ea =>
    cases (show u = Value.ref a from rx)
    obtain ⟨_, _, vs, _, p⟩ := (show ObjOk X.prog X.w H s.heap a (.dK kvs) from I.hok a _ ea)
    obtain ⟨o, es, ep, h1, h2, _⟩ := p
    exact PySem.W.kia_one PySem.W.kitx_dict I.kIn ⟨o, h1, h2.1⟩ e (fun z => nomatch z) h
  | @dT a kvs ea =>
    cases (show u = Value.ref a from rx)
    obtain ⟨_, _, xs, _, o, es, ep, h1, h2, _⟩ := (show ObjOk X.prog X.w H s.heap a (.dT kvs) from I.hok a _ ea)
    exact PySem.W.kia_one PySem.W.kitx_dict I.kIn ⟨o, h1, h2.1⟩ e (fun z => nomatch z) h
  | @ins a C dx fs ea cl ha hn htk hm =>
    cases (show u = Value.ref a from rx)
    obtain ⟨mA, O, _⟩ := ins_get I.hok ea
    obtain ⟨od, J, _⟩ := O.look
    exact PySem.W.kia_one (PySem.W.kitx_own (cl.get _) cl.hd ha hn htk hm) I.kIn J e (fun z => nomatch z) h
end
end L2
namespace L2
open PySem PySem.Spec PyProof.Rows
structure Room (k : Nat) (A : Around) : Prop where
  hd : A.handled = none
  dp : A.depth + 3 * k + 5 < recursionLimit
  un : A.units + 16 * k + 200 < cLine
theorem Room.mono {j k : Nat} {A : Around} (r : Room k A) (h : j ≤ k) : Room j A := ⟨r.hd, by have := r.dp; omega, by have := r.un; omega⟩
theorem Room.deeper {k : Nat} {A : Around} (r : Room (k + 1) A) (env : Env) : Room k (A.deeper env) :=
  ⟨r.hd, by have := r.dp; show A.depth + 1 + 3 * k + 5 < _; omega, by have := r.un; show A.units + 3 + 16 * k + 200 < _; omega⟩
theorem make_depth {A : Around} {C : Addr} {us : List Value} {kw : List (Str × Value)} : (A.under (.builtin "type.__call__" ⟨.ref C :: us, kw⟩)).depth = A.depth + 1 := by
  first | rfl | simp [Around.under, Code.weight, Code.isCreation, Code.isGuard, Code.isCaller, Code.frames, Code.isFrame, guardIds]
theorem make_units {A : Around} {C : Addr} {us : List Value} {kw : List (Str × Value)} : (A.under (.builtin "type.__call__" ⟨.ref C :: us, kw⟩)).units = A.units + 1 := by
  first | rfl | simp [Around.under, Code.cUnits, Code.frames, Code.isFrame]
theorem Room.make {k : Nat} {A : Around} (r : Room (k + 1) A) (C : Addr) (us : List Value) (kw : List (Str × Value)) : Room k (A.under (.builtin "type.__call__" ⟨.ref C :: us, kw⟩)) :=
  ⟨r.hd, by have := r.dp; rw [make_depth]; omega, by have := r.un; rw [make_units]; omega⟩
theorem Room.depth {k : Nat} {A : Around} (r : Room k A) : A.depth < recursionLimit := by have := r.dp; omega
theorem Room.units {k : Nat} {A : Around} (r : Room k A) : A.units + 64 < cLine := by have := r.un; omega
def tNil : TA := fun _ H Q => Q [] H
def tCons (ta : TE) (tr : TA) : TA := fun σ H Q => ta σ H fun x H1 => tr σ H1 fun xs H2 => Q (x :: xs) H2
section
variable {X : Cx} {e : Expr} {es : List Expr} {te : TE} {t : TA} {pos : Pos}
theorem pa_nil : PA X [] tNil := fun _ _ _ _ H Q I h => Calls.spliced_nil ⟨[], H, I, .nil, h⟩
theorem pa_cons (ha : PE X e te) (hr : PA X es t) (hs : starEach (e :: es) X.env = (false, eval e X.env) :: starEach es X.env := by rfl) : PA X (e :: es) (tCons te t) := by
  intro pos pins s σ H Q I h
  rw [hs]
  show wpAny _ _ (spliced ((false, eval e X.env) :: backTo pos (starEach es X.env))) _ _ s
  refine Calls.spliced_cons (thn (ha pins s σ H _ I h) fun u s1 ⟨x, H1, I1, r1, q1⟩ => ?_)
  exact thn (hr pos pins s1 σ H1 _ I1 q1) fun us s2 ⟨xs, H2, I2, r2, q2⟩ => ⟨x :: xs, H2, I2, .cons r1 r2, q2⟩
def tTup (t : TA) : TE := fun σ H Q => t σ H fun xs H1 => xs.length ≤ sizeLine ∧ ∀ p, H1 p = none → Q (.ref p) (upd H1 p (.tup xs))
def tLst (t : TA) : TE := fun σ H Q => t σ H fun xs H1 => xs.length ≤ sizeLine ∧ ∀ p, H1 p = none → Q (.ref p) (upd H1 p (.lst xs))
theorem pe_tup {x1} (h : PA X es t) : PE X (.Tuple es x1 pos) (tTup t) := by
  intro pins s σ H Q I hq
  refine wpAny_Tuple_spliced (thn (h pos pins s σ H _ I hq) fun us s1 ⟨xs, H1, I1, r, z, q⟩ => ⟨by rw [← r.length]; exact z, ?_⟩)
  have hf : H1 s1.heap.objs.size = none := I1.hok.fresh (Nat.le_refl _)
  refine ⟨.ref s1.heap.objs.size, upd H1 s1.heap.objs.size (.tup xs), I1.laid (t' := s1.toks) (fun b u e => Heap.get?_push_of_some _ e) (Nat.le_refl _) ?_, rfl, q _ hf⟩
  exact ⟨z, us, r, ⟨_, Heap.get?_push_size _ rfl, rfl, _, rfl⟩⟩
theorem pe_lst (h : PA X es t) : PE X (.List es pos) (tLst t) := by
  intro pins s σ H Q I hq
  refine wpAny_List_spliced (thn (h pos pins s σ H _ I hq) fun us s1 ⟨xs, H1, I1, r, z, q⟩ => ⟨by rw [← r.length]; exact z, ?_⟩)
  have hf : H1 s1.heap.objs.size = none := I1.hok.fresh (Nat.le_refl _)
  refine ⟨.ref s1.heap.objs.size, upd H1 s1.heap.objs.size (.lst xs), I1.laid (t' := s1.toks) (fun b u e => Heap.get?_push_of_some _ e) (Nat.le_refl _) ?_, rfl, q _ hf⟩
  exact ⟨z, us, 0, r, Heap.get?_push_size _ rfl⟩
end
abbrev Sp := List V → Hp → VK → XK → Prop
abbrev CXT := List Env → Hp → Shared → XK → Value → Shared → Prop
structure Env0 (P : Program) (w : World) (K : PySem.W.Frag) (mg : Str → Option Value) (base : Heap) (A : Around) (outer : List Env) (s : Shared) (H : Hp) : Prop where
  frames : A.frames = some outer
  mod : Mod K mg base
  bs : ∀ b o, base.get? b = some o → s.heap.get? b = some o ∧ H b = none
  bsz : base.objs.size ≤ s.heap.objs.size
  funs : s.heap.FunFrames base outer
  frf : ∀ b ∈ frs outer, H b = none
  hok : HOk P w H s.heap
  bare : AllBare s.gens
def CE (outer : List Env) (P : Program) (w : World) (H : Hp) (s : Shared) (Q : VK) (u : Value) (s' : Shared) : Prop :=
  ∃ v H', s'.os = s.os ∧ AllBare s'.gens ∧ Un (frs outer) [] H H' s.heap s'.heap ∧ HOk P w H' s'.heap ∧ RelV v u ∧ Q v H'
def CR (CX : CXT) (outer : List Env) (P : Program) (w : World) (H : Hp) (s : Shared) (Q : VK) (E : XK) (r : Result) (s' : Shared) : Prop :=
  match r with
  | .ok (.ret u) => CE outer P w H s Q u s'
  | .ok _ => False
  | .error e => CX outer H s E e s'
structure FnOk (P : Program) (w : World) (K : PySem.W.Frag) (mg : Str → Option Value) (base : Heap) (CX : CXT) (k : Nat) (f : Addr) (fd : FuncData) (ps : List Str) (sp : Sp) : Prop where
  len : ∀ vs H Q E, sp vs H Q E → vs.length = ps.length
  run : ∀ (A : Around) (outer : List Env) (s : Shared) (H : Hp) (args : Args) (us : List Value) (vs : List V) (Q : VK) (E : XK), Room k A → Env0 P w K mg base A outer s H → BindsTo s fd args (ps.zip us) → Vals vs us → sp vs H Q E →
    codeAny (model P w) A (.call (.ref f) args) (CR CX outer P w H s Q E) s
theorem Env0.make {P : Program} {w : World} {K : PySem.W.Frag} {mg : Str → Option Value} {base : Heap} {A : Around} {outer : List Env} {s : Shared} {H : Hp} (e : Env0 P w K mg base A outer s H) (C : Addr) (us : List Value) (kw : List (Str × Value)) :
    Env0 P w K mg base (A.under (.builtin "type.__call__" ⟨.ref C :: us, kw⟩)) outer s H := ⟨by first | exact e.frames | (simpa [Around.under, Code.envs, Code.isFrame, pushEnvs] using e.frames), e.mod, e.bs, e.bsz, e.funs, e.frf, e.hok, e.bare⟩
section
variable {X : Cx} {pins : List (Addr × Obj)} {σ : St} {H : Hp} {s s' : Shared}
theorem Inv.env0 (I : Inv X pins σ H s) : Env0 X.prog X.w X.K X.mg X.base X.A X.stack s H :=
  ⟨I.ok.frames, I.ok.mod, I.bs, Nat.le_trans I.ok.bsz I.sz, I.stack, I.stkFree, I.hok, I.bare⟩
theorem Inv.after {Q : VK} {u : Value} (I : Inv X pins σ H s) (h : CE X.stack X.prog X.w H s Q u s') : EP X pins σ Q u s' := by
  obtain ⟨v, H', os, bare, un, hok, r, q⟩ := h
  obtain ⟨hh, g, d, t, os'⟩ := s'
  obtain rfl : os' = s.os := os
  exact ⟨v, H', I.call (h' := hh) (g' := g) (d' := d) (t' := t) (ch := []) un hok bare (fun b z => absurd z (by simp)), r, q⟩
end
def tCall (sp : Sp) (dvs : List V) (E : XK) (t : TA) : TE := fun σ H Q => t σ H fun vs H1 => sp (vs ++ dvs) H1 Q E
def tMeth (C : Addr) (m : Str) (sp : Sp) (dvs : List V) (E : XK) (ta : TE) (t : TA) : TE := fun σ H Q => ta σ H fun x H1 => ∃ a dx fs, x = .ref a ∧ H1 a = some (.ins C dx fs) ∧ fs.lookup m = none ∧
  t σ H1 fun vs H2 => sp (x :: (vs ++ dvs)) H2 Q E
def tMake (C : Addr) (sp : Sp) (dvs : List V) (E : XK) (t : TA) : TE := fun σ H Q => t σ H fun vs H1 => ∀ x dx, H1 x = none → H1 dx = none → dx ≠ x →
  sp (.ref x :: (vs ++ dvs)) (upd (upd H1 dx (.own x)) x (.ins C dx [])) (fun v H2 => v = .non ∧ Q (.ref x) H2) E
def Binds (K : PySem.W.Frag) (fd : FuncData) (ps : List Str) (ds : List Value) : Prop :=
  ∀ (s : Shared) (us : List Value), K.In s.heap → (us ++ ds).length = ps.length → BindsTo s fd ⟨us, []⟩ (ps.zip (us ++ ds))
theorem Binds.all {K : PySem.W.Frag} {fd : FuncData} {ps : List Str} (h : ∀ us : List Value, us.length = ps.length → bindArgs fd ⟨us, []⟩ = pure (ps.zip us)) : Binds K fd ps [] := fun s us _ hl => by
  rw [List.append_nil] at hl ⊢
  exact .of_eq (h us hl)
def Passes (CX : CXT) (X : Cx) (E : XK) : Prop := ∀ (pins : List (Addr × Obj)) (σ : St) (H : Hp) (s : Shared) (e : Value) (s' : Shared), Inv X pins σ H s → CX X.stack H s E e s' → X.xe e s'
section
variable {X : Cx} {CX : CXT} {k : Nat} {f C : Addr} {fd : FuncData} {ps : List Str} {sp : Sp} {dvs : List V} {ds : List Value} {E : XK} {x m : Str} {p pos apos : Pos} {e o : Expr} {es : List Expr} {ta : TE} {t : TA}
theorem run_fn {pins : List (Addr × Obj)} {σ : St} {H : Hp} {s : Shared} {Q : VK} {us : List Value} {vs : List V} (F : FnOk X.prog X.w X.K X.mg X.base CX k f fd ps sp) (hr : Room k X.A) (hb : Binds X.K fd ps ds) (hd : Vals dvs ds) (hx : Passes CX X E)
    (I : Inv X pins σ H s) (r : Vals vs us) (h : sp (vs ++ dvs) H Q E) : wpAny (model X.prog X.w) X.A (call (.ref f) us) (EP X pins σ Q) X.xe s := by
  have r2 : Vals (vs ++ dvs) (us ++ ds) := r.append hd
  have hl : (us ++ ds).length = ps.length := by rw [← r2.length]; exact F.len _ _ _ _ h
  refine wpAny_call (codeAny_mono (F.run X.A X.stack s H ⟨us, []⟩ (us ++ ds) (vs ++ dvs) Q E hr I.env0 (hb s us I.kIn hl) r2 h) fun r s' hq => ?_)
  cases r with
  | error e => exact hx pins σ H s e s' I hq
  | ok fl =>
    cases fl with
    | ret u => exact I.after hq
    | next => exact False.elim hq
    | brk => exact False.elim hq
    | cont => exact False.elim hq
theorem pe_call (F : FnOk X.prog X.w X.K X.mg X.base CX k f fd ps sp) (hr : Room k X.A) (hg : Gl X x) (hm : X.mg x = some (.ref f)) (hk : PySem.W.keepIn X.K (.ref f) = true) (hb : Binds X.K fd ps ds) (hd : Vals dvs ds) (hx : Passes CX X E)
    (ha : PA X (e :: es) t) (hdb : (x == ("__debug__" : Str)) = false := by decide) (he : starEach (e :: es) X.env = (false, eval e X.env) :: starEach es X.env := by rfl) (hpl : (backTo pos (starEach es X.env)).any (·.1) = false := by rfl) :
    PE X (.Call (.Name x p) (e :: es) [] pos) (tCall sp dvs E t) := by
  intro pins s σ H Q I h
  refine wpAny_Call_Name_kw (ld_glob I hg hm ?_ hdb)
  refine PySem.W.callWith_K (h₀ := X.base) I.ok.mod.kin hk (thn (ha pos pins s σ H _ I h) fun us s1 ⟨vs, H1, I1, r, q⟩ => ⟨I1.kIn, ?_⟩) he hpl
  exact run_fn F hr hb hd hx I1 r q
theorem pe_meth {pl : Sem Bool} (he : PE X o ta) (c : Cls X.K C) (hm : Meth X.K C m f) (F : FnOk X.prog X.w X.K X.mg X.base CX k f fd ps sp) (hr : Room k X.A) (hb : Binds X.K fd ps ds) (hd : Vals dvs ds) (hx : Passes CX X E) (ha : PA X (e :: es) t)
    (hst : starEach (e :: es) X.env = (false, eval e X.env) :: starEach es X.env := by rfl) (hpl : (backTo pos (starEach es X.env)).any (·.1) = false := by rfl)
    (ht : eval (.Call (.Attribute o m apos) (e :: es) [] pos) X.env = (do
      let ov ← eval o X.env
      standAt apos.atName
      let (f, first) ← holding [ov] (getMethod ov m pl)
      callWith pos f first (backTo pos (starEach (e :: es) X.env)) (backToKw pos (keywordEach [] X.env))) := by rfl) :
    PE X (.Call (.Attribute o m apos) (e :: es) [] pos) (tMeth C m sp dvs E ta t) := by
  intro pins s σ H Q I h
  refine PySem.W.methodCall_KW (pl := pl) (thn (he pins s σ H _ I h) fun u s1 ⟨x, H1, I1, rx, a, dx, fs, ex, ea, l, q⟩ => ?_) ht
  subst ex
  obtain rfl : u = Value.ref a := rx
  refine getmeth_ok I1 ea c hm l ?_
  refine PySem.W.callWith_K (first := [.ref a]) (h₀ := X.base) I.ok.mod.kin hm.kp (thn (ha pos pins s1 σ H1 _ I1 q) fun us s2 ⟨vs, H2, I2, r, q2⟩ => ⟨I2.kIn, ?_⟩) hst hpl
  exact run_fn (us := .ref a :: us) (vs := .ref a :: vs) F hr hb hd hx I2 (.cons rfl r) q2
structure Mk (K : PySem.W.Frag) (C f : Addr) : Prop where
  makes : PySem.W.makesIn K C = true
  init : PySem.W.findIn K (.ref C) "__init__" = some (some (.ref f))
  fn : PySem.W.isFn K (.ref f) = true
  kp : PySem.W.keepIn K (.ref C) = true
theorem run_make {pins : List (Addr × Obj)} {σ : St} {H : Hp} {s : Shared} {Q : VK} {us : List Value} {vs : List V} (M : Mk X.K C f) (F : FnOk X.prog X.w X.K X.mg X.base CX k f fd ps sp) (hr : Room (k + 1) X.A) (hb : Binds X.K fd ps ds) (hd : Vals dvs ds)
    (hx : Passes CX X E) (I : Inv X pins σ H s) (r : Vals vs us)
    (h : ∀ x dx, H x = none → H dx = none → dx ≠ x → sp (.ref x :: (vs ++ dvs)) (upd (upd H dx (.own x)) x (.ins C dx [])) (fun v H2 => v = .non ∧ Q (.ref x) H2) E) :
    wpAny (model X.prog X.w) X.A (call (.ref C) us) (EP X pins σ Q) X.xe s := by
  have hq := h (s.heap.objs.size + 1) s.heap.objs.size (I.hok.fresh (Nat.le_succ _)) (I.hok.fresh (Nat.le_refl _)) (Nat.ne_of_lt (Nat.lt_succ_self _))
  have I2 := Inv.made (C := C) I
  have r2 : Vals (V.ref (s.heap.objs.size + 1) :: (vs ++ dvs)) (Value.ref (s.heap.objs.size + 1) :: (us ++ ds)) := .cons rfl (r.append hd)
  have hl : (Value.ref (s.heap.objs.size + 1) :: us ++ ds).length = ps.length := by
    have e := r2.length
    rw [F.len _ _ _ _ hq] at e
    exact e.symm
  refine wpAny_call (make_map (f := f) I.kIn M.makes M.init (beq_iff_eq.mp M.fn) (codeAny_mono (F.run _ X.stack _ _ ⟨Value.ref (s.heap.objs.size + 1) :: us, []⟩ (Value.ref (s.heap.objs.size + 1) :: (us ++ ds)) _ _ E (hr.make C us [])
    (I2.env0.make C us []) (hb _ (Value.ref (s.heap.objs.size + 1) :: us) I2.kIn hl) r2 hq) fun r s' hq' => ?_))
  cases r with
  | error e => exact hx pins σ _ _ e s' I2 hq'
  | ok fl =>
    cases fl with
    | ret u =>
      obtain ⟨v, H', I3, rv, ev, q3⟩ := I2.after hq'
      subst ev
      exact ⟨rv, ⟨V.ref (s.heap.objs.size + 1), H', I3, rfl, q3⟩⟩
    | next => exact False.elim hq'
    | brk => exact False.elim hq'
    | cont => exact False.elim hq'
theorem pe_make (M : Mk X.K C f) (F : FnOk X.prog X.w X.K X.mg X.base CX k f fd ps sp) (hr : Room (k + 1) X.A) (hg : Gl X x) (hm : X.mg x = some (.ref C)) (hb : Binds X.K fd ps ds) (hd : Vals dvs ds) (hx : Passes CX X E)
    (ha : PA X (e :: es) t) (hdb : (x == ("__debug__" : Str)) = false := by decide) (he : starEach (e :: es) X.env = (false, eval e X.env) :: starEach es X.env := by rfl) (hpl : (backTo pos (starEach es X.env)).any (·.1) = false := by rfl) :
    PE X (.Call (.Name x p) (e :: es) [] pos) (tMake C sp dvs E t) := by
  intro pins s σ H Q I h
  refine wpAny_Call_Name_kw (ld_glob I hg hm ?_ hdb)
  refine PySem.W.callWith_K (h₀ := X.base) I.ok.mod.kin M.kp (thn (ha pos pins s σ H _ I h) fun us s1 ⟨vs, H1, I1, r, q⟩ => ⟨I1.kIn, ?_⟩) he hpl
  exact run_make M F hr hb hd hx I1 r q
end
section
variable {X : Cx} {CX : CXT} {k : Nat} {f C : Addr} {fd : FuncData} {ps ks : List Str} {sp : Sp} {E : XK} {x m : Str} {p pos apos kpos : Pos} {e o : Expr} {es : List Expr} {kws : List Keyword} {te ta : TE} {t tk : TA} {nm : Option Str}
variable {g : List Value → List Value → List Value} {gV : List V → List V → List V}
end
structure FnScope (N P : List Str) (sc : Scope) : Prop where
  kind : sc.kind = .function
  co : sc.isCoroutine = false
  gen : sc.isGenerator = false
  nd : N.Nodup
  pre : N.take P.length = P
  par : ∀ x ∈ P, sc.names.lookup x = some .local ∨ sc.names.lookup x = some .cell
  nofree : ∀ y ∈ sc.names, y.2 ≠ .free
theorem bindL_out {kindOf : Str → Option NameKind} {x : Str} : ∀ {binds : List (Str × Value)} {m : Str → Option Value}, (∀ v, (x, v) ∉ binds) → bindL kindOf binds m x = m x
  | [], _, _ => rfl
  | (n, v) :: r, m, h => by
    unfold bindL
    rw [bindL_out fun w hw => h w (List.mem_cons_of_mem _ hw)]
    split
    · have : x ≠ n := by rintro rfl; exact h v List.mem_cons_self
      simp [this]
    · rfl
theorem bindC_out {kindOf : Str → Option NameKind} {x : Str} : ∀ {binds : List (Str × Value)} {m : Str → Option Value}, (∀ v, (x, v) ∉ binds) → bindC kindOf binds m x = m x
  | [], _, _ => rfl
  | (n, v) :: r, m, h => by
    unfold bindC
    rw [bindC_out fun w hw => h w (List.mem_cons_of_mem _ hw)]
    split
    · rfl
    · have : x ≠ n := by rintro rfl; exact h v List.mem_cons_self
      simp [this]
theorem bindL_get {kindOf : Str → Option NameKind} {x : Str} {v : Value} : ∀ {P : List Str} {vs : List Value} {i : Nat} {m : Str → Option Value}, P.Nodup → P[i]? = some x → vs[i]? = some v → kindOf x = some .local →
    bindL kindOf (P.zip vs) m x = some v
  | [], _, _, _, _, h, _, _ => by simp at h
  | _ :: _, [], _, _, _, _, h, _ => by simp at h
  | p :: P, w :: vs, 0, m, nd, h1, h2, hk => by
    simp at h1 h2; subst h1; subst h2
    show bindL kindOf ((p, w) :: P.zip vs) m p = _
    unfold bindL
    rw [bindL_out fun v hv => (List.nodup_cons.mp nd).1 (List.of_mem_zip hv).1, if_pos hk]
    simp
  | p :: P, w :: vs, i + 1, m, nd, h1, h2, hk => by
    show bindL kindOf ((p, w) :: P.zip vs) m x = _
    unfold bindL
    exact bindL_get (i := i) (List.nodup_cons.mp nd).2 (by simpa using h1) (by simpa using h2) hk
theorem bindC_get {kindOf : Str → Option NameKind} {x : Str} {v : Value} : ∀ {P : List Str} {vs : List Value} {i : Nat} {m : Str → Option Value}, P.Nodup → P[i]? = some x → vs[i]? = some v → kindOf x ≠ some .local →
    bindC kindOf (P.zip vs) m x = some v
  | [], _, _, _, _, h, _, _ => by simp at h
  | _ :: _, [], _, _, _, _, h, _ => by simp at h
  | p :: P, w :: vs, 0, m, nd, h1, h2, hk => by
    simp at h1 h2; subst h1; subst h2
    show bindC kindOf ((p, w) :: P.zip vs) m p = _
    unfold bindC
    rw [bindC_out fun v hv => (List.nodup_cons.mp nd).1 (List.of_mem_zip hv).1, if_neg hk]
    simp
  | p :: P, w :: vs, i + 1, m, nd, h1, h2, hk => by
    show bindC kindOf ((p, w) :: P.zip vs) m x = _
    unfold bindC
    exact bindC_get (i := i) (List.nodup_cons.mp nd).2 (by simpa using h1) (by simpa using h2) hk
def start (N : List Str) (vs : List V) : St := vs.map some ++ List.replicate (N.length - vs.length) none
def cxOf (CX : CXT) (P : Program) (w : World) (K : PySem.W.Frag) (mg : Str → Option Value) (base : Heap) (N : List Str) (qual : Str) (scope : Scope) (f : Addr) (cd : Value) (A : Around) (outer : List Env) (s : Shared) (H : Hp) (E : XK) : Cx where
  prog := P
  w := w
  K := K
  mg := mg
  base := base
  A := A.deeper (envOfC qual scope s.heap.objs.size f cd)
  N := N
  s₀ := s
  H₀ := H
  env := envOfC qual scope s.heap.objs.size f cd
  outer := outer
  stack := envOfC qual scope s.heap.objs.size f cd :: outer
  ex := []
  calm := true
  fn := fun _ => true
  pn := []
  xe := fun e s' => wpAny (model P w) (A.deeper (envOfC qual scope s.heap.objs.size f cd)) (leaving (envOfC qual scope s.heap.objs.size f cd) e) (fun _ s'' => CX outer H s E e s'') (fun e' s'' => CX outer H s E e' s'') s'
theorem cell_has {sc : Scope} {n : Nat} {x : Str} (h : sc.names.lookup x = some .cell) : ∃ c, (cellsFrom n sc.names []).lookup x = some c := by
  have q := PySem.W.cellsFrom_some sc.names n [] (.inl h)
  exact Option.isSome_iff_exists.mp q
theorem inv_start {CX : CXT} {P : Program} {w : World} {K : PySem.W.Frag} {mg : Str → Option Value} {base : Heap} {N ps : List Str} {qual : Str} {scope : Scope} {f : Addr} {cd : Value} {A : Around} {outer : List Env} {s s1 : Shared} {H : Hp} {E : XK} {us : List Value} {vs : List V}
    (S : FnScope N ps scope) (hd : A.handled = none) (e0 : Env0 P w K mg base A outer s H) (hl : vs.length = ps.length) (r : Vals vs us)
    (x : InCallC s s.heap.objs.size (bindL (envOfC qual scope s.heap.objs.size f cd).kindOf (ps.zip us) fun _ => none) (cellsFrom (s.heap.objs.size + 1) scope.names []) (bindC (envOfC qual scope s.heap.objs.size f cd).kindOf (ps.zip us) fun _ => none) s1) :
    Inv (cxOf CX P w K mg base N qual scope f cd A outer s H E) [] (start N vs) H s1 := by
  have hpl : ps.length ≤ N.length := by have := congrArg List.length S.pre; rw [List.length_take] at this; omega
  obtain ⟨h1, tk, rfl, hk⟩ := x.done
  have noA : ∀ b : Addr, b ∉ (cxOf CX P w K mg base N qual scope f cd A outer s H E).ex := fun b z => absurd (show b ∈ ([] : List Addr) from z) (by simp)
  refine ⟨⟨e0.mod, S.kind, rfl, rfl, Nat.le_refl _, fun y z c h1 h2 => ?_, fun y hy => ?_, fun y c _ h => ?_, fun _ => hd, Around.frames_deeper e0.frames, .inr ⟨rfl, rfl⟩, fun b z => absurd z (noA b), e0.bs, e0.bsz, fun b _ _ => noA b, fun b z => absurd z (noA b), e0.funs, e0.frf⟩,
    rfl, e0.bare, Un.kept hk, ⟨_, x.toInCall.ns, fun i y v h1 h2 h3 => ?_⟩, fun y c h => ⟨_, x.cell y c h⟩, e0.hok.fresh (Nat.le_refl _), fun y c h => ?_, fun p hp => absurd (show p ∈ ([] : List (Addr × Obj)) from hp) (by simp), e0.hok.kept hk, ?_⟩
  · exact name_of_addr x.apart (PySem.mem_of_lookup h1) (PySem.mem_of_lookup h2)
  · have hy : scope.names.lookup y = some .cell ∨ scope.names.lookup y = some .free := hy
    rcases hy with hy | hy
    · exact cell_has hy
    · exact absurd rfl (S.nofree _ (PySem.mem_of_lookup hy))
  · exact Nat.le_of_lt (x.above y c (PySem.mem_of_lookup h))
  · have hi : i < vs.length := by
      unfold start at h2
      by_cases hi : i < vs.length
      · exact hi
      · rw [List.getElem?_append_right (by simpa using hi)] at h2
        rw [List.getElem?_replicate] at h2
        split at h2 <;> cases h2
    have ha : vs[i]? = some v := by
      unfold start at h2
      rw [List.getElem?_append_left (by simpa using hi), List.getElem?_map] at h2
      cases e : vs[i]? with
      | none => rw [e] at h2; cases h2
      | some a => rw [e] at h2; cases h2; rfl
    obtain ⟨u, hu, rv⟩ := r.get ha
    have hp : ps[i]? = some y := by
      rw [← S.pre, List.getElem?_take_of_lt (by omega)]; exact h1
    have ndP : ps.Nodup := by rw [← S.pre]; exact S.nd.sublist (List.take_sublist _ _)
    refine ⟨u, rv, ?_⟩
    rcases S.par y (List.mem_of_getElem? hp) with k | k
    · exact .inl ⟨k, bindL_get ndP hp hu k⟩
    · obtain ⟨c, e⟩ := cell_has (n := s.heap.objs.size + 1) k
      refine .inr ⟨.inl k, c, e, ?_⟩
      have q := x.cell y c e
      rw [bindC_get ndP hp hu (by show scope.names.lookup y ≠ _; rw [k]; decide)] at q
      exact q
  · exact e0.hok.fresh (Nat.le_of_lt (x.above y c (PySem.mem_of_lookup h)))
  · unfold start
    show _ = N.length
    rw [List.length_append, List.length_map, List.length_replicate]
    omega
theorem fn_of {CX : CXT} {P : Program} {w : World} {K : PySem.W.Frag} {mg : Str → Option Value} {base : Heap} {k : Nat} {f : Addr} {name qual : Str} {params : Arguments} {body : List Stmt} {scope : Scope} {dV kV doc pm cdv ct oc : Value} {an od : Option Addr}
    {osl : Array (Option Value)} {N ps : List Str} {sp : Sp} (lk : K.lookup f = some ⟨oc, od, .func (PySem.W.fnOf name qual params body scope dV kV doc pm an cdv ct), osl⟩) (hcd : PySem.W.codeIn K cdv qual = true) (S : FnScope N ps scope)
    (len : ∀ vs H Q E, sp vs H Q E → vs.length = ps.length)
    (hbody : ∀ (A : Around) (outer : List Env) (s : Shared) (H : Hp) (vs : List V) (Q : VK) (E : XK), Room k (A.deeper (envOfC qual scope s.heap.objs.size f cdv)) → sp vs H Q E →
      ∃ t, PSs (cxOf CX P w K mg base N qual scope f cdv A outer s H E) body t ∧ t { nx := fun _ H' => Q .non H', rt := Q } (start N vs) H) :
    FnOk P w K mg base CX (k + 1) f (PySem.W.fnOf name qual params body scope dV kV doc pm an cdv ct) ps sp := by
  refine ⟨len, fun A outer s H args us vs Q E hr e0 hb r hsp => ?_⟩
  have hl := len _ _ _ _ hsp
  have KX : K.In s.heap := e0.mod.kin.keeps fun b o e => (e0.bs b o e).1
  have lim : s.heap.NoLimit := e0.mod.nolimit.keeps fun b o e => (e0.bs b o e).1
  have hkind : ∀ y ∈ ps.zip us, scope.names.lookup y.1 = some .local ∨ (scope.names.lookup y.1 = some .cell ∧ ((cellsFrom (s.heap.objs.size + 1) scope.names []).lookup y.1).isSome = true) := fun ⟨n, v⟩ hy => by
    rcases S.par n (List.of_mem_zip hy).1 with q | q
    · exact .inl q
    · exact .inr ⟨q, PySem.W.cellsFrom_some _ _ _ (.inl q)⟩
  refine codeAny_call_function hr.depth (KX _ _ lk) rfl S.co S.gen rfl (PySem.W.codeRec_of KX hcd) (hb _ _ _ _ ?_)
  refine wpAny_newFunctionEnv_cells S.kind hkind fun env he s1 x => ?_
  subst he
  refine ⟨lim.keeps x.toInCall.keep, codeAny_func ?_⟩
  obtain ⟨t, ht, hq⟩ := hbody A outer s H vs Q E (hr.deeper _) hsp
  have I : Inv (cxOf CX P w K mg base N qual scope f cdv A outer s H E) [] (start N vs) H s1 := inv_start S hr.hd e0 hl r x
  refine wpAny_mono (ht [] s1 (start N vs) H _ I hq) (fun fl s' hs => ?_) fun e s' hs => hs
  have fin : ∀ {σ' : St} {H' : Hp} {v : V} {u : Value}, Inv (cxOf CX P w K mg base N qual scope f cdv A outer s H E) [] σ' H' s' → RelV v u → Q v H' → CE outer P w H s Q u s' :=
    fun {σ' H' v u} J rv q => ⟨v, H', J.os, J.bare, J.base, J.hok, rv, q⟩
  cases fl with
  | ret u =>
    obtain ⟨v, σ', H', J, rv, q⟩ := hs
    exact fin J rv q
  | next =>
    obtain ⟨σ', H', J, q⟩ := hs
    exact fin (v := V.non) (u := Value.none) J rfl q
  | brk =>
    obtain ⟨_, _, _, q⟩ := hs
    exact False.elim q
  | cont =>
    obtain ⟨_, _, _, q⟩ := hs
    exact False.elim q
end L2
namespace L2
open PySem PySem.Spec PyProof.Rows
section
variable {X : Cx} {x : Str} {p pos : Pos} {e : Expr} {es : List Expr} {t : TA} {id T : String} {r : List V → Hp → VK → Prop}
def tCB (r : List V → Hp → VK → Prop) (t : TA) : TE := fun σ H Q => t σ H fun vs H1 => r vs H1 Q
theorem pe_callB (hc : CallR X (.builtin id) r) (hg : Gl X x) (hm : X.mg x = none) (hv : bootBuiltins x = some (.builtin id)) (ha : PA X (e :: es) t) (hn : x ≠ "__name__" := by decide) (hdb : (x == ("__debug__" : Str)) = false := by decide)
    (he : starEach (e :: es) X.env = (false, eval e X.env) :: starEach es X.env := by rfl) (hpl : (backTo pos (starEach es X.env)).any (·.1) = false := by rfl) : PE X (.Call (.Name x p) (e :: es) [] pos) (tCB r t) := by
  intro pins s σ H Q I h
  refine wpAny_Call_Name_kw (ld_blt I hg hm hv ?_ hn hdb)
  exact PyProof.Rows.callWith_builtin1 (thn (ha pos pins s σ H _ I h) fun us s1 ⟨vs, H1, I1, r1, q1⟩ => hc pins s1 σ H1 vs us Q I1 r1 q1) he hpl
theorem pe_callTy (hc : CallR X (.type T) r) (hg : Gl X x) (hm : X.mg x = none) (hv : bootBuiltins x = some (.type T)) (ha : PA X (e :: es) t) (hn : x ≠ "__name__" := by decide) (hdb : (x == ("__debug__" : Str)) = false := by decide)
    (he : starEach (e :: es) X.env = (false, eval e X.env) :: starEach es X.env := by rfl) (hpl : (backTo pos (starEach es X.env)).any (·.1) = false := by rfl) : PE X (.Call (.Name x p) (e :: es) [] pos) (tCB r t) := by
  intro pins s σ H Q I h
  refine wpAny_Call_Name_kw (ld_blt I hg hm hv ?_ hn hdb)
  exact PyProof.Rows.callWith_type1 (thn (ha pos pins s σ H _ I h) fun us s1 ⟨vs, H1, I1, r1, q1⟩ => hc pins s1 σ H1 vs us Q I1 r1 q1) he hpl
end
end L2
namespace HT
open PySem PyProof.Rows
section
open PySem.SeqAt
open PySem.AutoSeq1 (wpAny_loadPart')
open PySem.MeetsSeq PySem.MeetsSeq2 PySem.MeetsSeq3
end
section
variable {prog : Program} {w : World} {A : Around} {E : Value → Shared → Prop} {s : Shared}
theorem cat_tup {t b : Addr} {vs ws : List Value} {Q : Value → Shared → Prop} (ht : IsTup s.heap t vs.toArray) (hb : IsTup s.heap b ws.toArray) (hv : vs ≠ [])
    (h1 : ws = [] → Q (.ref t) s) (h2 : ws ≠ [] → Q (.ref s.heap.objs.size) { s with heap := s.heap.push { cls := .type "tuple", data := .seq (vs ++ ws).toArray } })
    (hsz : vs.length + ws.length ≤ sizeLine) : wpAny (model prog w) A (binaryOp .Add (.ref t) (.ref b)) Q E s := by
  obtain ⟨⟨cls, dd, data, sl⟩, ho, hc, n, hd⟩ := id ht
  obtain ⟨⟨cls2, dd2, data2, sl2⟩, ho2, hc2, n2, hd2⟩ := id hb
  simp only at hc hd hc2 hd2
  subst hc hd hc2 hd2
  have e : vs.toArray ++ ws.toArray = (vs ++ ws).toArray := by simp
  by_cases hw : ws = []
  · exact concat_meets ⟨_, ho, rfl⟩ ⟨_, ho2, rfl⟩ noFill_tuple_add seq_tuple_add PySem.F.slot_tuple_add PySem.F.entry_tuple_add (PySem.F.args_tuple_add_2 _ _)
      (tuple_addW1 t b vs.toArray ws.toArray n n2 dd dd2 sl sl2 (by simpa using hv) (by simp [hw])) ⟨ho, ho2, h1 hw⟩
  · refine concat_meets ⟨_, ho, rfl⟩ ⟨_, ho2, rfl⟩ noFill_tuple_add seq_tuple_add PySem.F.slot_tuple_add PySem.F.entry_tuple_add (PySem.F.args_tuple_add_2 _ _)
      (tuple_addW2 t b vs.toArray ws.toArray n n2 dd dd2 sl sl2 (by simpa using hv) (by simpa using hw) (by rw [List.size_toArray, List.size_toArray]; exact hsz)) ⟨ho, ho2, ?_⟩
    rw [e]
    exact h2 hw
def sIx (n d : Nat) : Option Int → Nat
  | none => d
  | some v => if v < 0 then (v + (n : Int)).toNat else min v.toNat n
theorem sIx_none (n d : Nat) : sIx n d none = d := rfl
theorem sIx_nat (n d k : Nat) : sIx n d (some (k : Int)) = min k n := by
  show (if (k : Int) < 0 then ((k : Int) + (n : Int)).toNat else min (k : Int).toNat n) = min k n
  rw [if_neg (by omega), Int.toNat_natCast]
theorem sIx_le (n d : Nat) (hd : d ≤ n) (o : Option Int) : sIx n d o ≤ n := by
  cases o with
  | none => exact hd
  | some v =>
    show (if v < 0 then (v + (n : Int)).toNat else min v.toNat n) ≤ n
    by_cases hv : v < 0
    · rw [if_pos hv]; omega
    · rw [if_neg hv]; exact Nat.min_le_right _ _
theorem clip_eq (v : Int) (n d : Nat) : (if v < 0 then max (v + (n : Int)) 0 else min v (n : Int)) = ((sIx n d (some v) : Nat) : Int) := by
  show (if v < 0 then max (v + (n : Int)) 0 else min v (n : Int)) = (((if v < 0 then (v + (n : Int)).toNat else min v.toNat n) : Nat) : Int)
  by_cases hv : v < 0
  · simp only [if_pos hv]; omega
  · simp only [if_neg hv]; omega
theorem adjust_gen (lo hi : Option Int) (n : Nat) : Builtin.Slice.sliceAdjust lo hi 1 (n : Int) = (((sIx n 0 lo : Nat) : Int), ((sIx n n hi : Nat) : Int)) := by
  have h1 : ¬ ((1 : Int) < 0) := by omega
  unfold Builtin.Slice.sliceAdjust
  simp only [h1, if_false]
  refine Prod.ext ?_ ?_
  · cases lo with
    | none => rfl
    | some v => exact clip_eq v n 0
  · cases hi with
    | none => rfl
    | some v => exact clip_eq v n n
theorem places_gen (i j : Nat) : Builtin.Slice.slicePlaces (i : Int) (j : Int) 1 = j - i := by
  unfold Builtin.Slice.slicePlaces
  have h1 : (1 : Int) > 0 := by omega
  simp only [h1, if_true, Int.ediv_one]
  split <;> omega
theorem slicePart_ {v : Value} {o : Option Int} {Q : Option Int → Shared → Prop} (p : IsPart v o) (h : Q o s) : wpAny (model prog w) A (Builtin.Slice.slicePartIndex v) Q E s := by
  cases p with
  | none => exact slicePart_none h
  | int i t => exact slicePart_int h
theorem sliceApplied_gen {sl : Addr} {vl vu : Value} {lo hi : Option Int} {n : Nat} {Q : Int × Int × Nat → Shared → Prop} (hs : s.heap.IsSliceOf sl vl vu .none) (pl : IsPart vl lo) (pu : IsPart vu hi)
    (h : Q (((sIx n 0 lo : Nat) : Int), 1, sIx n n hi - sIx n 0 lo) s) : wpAny (model prog w) A (Builtin.Slice.sliceApplied (.ref sl) (pure (n : Int))) Q E s := by
  obtain ⟨os, hos, hcs, hds⟩ := id hs
  unfold Builtin.Slice.sliceApplied Builtin.Slice.sliceFields
  refine wpAny_bind (wpAny_bind (wpAny_field hos hds (x := vl) rfl (wpAny_bind (wpAny_field hos hds (x := vu) rfl (wpAny_bind (wpAny_field hos hds (x := .none) rfl (wpAny_pure ?_)))))))
  refine wpAny_bind (slicePart_none ?_)
  show wpAny _ _ (if ((1 : Int) == 0) = true then _ else _) _ _ s
  rw [if_neg (by decide)]
  refine wpAny_bind (slicePart_ pl (wpAny_bind (slicePart_ pu (wpAny_bind (wpAny_pure ?_)))))
  show wpAny _ _ (match Builtin.Slice.sliceAdjust lo hi 1 (n : Int) with | (lo, hi) => pure (lo, (1 : Int), Builtin.Slice.slicePlaces lo hi 1)) _ _ s
  rw [adjust_gen lo hi n]
  show wpAny _ _ (pure (((sIx n 0 lo : Nat) : Int), (1 : Int), Builtin.Slice.slicePlaces ((sIx n 0 lo : Nat) : Int) ((sIx n n hi : Nat) : Int) 1)) _ _ s
  rw [places_gen]
  exact wpAny_pure h
theorem pick_gen (xs : Array Value) (i k : Nat) : ((List.range k).filterMap fun (m : Nat) => xs[((i : Int) + (m : Int) * 1).toNat]?).toArray = ((xs.toList.drop i).take k).toArray := by
  have e : (fun (m : Nat) => xs[((i : Int) + (m : Int) * 1).toNat]?) = fun m => xs[i + m]? := by
    funext m
    have : ((i : Int) + (m : Int) * 1).toNat = i + m := by omega
    rw [this]
  rw [e]
  have := pick_run xs i k
  rw [List.filterMap_map] at this
  have e2 : ((fun x => xs[x]?) ∘ fun x => i + x) = fun m => xs[i + m]? := rfl
  rw [e2] at this
  rw [this]
theorem getItem_tuple_cut {t sl : Addr} {items : Array Value} {vl vu : Value} {lo hi : Option Int} {Q : Value → Shared → Prop} (ht : IsTup s.heap t items) (hs : s.heap.IsSliceOf sl vl vu .none) (pl : IsPart vl lo) (pu : IsPart vu hi)
    (hw : ¬ (sIx items.size 0 lo = 0 ∧ sIx items.size items.size hi = items.size))
    (h : Q (.ref s.heap.objs.size) { s with heap := s.heap.push { cls := .type "tuple", data := .seq ((items.toList.drop (sIx items.size 0 lo)).take (sIx items.size items.size hi - sIx items.size 0 lo)).toArray } })
    (hsz : items.size ≤ sizeLine) : wpAny (model prog w) A (getItem (.ref t) (.ref sl)) Q E s := by
  have htake : sizeOk (.seq ((items.toList.drop (sIx items.size 0 lo)).take (sIx items.size items.size hi - sIx items.size 0 lo)).toArray) := by
    show ((items.toList.drop (sIx items.size 0 lo)).take (sIx items.size items.size hi - sIx items.size 0 lo)).toArray.size ≤ sizeLine
    rw [List.size_toArray, List.length_take, List.length_drop, Array.length_toList]
    omega
  have hj : sIx items.size items.size hi ≤ items.size := sIx_le _ _ (Nat.le_refl _) hi
  obtain ⟨os, hos, hcs, hds⟩ := id hs
  have hTs : s.TypeIs (.ref sl) "slice" := ⟨os, hos, hcs⟩
  unfold getItem
  try with_reducible refine wpAny_holding ?_
  first | refine wpAny_bind (wpAny_pure ?_) | skip
  refine wpAny_bind (wpAny_sequenceKey ht.typeIs (by decide) ?_)
  refine wpAny_bind (wpAny_callSpecial?_slot (name := Str.ofString "__getitem__") ht.typeIs PyProof.Rows.slot_tuple_getitem
    (wpAny_call_entry PyProof.Rows.slot_tuple_getitem ht.typeIs entry_tuple_getitem ?_ (args_tuple_getitem _ _)))
  show wpAny _ _ (Builtin.Tuple.tupleItemsOf (.ref t) >>= _) _ _ s
  refine wpAny_bind (tupleItemsOf_ ht ?_)
  refine wpAny_bind (wpAny_typeOf hTs ?_)
  rw [if_pos (by decide)]
  refine wpAny_bind (sliceApplied_gen hs pl pu ?_)
  have hno : ¬ ((((sIx items.size 0 lo : Nat) : Int) == 0 && (1 : Int) == 1 && (sIx items.size items.size hi - sIx items.size 0 lo) == items.size) = true) := by
    intro q
    rw [Bool.and_eq_true, Bool.and_eq_true] at q
    have q1 : ((sIx items.size 0 lo : Nat) : Int) = 0 := eq_of_beq q.1.1
    have q2 : sIx items.size items.size hi - sIx items.size 0 lo = items.size := eq_of_beq q.2
    exact hw ⟨by omega, by omega⟩
  show wpAny _ _ (if (((sIx items.size 0 lo : Nat) : Int) == 0 && (1 : Int) == 1 && (sIx items.size items.size hi - sIx items.size 0 lo) == items.size) = true then _ else _) _ _ s
  rw [if_neg hno, pick_gen]
  first
    | exact wpAny_bind (m := Builtin.Tuple.tupleExact _) (wpAny_newObj_type (wpAny_pure ⟨_, rfl, wpAny_pure h⟩) htake)
    | exact wpAny_bind (m := Builtin.Tuple.tupleExact _) (wpAny_newObj_type (wpAny_bind (wpAny_pure (wpAny_pure ⟨_, rfl, wpAny_pure h⟩))) htake)
    | exact wpAny_bind (wpAny_bind (m := Builtin.Tuple.tupleExact _) (wpAny_newObj_type (wpAny_pure (wpAny_pure ⟨_, rfl, wpAny_pure h⟩)) htake))
    | exact wpAny_bind (wpAny_bind (m := Builtin.Tuple.tupleExact _) (wpAny_newObj_type (wpAny_pure ⟨_, rfl, wpAny_pure h⟩) htake))
end
end HT
namespace L2
open PySem PySem.Spec PyProof.Rows
abbrev TO := St → Hp → (Option Int → Hp → Prop) → Prop
def PO (X : Cx) (e : Option Expr) (t : TO) : Prop :=
  ∀ (pins : List (Addr × Obj)) (s : Shared) (σ : St) (H : Hp) (Q : Option Int → Hp → Prop), Inv X pins σ H s → t σ H Q →
    wpAny (model X.prog X.w) X.A (evalPart e X.env) (fun u s' => ∃ o H', Inv X pins σ H' s' ∧ IsPart u o ∧ Q o H') X.xe s
def tNoPart : TO := fun _ H Q => Q none H
def tPart (t : TE) : TO := fun σ H Q => t σ H fun x H1 => ∃ i, x = .int i ∧ Q (some i) H1
theorem intsAre_of {ns : List Int} : ∀ {us : List Value}, Vals (ns.map V.int) us → IntsAre us ns := by
  induction ns with
  | nil => intro us r; rw [List.map_nil] at r; cases r; exact .nil
  | cons n ns ih =>
    intro us r
    rw [List.map_cons] at r
    cases r with
    | cons r1 r2 =>
      obtain ⟨t, e⟩ := r1
      subst e
      exact .cons n t (ih r2)
section
variable {X : Cx} {e : Expr} {te : TE} {lo hi : Option Expr} {tl th : TO} {pos p2 : Pos}
theorem po_none : PO X none tNoPart := by
  intro pins s σ H Q I h
  rw [evalPart_none]
  exact wpAny_pure ⟨none, H, I, .none, h⟩
theorem po_some (h : PE X e te) : PO X (some e) (tPart te) := by
  intro pins s σ H Q I hw
  rw [evalPart_some]
  refine thn (h pins s σ H _ I hw) fun u s1 ⟨x, H1, I1, r1, q1⟩ => ?_
  obtain ⟨i, rfl, q⟩ := q1
  obtain ⟨t, rfl⟩ := r1
  exact ⟨some i, H1, I1, .int i t, q⟩
def SlR (X : Cx) (r : V → Option Int → Option Int → Hp → VK → Prop) : Prop :=
  ∀ (pins : List (Addr × Obj)) (s : Shared) (σ : St) (H : Hp) (x : V) (v vl vu : Value) (lo hi : Option Int) (sl : Addr) (Q : VK), Inv X pins σ H s → RelV x v → s.heap.IsSliceOf sl vl vu .none → IsPart vl lo → IsPart vu hi → r x lo hi H Q →
    ∃ T id, typeLookup (.type T) "__getitem__" = pure (some (.builtin id)) ∧ s.TypeIs v T ∧ wpAny (model X.prog X.w) X.A (getItem v (.ref sl)) (EP X pins σ Q) X.xe s
theorem SlR.or {r r' : V → Option Int → Option Int → Hp → VK → Prop} (h : SlR X r) (h' : SlR X r') : SlR X (fun x lo hi H Q => r x lo hi H Q ∨ r' x lo hi H Q) := by
  intro pins s σ H x v vl vu lo hi sl Q I rx hs pl pu q
  rcases q with q | q
  · exact h pins s σ H x v vl vu lo hi sl Q I rx hs pl pu q
  · exact h' pins s σ H x v vl vu lo hi sl Q I rx hs pl pu q
def tSl (r : V → Option Int → Option Int → Hp → VK → Prop) (te : TE) (tl th : TO) : TE := fun σ H Q => te σ H fun x H1 => tl σ H1 fun l H2 => th σ H2 fun u H3 => r x l u H3 Q
theorem pe_slice {r : V → Option Int → Option Int → Hp → VK → Prop} (hr : SlR X r) (he : PE X e te) (hl : PO X lo tl) (hu : PO X hi th) : PE X (.Subscript e (.Slice lo hi none p2) pos) (tSl r te tl th) := by
  intro pins s σ H Q I h
  refine Subscript_ (thn (he pins s σ H _ I h) fun v s1 ⟨x, H1, I1, r1, q1⟩ => ?_)
  refine wpAny_Slice (thn (hl pins s1 σ H1 _ I1 q1) fun vl s2 ⟨l, H2, I2, pl, q2⟩ => thn (hu pins s2 σ H2 _ I2 q2) fun vu s3 ⟨u, H3, I3, pu, q3⟩ => ?_)
  rw [evalPart_none]
  refine wpAny_pure ?_
  have I4 : Inv X pins σ H3 { s3 with heap := s3.heap.push { cls := .type "slice", data := .fields #[vl, vu, .none] } } := I3.kept (t' := s3.toks) fun b ob q => Heap.get?_push_of_some _ q
  obtain ⟨T, id, hT, ht, hg⟩ := hr pins { s3 with heap := s3.heap.push { cls := .type "slice", data := .fields #[vl, vu, .none] } } σ H3 x v vl vu l u s3.heap.objs.size Q I4 r1 (Heap.IsSliceOf.new ..) pl pu q3
  show wpAny (model X.prog X.w) X.A (subscriptTail e (.Slice lo hi none p2) v (.ref s3.heap.objs.size)) (EP X pins σ Q) X.xe { s3 with heap := s3.heap.push { cls := .type "slice", data := .fields #[vl, vu, .none] } }
  exact tail_any (ops := [.ref s3.heap.objs.size, v]) ht hT hg (by with_unfolding_all rfl)
def cutV (xs : List V) (lo hi : Option Int) : List V := (xs.drop (HT.sIx xs.length 0 lo)).take (HT.sIx xs.length xs.length hi - HT.sIx xs.length 0 lo)
theorem cutV_length (xs : List V) (lo hi : Option Int) : (cutV xs lo hi).length ≤ xs.length := by
  unfold cutV
  rw [List.length_take, List.length_drop]
  omega
def rSlT (K : PySem.W.Frag) : V → Option Int → Option Int → Hp → VK → Prop := fun x lo hi H Q => ∃ a xs, x = .ref a ∧ SqT K H a xs ∧
  ¬ (HT.sIx xs.length 0 lo = 0 ∧ HT.sIx xs.length xs.length hi = xs.length) ∧ ∀ p, H p = none → Q (.ref p) (upd H p (.tup (cutV xs lo hi)))
theorem sl_tup : SlR X (rSlT X.K) := by
  intro pins s σ H x v vl vu lo hi sl Q I rx hs pl pu h
  obtain ⟨a, xs, rfl, hx, hw, q⟩ := h
  cases rx
  obtain ⟨its, r, ht, hz⟩ := I.tuple hx
  have hlen : its.toArray.size = xs.length := by rw [List.size_toArray]; exact r.length.symm
  refine ⟨"tuple", _, PyProof.Rows.slot_tuple_getitem.lookup, ht.typeIs, ?_⟩
  refine HT.getItem_tuple_cut ht hs pl pu (by rw [hlen]; exact hw) ?_ (by rw [hlen]; exact hz)
  rw [hlen]
  refine ⟨.ref s.heap.objs.size, _, I.laid (t' := s.toks) (o := .tup (cutV xs lo hi)) (fun b ob q => Heap.get?_push_of_some _ q) (Nat.le_refl _) ?_, rfl, q _ (I.hok.fresh (Nat.le_refl _))⟩
  exact ⟨Nat.le_trans (cutV_length xs lo hi) hz, _, (r.drop (HT.sIx xs.length 0 lo)).take (HT.sIx xs.length xs.length hi - HT.sIx xs.length 0 lo), IsTup.new _ _⟩
def rCatT (K : PySem.W.Frag) : R2 := fun x y H Q => ∃ a b xs ys, x = .ref a ∧ y = .ref b ∧ SqT K H a xs ∧ SqT K H b ys ∧ xs ≠ [] ∧ xs.length + ys.length ≤ sizeLine ∧
  (ys = [] → Q (.ref a) H) ∧ (ys ≠ [] → ∀ p, H p = none → Q (.ref p) (upd H p (.tup (xs ++ ys))))
theorem Vals.nil_iff {xs : List V} {us : List Value} (r : Vals xs us) : us = [] ↔ xs = [] := by
  cases r with
  | nil => simp
  | cons _ _ => simp
theorem op_catT : OpR X (binaryOp .Add) (rCatT X.K) := by
  intro pins s σ H x y v u Q I rx ry h
  obtain ⟨a, b, xs, ys, rfl, rfl, ha, hb, hx, hz, q1, q2⟩ := h
  cases rx
  cases ry
  obtain ⟨its, r1, p1, _⟩ := I.tuple ha
  obtain ⟨its2, r2, p2, _⟩ := I.tuple hb
  refine HT.cat_tup p1 p2 (fun z => hx (r1.nil_iff.mp z)) (fun z => ⟨.ref a, H, I, rfl, q1 (r2.nil_iff.mp z)⟩) (fun z => ?_) (by rw [← r1.length, ← r2.length]; exact hz)
  refine ⟨.ref s.heap.objs.size, _, I.laid (t' := s.toks) (o := .tup (xs ++ ys)) (fun b ob q => Heap.get?_push_of_some _ q) (Nat.le_refl _) ?_, rfl, q2 (fun w => z (r2.nil_iff.mpr w)) _ (I.hok.fresh (Nat.le_refl _))⟩
  exact ⟨by rw [List.length_append]; exact hz, _, r1.append r2, IsTup.new _ _⟩
end
end L2
namespace L2
open PySem PySem.Spec PyProof.Rows
def ixN (n : Nat) (i : Int) : Option Nat := if 0 ≤ i then (if i < n then some i.toNat else none) else if -(n : Int) ≤ i then some (i + n).toNat else none
def atI {α : Type} (xs : List α) (i : Int) : Option α := (ixN xs.length i).bind fun j => xs[j]?
theorem ixN_seq {n : Nat} {i : Int} {j : Nat} (h : ixN n i = some j) : seqIndex? i n = some j ∧ j < n ∧ -(n : Int) ≤ i ∧ i < n := by
  unfold ixN at h
  by_cases h0 : 0 ≤ i
  · rw [if_pos h0] at h
    by_cases h1 : i < n
    · rw [if_pos h1] at h
      have e : i.toNat = j := Option.some.inj h
      exact ⟨by rw [seqIndex_of h0 h1, e], by omega, by omega, h1⟩
    · rw [if_neg h1] at h; cases h
  · rw [if_neg h0] at h
    by_cases h1 : -(n : Int) ≤ i
    · rw [if_pos h1] at h
      have e : (i + n).toNat = j := Option.some.inj h
      exact ⟨by rw [seqIndex_neg (by omega) h1, e], by omega, h1, by omega⟩
    · rw [if_neg h1] at h; cases h
theorem atI_get {α : Type} {xs : List α} {i : Int} {v : α} (h : atI xs i = some v) : ∃ j, seqIndex? i xs.length = some j ∧ xs[j]? = some v ∧ j < xs.length ∧ -(xs.length : Int) ≤ i ∧ i < xs.length := by
  unfold atI at h
  cases e : ixN xs.length i with
  | none => rw [e] at h; cases h
  | some j =>
    rw [e] at h
    obtain ⟨h1, h2, h3, h4⟩ := ixN_seq e
    exact ⟨j, h1, h, h2, h3, h4⟩
theorem atI_last {α : Type} (xs : List α) (v : α) : atI (xs ++ [v]) (-1) = some v := by
  have hl : (xs ++ [v]).length = xs.length + 1 := by simp
  have e : ixN (xs ++ [v]).length (-1) = some xs.length := by
    unfold ixN
    rw [hl, if_neg (by decide), if_pos (by omega)]
    congr 1
    omega
  unfold atI
  rw [e]
  show (xs ++ [v])[xs.length]? = some v
  simp
def PlainIx (b : Expr) : Prop := ∀ o i, subscripted b false o i = operate [o, i] (getItem o i)
def IxR (X : Cx) (r : R2) : Prop :=
  ∀ (value slice : Expr) (pins : List (Addr × Obj)) (s : Shared) (σ : St) (H : Hp) (x y : V) (v u : Value) (Q : VK), Inv X pins σ H s → RelV x v → RelV y u → r x y H Q →
    subscripted slice false v u = operate [v, u] (getItem v u) → wpAny (model X.prog X.w) X.A (subscriptTail value slice v u) (EP X pins σ Q) X.xe s
def MtR (X : Cx) (id : String) (r : V → List V → Hp → VK → Prop) : Prop :=
  ∀ (pins : List (Addr × Obj)) (s : Shared) (σ : St) (H : Hp) (x : V) (xs : List V) (v : Value) (us : List Value) (Q : VK), Inv X pins σ H s → RelV x v → Vals xs us → r x xs H Q →
    wpAny (model X.prog X.w) X.A (call (.builtin id) (v :: us)) (EP X pins σ Q) X.xe s
section
variable {X : Cx} {a b : Expr} {ta tb : TE} {pos : Pos}
theorem IxR.or {r r' : R2} (h : IxR X r) (h' : IxR X r') : IxR X (fun x y H Q => r x y H Q ∨ r' x y H Q) := by
  intro value slice pins s σ H x y v u Q I rx ry q hs
  rcases q with q | q
  · exact h value slice pins s σ H x y v u Q I rx ry q hs
  · exact h' value slice pins s σ H x y v u Q I rx ry q hs
theorem pe_ix {r : R2} (hr : IxR X r) (ha : PE X a ta) (hb : PE X b tb) (hs : PlainIx b) : PE X (.Subscript a b pos) (tOp r ta tb) := by
  intro pins s σ H Q I h
  exact Subscript_ (binT ha hb I h fun v u s2 x y H2 I2 rx ry q => hr a b pins s2 σ H2 x y v u Q I2 rx ry q (hs _ _))
def rIxL (K : PySem.W.Frag) : R2 := fun x y H Q => ∃ p xs i v, x = .ref p ∧ y = .int i ∧ SqL K H p xs ∧ atI xs i = some v ∧ Q v H
def rIxT (K : PySem.W.Frag) : R2 := fun x y H Q => ∃ p xs i v, x = .ref p ∧ y = .int i ∧ SqT K H p xs ∧ atI xs i = some v ∧ Q v H
def rIxS : R2 := fun x y H Q => ∃ z i c, x = .str z ∧ y = .int i ∧ z.length ≤ sizeLine ∧ atI z.cps.toList i = some c ∧ Q (.str ⟨#[c]⟩) H
theorem ix_list : IxR X (rIxL X.K) := by
  intro value slice pins s σ H x y v u Q I rx ry h hs
  obtain ⟨p, xs, i, z, rfl, rfl, hq, he, q⟩ := h
  cases rx
  obtain ⟨t, rfl⟩ := ry
  obtain ⟨its, r, pl, hz⟩ := I.list hq
  obtain ⟨j, h1, h2, h3, h4, h5⟩ := atI_get he
  obtain ⟨w, ew, rw'⟩ := r.get h2
  have hl := r.length
  have hn := line63
  have fin : EP X pins σ Q w s := ⟨z, H, I, rw', q⟩
  by_cases h0 : 0 ≤ i
  · have hj : i.toNat = j := by
      rw [seqIndex_of h0 h5] at h1
      exact Option.some.inj h1
    exact item_listR pl.isList h0 (by omega) (by rw [hj]; simpa using ew) fin hs
  · have hj : (i + (its.toArray.size : Int)).toNat = j := by
      rw [seqIndex_neg (by omega) h4] at h1
      rw [List.size_toArray, ← hl]
      exact Option.some.inj h1
    exact subscriptTail_builtinR (x := w) pl.isList.typeIs slot_list_getitem.lookup
      (wpAny_getItem_list_neg (Q := fun r s' => r = w ∧ EP X pins σ Q r s') pl.isList (by omega) (by rw [List.size_toArray] <;> omega) (by omega) (by rw [hj]; simpa using ew) ⟨rfl, fin⟩) hs
theorem ix_tup : IxR X (rIxT X.K) := by
  intro value slice pins s σ H x y v u Q I rx ry h hs
  obtain ⟨p, xs, i, z, rfl, rfl, hq, he, q⟩ := h
  cases rx
  obtain ⟨t, rfl⟩ := ry
  obtain ⟨its, r, pl, hz⟩ := I.tuple hq
  obtain ⟨j, h1, h2, h3, h4, h5⟩ := atI_get he
  obtain ⟨w, ew, rw'⟩ := r.get h2
  have hl := r.length
  have hn := line63
  have fin : EP X pins σ Q w s := ⟨z, H, I, rw', q⟩
  exact subscriptTail_builtinR (x := w) pl.typeIs slot_tuple_getitem.lookup
    (getItem_tuple (j := j) (Q := fun r s' => r = w ∧ EP X pins σ Q r s') pl (by omega) (by omega) (by rw [List.size_toArray, ← hl]; exact h1) (by simpa using ew) ⟨rfl, fin⟩) hs
theorem ix_str : IxR X rIxS := by
  intro value slice pins s σ H x y v u Q I rx ry h hs
  obtain ⟨z, i, c, rfl, rfl, hz, he, q⟩ := h
  obtain ⟨t, rfl⟩ := rx
  obtain ⟨t', rfl⟩ := ry
  obtain ⟨j, h1, h2, h3, h4, h5⟩ := atI_get he
  have hl : z.cps.toList.length = z.length := by simp [Str.length]
  rw [hl] at h1 h4 h5
  have hn := line63
  exact tail_any (typeIs_str s z t) slot_str_getitem.lookup (getItem_str (c := c) (by
    have e1 : decide (i < -(2 ^ 63 : Int)) = false := decide_eq_false (by omega)
    have e2 : decide (i ≥ 2 ^ 63) = false := decide_eq_false (by omega)
    rw [e1, e2, Bool.or_false]) (by rw [h1]; simpa using h2) ⟨.str ⟨#[c]⟩, H, I.tok _, ⟨_, rfl⟩, q⟩) hs
def rIx (K : PySem.W.Frag) : R2 := fun x y H Q => rIxL K x y H Q ∨ rIxT K x y H Q ∨ rIxS x y H Q
theorem ix_seq : IxR X (rIx X.K) := ix_list.or (ix_tup.or ix_str)
theorem Inv.lst {pins : List (Addr × Obj)} {σ : St} {H : Hp} {s : Shared} {p : Addr} {xs : List V} (I : Inv X pins σ H s) (h : H p = some (.lst xs)) :
    ∃ (its : List Value) (n : Nat), Vals xs its ∧ s.heap.get? p = some { cls := .type "list", data := .seq its.toArray n } ∧ xs.length ≤ sizeLine := by
  obtain ⟨z, its, n, r, e⟩ := I.hok p _ h
  exact ⟨its, n, r, e, z⟩
theorem slice_bounds (lo hi : Option Int) (n : Nat) : (sliceBounds lo hi none n).1 = ((HT.sIx n 0 lo : Nat) : Int) ∧ (sliceBounds lo hi none n).2.1 = ((HT.sIx n n hi : Nat) : Int) ∧ (sliceBounds lo hi none n).2.2 = 1 := by
  refine ⟨?_, ?_, rfl⟩
  · cases lo with
    | none => simp [sliceBounds, HT.sIx]
    | some i =>
      simp only [sliceBounds, HT.sIx, Option.getD_none, show (1 : Int) > 0 by decide, if_true]
      by_cases h : i < 0
      · simp only [h, if_true] <;> omega
      · simp only [h, if_false] <;> omega
  · cases hi with
    | none => simp [sliceBounds, HT.sIx]
    | some i =>
      simp only [sliceBounds, HT.sIx, Option.getD_none, show (1 : Int) > 0 by decide, if_true]
      by_cases h : i < 0
      · simp only [h, if_true] <;> omega
      · simp only [h, if_false] <;> omega
theorem slicePick_cut (its : List Value) (lo hi : Option Int) : slicePick its.toArray lo hi none = ((its.drop (HT.sIx its.length 0 lo)).take (HT.sIx its.length its.length hi - HT.sIx its.length 0 lo)).toArray := by
  obtain ⟨h1, h2, h3⟩ := slice_bounds lo hi its.toArray.size
  unfold slicePick
  rw [h1, h2, h3]
  simp only [sliceRange_one, pick_run, List.size_toArray] <;> rfl
def rSlL (K : PySem.W.Frag) : V → Option Int → Option Int → Hp → VK → Prop := fun x lo hi H Q => ∃ a xs, x = .ref a ∧ SqL K H a xs ∧ ∀ p, H p = none → Q (.ref p) (upd H p (.lst (cutV xs lo hi)))
theorem sl_list : SlR X (rSlL X.K) := by
  intro pins s σ H x v vl vu lo hi sl Q I rx hs pl pu h
  obtain ⟨a, xs, rfl, hx, q⟩ := h
  cases rx
  obtain ⟨its, r, ht, hz⟩ := I.list hx
  have hlen := r.length
  refine ⟨"list", _, slot_list_getitem.lookup, ht.isList.typeIs, ?_⟩
  refine wpAny_getItem_list_slice ht.isList hs pl pu .none (by simp) ?_ (by rw [List.size_toArray] <;> omega)
  rw [slicePick_cut, ← hlen]
  refine ⟨.ref s.heap.objs.size, _, I.laid (t' := s.toks) (o := .lst (cutV xs lo hi)) (fun b ob q => Heap.get?_push_of_some _ q) (Nat.le_refl _) ?_, rfl, q _ (I.hok.fresh (Nat.le_refl _))⟩
  exact ⟨Nat.le_trans (cutV_length xs lo hi) hz, _, 0, (r.drop (HT.sIx xs.length 0 lo)).take (HT.sIx xs.length xs.length hi - HT.sIx xs.length 0 lo), Heap.get?_push_size _ rfl⟩
def flatV : V → Bool
  | .non => true
  | .bl _ => true
  | .int _ => true
  | .str _ => true
  | _ => false
def eqV : V → V → Bool
  | .non, .non => true
  | .bl a, .bl b => a == b
  | .bl a, .int b => (if a then 1 else 0) == b
  | .int a, .bl b => a == (if b then 1 else 0)
  | .int a, .int b => a == b
  | .str a, .str b => a == b
  | _, _ => false
theorem eqAt_V {A : Around} {s : Shared} {y x : V} {u v : Value} (ry : RelV y u) (rx : RelV x v) (fy : flatV y = true) (fx : flatV x = true) : SeqAt.EqAt A s u v (eqV y x) := by
  cases y with
  | non =>
    cases ry
    cases x with
    | non => cases rx; exact SeqAt.EqAt.same _
    | bl b => cases rx; exact SeqAt.EqAt.none_bool b
    | int b => obtain ⟨t, rfl⟩ := rx; exact SeqAt.EqAt.none_int b t
    | str b => obtain ⟨t, rfl⟩ := rx; exact SeqAt.EqAt.none_str b t
    | _ => exact absurd (show false = true from fx) Bool.false_ne_true
  | bl a =>
    cases ry
    cases x with
    | non => cases rx; exact SeqAt.EqAt.bool_none a
    | bl b => cases rx; exact SeqAt.EqAt.bool_bool a b
    | int b => obtain ⟨t, rfl⟩ := rx; exact SeqAt.EqAt.bool_int a b t
    | str b => obtain ⟨t, rfl⟩ := rx; exact SeqAt.EqAt.bool_str a b t
    | _ => exact absurd (show false = true from fx) Bool.false_ne_true
  | int a =>
    obtain ⟨t', rfl⟩ := ry
    cases x with
    | non => cases rx; exact SeqAt.EqAt.int_none a t'
    | bl b => cases rx; exact SeqAt.EqAt.int_bool a t' b
    | int b => obtain ⟨t, rfl⟩ := rx; exact SeqAt.EqAt.int_int a t' b t
    | str b => obtain ⟨t, rfl⟩ := rx; exact SeqAt.EqAt.int_str a t' b t
    | _ => exact absurd (show false = true from fx) Bool.false_ne_true
  | str a =>
    obtain ⟨t', rfl⟩ := ry
    cases x with
    | non => cases rx; exact SeqAt.EqAt.str_none a t'
    | bl b => cases rx; exact SeqAt.EqAt.str_bool a t' b
    | int b => obtain ⟨t, rfl⟩ := rx; exact SeqAt.EqAt.str_int a t' b t
    | str b => obtain ⟨t, rfl⟩ := rx; exact SeqAt.EqAt.str_str a t' b t
    | _ => exact absurd (show false = true from fx) Bool.false_ne_true
  | _ => exact absurd (show false = true from fy) Bool.false_ne_true
def eqU (x : V) (u : Value) : Bool := match u with
  | .none => eqV .non x
  | .bool b => eqV (.bl b) x
  | .int i _ => eqV (.int i) x
  | .str z _ => eqV (.str z) x
  | _ => false
theorem eqU_of {x y : V} {u : Value} (r : RelV y u) (f : flatV y = true) : eqU x u = eqV y x := by
  cases y with
  | non => cases r; rfl
  | bl b => cases r; rfl
  | int i => obtain ⟨t, rfl⟩ := r; rfl
  | str z => obtain ⟨t, rfl⟩ := r; rfl
  | _ => exact absurd (show false = true from f) Bool.false_ne_true
theorem any_eqU {x : V} : ∀ {xs : List V} {us : List Value}, Vals xs us → xs.all flatV = true → us.any (eqU x) = xs.any fun y => eqV y x
  | _, _, .nil, _ => rfl
  | y :: xs, u :: us, .cons r t, f => by
    rw [List.all_cons, Bool.and_eq_true] at f
    rw [List.any_cons, List.any_cons, eqU_of r f.1, any_eqU t f.2]
theorem mem_eqAt {A : Around} {s : Shared} {x : V} {v : Value} (rx : RelV x v) (fx : flatV x = true) : ∀ {xs : List V} {us : List Value}, Vals xs us → xs.all flatV = true → ∀ u ∈ us, SeqAt.EqAt A s u v (eqU x u)
  | _, _, .nil, _ => fun u hu => by cases hu
  | y :: xs, u :: us, .cons r t, f => fun u' hu => by
    rw [List.all_cons, Bool.and_eq_true] at f
    rcases List.mem_cons.mp hu with rfl | hu
    · rw [eqU_of r f.1]; exact eqAt_V r rx f.1 fx
    · exact mem_eqAt rx fx t f.2 u' hu
def inV (x : V) (xs : List V) : Bool := xs.any fun y => eqV y x
def rIn (K : PySem.W.Frag) (neg : Bool) : R2 := fun x y H Q => ∃ p xs, y = .ref p ∧ (SqL K H p xs ∨ SqT K H p xs) ∧ flatV x = true ∧ xs.all flatV = true ∧ Q (.bl (if neg then !inV x xs else inV x xs)) H
theorem op_in_seq : OpR X (compareOp .In) (rIn X.K false) := by
  intro pins s σ H x y v u Q I rx ry h
  obtain ⟨p, xs, rfl, hq, fx, fs, q⟩ := h
  cases ry
  rcases hq with hq | hq
  · obtain ⟨its, r, pl, hz⟩ := I.list hq
    refine SeqAt.in_listAt (eqU x) pl.isList (fun w hw => mem_eqAt rx fx r fs w (by simpa using hw)) ⟨.bl _, H, I, rfl, ?_⟩
    rw [show its.toArray.any (eqU x) = its.any (eqU x) by simp, any_eqU r fs]
    exact q
  · obtain ⟨its, r, pl, hz⟩ := I.tuple hq
    refine SeqAt.in_tupleAt (eqU x) pl (fun w hw => mem_eqAt rx fx r fs w (by simpa using hw)) ⟨.bl _, H, I, rfl, ?_⟩
    rw [show its.toArray.any (eqU x) = its.any (eqU x) by simp, any_eqU r fs]
    exact q
theorem call_len_seq : CallR X (.builtin "len") (fun xs H Q => ∃ p ys, xs = [.ref p] ∧ (SqL X.K H p ys ∨ SqT X.K H p ys) ∧ Q (.int ys.length) H) := by
  intro pins s σ H xs us Q I r h
  obtain ⟨p, ys, rfl, hq, q⟩ := h
  obtain ⟨u, rfl, rx⟩ := vals1 r
  cases rx
  have hn := line63
  rcases hq with hq | hq
  · obtain ⟨its, r', pl, hz⟩ := I.list hq
    have hlen := r'.length
    exact Calls.call_len_list pl.isList (by simp only [List.size_toArray] <;> omega) ⟨.int ys.length, H, I.tok _, ⟨s.toks + 1, by rw [List.size_toArray, hlen]⟩, q⟩
  · obtain ⟨its, r', pl, hz⟩ := I.tuple hq
    have hlen := r'.length
    exact len_tuple pl (by simp only [List.size_toArray] <;> omega) ⟨.int ys.length, H, I.tok _, ⟨s.toks + 1, by rw [List.size_toArray, hlen]⟩, q⟩
theorem call_len_str : CallR X (.builtin "len") (fun xs H Q => ∃ z, xs = [.str z] ∧ z.length ≤ sizeLine ∧ Q (.int z.length) H) := by
  intro pins s σ H xs us Q I r h
  obtain ⟨z, rfl, hz, q⟩ := h
  obtain ⟨u, rfl, t, rfl⟩ := vals1 r
  have hn := line63
  exact len_str (by omega) ⟨.int z.length, H, I.tok _, ⟨_, rfl⟩, q⟩
theorem CallR.or {f : Value} {r r' : List V → Hp → VK → Prop} (h : CallR X f r) (h' : CallR X f r') : CallR X f (fun xs H Q => r xs H Q ∨ r' xs H Q) := by
  intro pins s σ H xs us Q I rs q
  rcases q with q | q
  · exact h pins s σ H xs us Q I rs q
  · exact h' pins s σ H xs us Q I rs q
theorem call_tuple_of : CallR X (.type "tuple") (fun xs H Q => ∃ p ys, xs = [.ref p] ∧ ((SqL X.K H p ys ∧ ∀ l, H l = none → Q (.ref l) (upd H l (.tup ys))) ∨ (SqT X.K H p ys ∧ Q (.ref p) H))) := by
  intro pins s σ H xs us Q I r h
  obtain ⟨p, ys, rfl, h⟩ := h
  obtain ⟨u, rfl, rx⟩ := vals1 r
  cases rx
  rcases h with ⟨hq, q⟩ | ⟨hq, q⟩
  · obtain ⟨its, r', pl, hz⟩ := I.list hq
    have hlen := r'.length
    refine call_tuple_list pl.isList (fun h' kp => ?_) (by simp only [List.size_toArray] <;> omega)
    have I1 : Inv X pins σ H { s with heap := h' } := I.kept (t' := s.toks) kp
    have I2 : Inv X pins σ (upd H h'.objs.size (.tup ys)) { s with heap := h'.push { cls := .type "tuple", data := .seq its.toArray } } :=
      I1.laid (t' := s.toks) (fun b o e => Heap.get?_push_of_some _ e) (Nat.le_refl _) (show ObjOk X.prog X.w _ _ _ (.tup ys) from ⟨hz, its, r', IsTup.new _ _⟩)
    exact ⟨.ref h'.objs.size, _, I2, rfl, q _ (I1.hok.fresh (Nat.le_refl _))⟩
  · obtain ⟨its, r', pl, hz⟩ := I.tuple hq
    exact call_tuple_same pl ⟨.ref p, H, I, rfl, q⟩
def tyV (K : PySem.W.Frag) (T : String) (x : V) (H : Hp) : Prop := match x with
  | .str _ => T = "str"
  | .int _ => T = "int"
  | .ref p => (T = "list" ∧ ∃ xs, SqL K H p xs) ∨ (T = "tuple" ∧ ∃ o, K.lookup p = some o ∧ o.cls = .type "tuple" ∧ o.dict = none) ∨
      (T = "dict" ∧ ((∃ kvs, H p = some (.dK kvs)) ∨ ∃ kvs, H p = some (.dT kvs))) ∨ (T = "set" ∧ ∃ S n, H p = some (.set S n))
  | _ => False
theorem tyV_is {pins : List (Addr × Obj)} {σ : St} {H : Hp} {s : Shared} {T : String} {x : V} {v : Value} (I : Inv X pins σ H s) (r : RelV x v) (ty : tyV X.K T x H) :
    s.TypeIs v T ∧ ∀ a, v = .ref a → ∃ ob, s.heap.get? a = some ob ∧ ob.dict = none := by
  cases x with
  | str z =>
    obtain ⟨t, rfl⟩ := r
    cases (show T = "str" from ty)
    exact ⟨typeIs_str s z t, fun _ e => nomatch e⟩
  | int i =>
    obtain ⟨t, rfl⟩ := r
    cases (show T = "int" from ty)
    exact ⟨typeIs_int s i t, fun _ e => nomatch e⟩
  | ref p =>
    cases r
    rcases ty with ⟨rfl, xs, hq⟩ | ⟨rfl, o, hk, hc, hd⟩ | ⟨rfl, hk⟩ | ⟨rfl, S, n, hk⟩
    · obtain ⟨its, _, pl, _⟩ := I.list hq
      refine ⟨pl.isList.typeIs, fun a e => ?_⟩
      cases e
      obtain ⟨o, n, e, c, hd, _⟩ := pl
      exact ⟨o, e, hd⟩
    · refine ⟨⟨o, I.kIn p o hk, hc⟩, fun a e => ?_⟩
      cases e
      exact ⟨o, I.kIn _ o hk, hd⟩
    · have z : ∃ o, s.heap.get? p = some o ∧ o.ExactDict := by
        rcases hk with ⟨kvs, hk⟩ | ⟨kvs, hk⟩
        · obtain ⟨_, _, _, _, o, _, _, e, ex, _⟩ := I.hok p _ hk
          exact ⟨o, e, ex⟩
        · obtain ⟨_, _, _, _, o, _, _, e, ex, _⟩ := I.hok p _ hk
          exact ⟨o, e, ex⟩
      obtain ⟨o, e, ex⟩ := z
      refine ⟨⟨o, e, ex.1⟩, fun a e2 => ?_⟩
      cases e2
      exact ⟨o, e, ex.2.1⟩
    · obtain ⟨o, _, _, _, e, ex, _⟩ := I.hok p _ hk
      refine ⟨⟨o, e, ex.1⟩, fun a e2 => ?_⟩
      cases e2
      exact ⟨o, e, ex.2.1⟩
  | _ => exact False.elim ty
def tBM (K : PySem.W.Frag) (T : String) (r : V → List V → Hp → VK → Prop) (to : TE) (t : TA) : TE := fun σ H Q => to σ H fun x H1 => tyV K T x H1 ∧ t σ H1 fun xs H2 => r x xs H2 Q
variable {o e : Expr} {es : List Expr} {to : TE} {t : TA} {name : Str} {apos cpos : Pos} {T id : String} {r : V → List V → Hp → VK → Prop}
theorem pe_bm (pa : PlainAttrs T) (slot : Slot T name id) (hty : typeOf (.builtin id) = pure (.type "method_descriptor")) (hm : MtR X id r) (ho : PE X o to) (ha : PA X (e :: es) t)
    (hbase : attributeBase o name X.env (eval o X.env) = eval o X.env := by rfl)
    (hfew : ((backTo cpos (starEach (e :: es) X.env)).all (fun x => !x.1) && (backToKw cpos (keywordEach [] X.env)).all (fun x => x.1.isSome)
      && decide ((e :: es).length + ([] : List Keyword).length + (if ([] : List Keyword).isEmpty then 0 else 1) < 30)) = true := by rfl)
    (hline : (apos.endLine == cpos.line) = true := by rfl) (hs : starEach (e :: es) X.env = (false, eval e X.env) :: starEach es X.env := by rfl) (hplain : (backTo cpos (starEach es X.env)).any (·.1) = false := by rfl) :
    PE X (.Call (.Attribute o name apos) (e :: es) [] cpos) (tBM X.K T r to t) := by
  intro pins s σ H Q I h
  refine wpAny_Call_method_late hbase hfew hline rfl (thn (ho pins s σ H _ I h) fun v s1 ⟨x, H1, I1, r1, ty, q1⟩ => ?_)
  obtain ⟨h1, h2⟩ := tyV_is I1 r1 ty
  refine ⟨T, id, pa, slot, hty, h1, h2, ?_⟩
  have hA := ha cpos pins s1 σ H1 _ I1 q1
  rw [hs] at hA ⊢
  refine Calls.callWith_builtin (by show (false || (backTo cpos (starEach es X.env)).any (·.1)) = false; rw [hplain] <;> rfl) (Calls.evalArgs_plain ?_)
  exact thn hA fun us s2 ⟨vs, H2, I2, r2, q2⟩ => hm pins s2 σ H2 x vs v us Q I2 r1 r2 q2
/- xs.append(e), list.index on a module's tuple .. are MtR facts of 06m -/
end
end L2
namespace L2
open PySem PySem.Spec PyProof.Rows
def MtM (X : Cx) (id : String) (r : V → List V → Hp → VK → Prop) : Prop :=
  ∀ (pins : List (Addr × Obj)) (s : Shared) (σ : St) (H : Hp) (x : V) (xs : List V) (v : Value) (us : List Value) (Q : VK), Inv X pins σ H s → RelV x v → Vals xs us → r x xs H Q →
    wpAny (model X.prog X.w) X.A (call (.builtin id) (v :: us)) (EP X pins σ Q) X.xe s
theorem Vals.one : ∀ {x : V} {us : List Value}, Vals [x] us → ∃ u, us = [u] ∧ RelV x u
  | _, _, .cons r .nil => ⟨_, rfl, r⟩
section
variable {X : Cx} {pins : List (Addr × Obj)} {σ : St} {H : Hp} {s : Shared} {l b : Addr} {xs ys zs : List V}
theorem Inv.lset {its its' : List Value} {n : Nat} {f : Array Value → Array Value} {t' : Nat} (I : Inv X pins σ H s) (hH : H l = some (.lst xs))
    (e : s.heap.get? l = some { cls := .type "list", data := .seq its.toArray n }) (hf : f its.toArray = its'.toArray) (hv : Vals ys its') (hz : ys.length ≤ sizeLine) :
    Inv X pins σ (upd H l (.lst ys)) { s with heap := s.heap.update l (Obj.mapSeq f), toks := t' } := by
  have q := PySem.IsL.update e f
  rw [hf] at q
  refine I.write (x := l) (e := l) (by rw [hH]; exact trivial) (.inl rfl) (fun b' u hb hu => (Heap.get?_update_other s.heap (Obj.mapSeq f) (Ne.symm hb)).trans hu) ⟨_, q⟩ ?_
  exact ⟨hz, its', _, hv, q⟩
theorem Inv.lnew {its : List Value} {t' : Nat} (I : Inv X pins σ H s) (hv : Vals ys its) (hz : ys.length ≤ sizeLine) :
    Inv X pins σ (upd H s.heap.objs.size (.lst ys)) { s with heap := s.heap.push { cls := .type "list", data := .seq its.toArray }, toks := t' } :=
  I.laid (fun _ _ q => Heap.get?_push_of_some _ q) (Nat.le_refl _) ⟨hz, its, 0, hv, Heap.get?_push_size _ rfl⟩
theorem Inv.fresh (I : Inv X pins σ H s) : H s.heap.objs.size = none := I.hok.fresh (Nat.le_refl _)
theorem Inv.lstM (I : Inv X pins σ H s) (hH : H l = some (.lst xs)) : xs.length ≤ sizeLine ∧ ∃ (its : List Value) (n : Nat), Vals xs its ∧ xs.length = its.length ∧ s.heap.get? l = some { cls := .type "list", data := .seq its.toArray n } := by
  obtain ⟨z, its, n, r, e⟩ := I.hok l _ hH
  exact ⟨z, its, n, r, r.length, e⟩
end
section
variable {X : Cx}
def rAppend : V → List V → Hp → VK → Prop := fun x vs H Q => ∃ l xs y, x = .ref l ∧ vs = [y] ∧ H l = some (.lst xs) ∧ xs.length < sizeLine ∧ Q .non (upd H l (.lst (xs ++ [y])))
theorem mt_append : MtM X "list.append" rAppend := by
  intro pins s σ H x vs v us Q I rx rv h
  obtain ⟨l, xs, y, rfl, rfl, hH, hz, q⟩ := h
  cases rx
  obtain ⟨u, rfl, ru⟩ := rv.one
  obtain ⟨z, its, n, r, hl, e⟩ := I.lstM hH
  refine call_meets F.slot_list_append ⟨_, e, rfl⟩ F.entry_list_append (F.args_list_append_2 _ _) (PySem.list_append l its.toArray n u (by rw [List.size_toArray]; omega)) ⟨e, ?_⟩
  refine ⟨.non, _, I.lset (its' := its ++ [u]) hH e (by simp) (r.append (.cons ru .nil)) ?_, rfl, q⟩
  rw [List.length_append, List.length_singleton]
  omega
def rCat : R2 := fun x y H Q => ∃ l b xs zs, x = .ref l ∧ y = .ref b ∧ H l = some (.lst xs) ∧ H b = some (.lst zs) ∧ xs.length + zs.length ≤ sizeLine ∧ ∀ p, H p = none → Q (.ref p) (upd H p (.lst (xs ++ zs)))
theorem op_cat : OpR X (binaryOp .Add) rCat := by
  intro pins s σ H x y v u Q I rx ry h
  obtain ⟨l, b, xs, zs, rfl, rfl, hH, hB, hz, q⟩ := h
  cases rx
  cases ry
  obtain ⟨z, its, n, r, hl, e⟩ := I.lstM hH
  obtain ⟨z2, its2, n2, r2, hl2, e2⟩ := I.lstM hB
  refine PySem.P.add_list e e2 ?_ (by rw [List.size_toArray, List.size_toArray]; omega)
  have ea : its.toArray ++ its2.toArray = (its ++ its2).toArray := by simp
  rw [ea]
  exact ⟨.ref _, _, I.lnew (t' := s.toks) (r.append r2) (by rw [List.length_append]; omega), rfl, q _ I.fresh⟩
end
section
variable {prog : Program} {w : World} {A : Around} {E : Value → Shared → Prop} {s : Shared}
end
section
variable {X : Cx}
end
end L2
namespace Att
open PySem PySem.W PySem.Calls PyProof.Rows
theorem ints_of_wellAll {P : Params} {h : Heap} : ∀ (ns : List Int) (vs : List Value), WellAll P h vs (ns.map WData.int) → IntsAre vs ns := by
  intro ns
  induction ns with
  | nil =>
    intro vs w
    rw [List.map_nil] at w
    cases w
    exact .nil
  | cons n ns ih =>
    intro vs w
    rw [List.map_cons] at w
    cases w with
    | cons a b =>
      cases a
      exact .cons _ _ (ih _ b)
theorem script_of {l : OpenLaw} {n : Nat} (hn : l.most = some n) {P : Params} {h : Heap} {args : List WData} {vals : List Value}
    (hpre : l.row.toRowW.claim.pre args = true) (hwl : WellAll P h vals args) :
    ∃ a vs ns, vals = [Value.ref a] ∧ args = [WData.list (ns.map WData.int)] ∧ h.get? a = some { cls := .type "list", data := .seq vs.toArray } ∧ IntsAre vs ns ∧ ns.length ≤ n := by
  have hsh : WShape.hasAll [] args [.list .int] = true := (pre_splitW hpre).1
  have hc : l.pre.holds [] { args := args } = true := (pre_splitW hpre).2
  obtain ⟨d, r, rfl, h1, h2⟩ := hasAllW_cons hsh
  obtain rfl := hasAllW_nil h2
  obtain ⟨xs, rfl, h3⟩ := hasW_list h1
  obtain ⟨ns, rfl⟩ := items_int h3
  have hlen : ns.length ≤ n := by
    unfold OpenLaw.pre at hc
    have h4 : (WTm.not (.lt (.lit (.int (n : Int))) (.len (.arg 0)))).holds [] { args := [.list (ns.map .int)] } = true := by
      have h4 := (holds_andW hc).1
      rw [hn] at h4
      exact h4
    have h5 := condW_of h4 (w_not (w_lt w_lit (w_len_list (w_arg rfl))))
    rw [List.length_map] at h5
    refine Nat.le_of_not_lt fun q => ?_
    have q' : (n : Int) < ((ns.length : Nat) : Int) := by omega
    first
      | (rw [decide_eq_true q'] at h5; exact absurd h5 (by decide))
      | (simp at h5; omega)
  cases hwl with
  | cons w1 w2 =>
    cases w2
    cases w1 with
    | list ho hall => exact ⟨_, _, ns, rfl, rfl, ho, ints_of_wellAll ns _ hall, hlen⟩
theorem post_true (l : OpenLaw) (args : List WData) : l.row.toRowW.claim.post args (.bool true) args = true :=
  postW_of (r := l.row.toRowW) (X := (true == true))
    (show WShape.has [] (.bool true) .bool = true by first | rfl | decide | simp [WShape.has, WShape.arms, WShape.armsAll])
    (show (WTm.eq .res (.lit (.bool true))).value [] { args := args, res := some (.bool true), after := args } = some (.bool (true == true)) from w_eq_bool (w_res rfl) w_lit) rfl
theorem attach_call {l : OpenLaw} {n : Nat} {q : Program} {loose : List Str} {XP : (Str → Option Value) → Heap → Prop} {YP : World → Heap → Prop} {d : DefRec}
    (hn : l.most = some n) (hdf : d.params.defaults = [])
    (call : ∀ (w : World) (s₀ s₁ : Shared) (mg mb : Str → Option Value) (fa : Addr) (o : Obj) (pm cd doc : Value) (a : Addr) (vs : List Value) (ns : List Int),
      Ground q loose [] XP w s₀ mg mb s₁.heap → YP w s₁.heap →
      s₁.heap.get? fa = some o → o.data = .func (docDef d.name d.params d.body d.scope pm cd doc) → s₁.heap.CodeRec cd d.name → mg d.name = some (.ref fa) →
      s₁.heap.get? a = some { cls := .type "list", data := .seq vs.toArray } → IntsAre vs ns → ns.length ≤ n → s₁.gens = #[] →
      codeAny (model l.prog w) callerA (.call (.ref fa) ⟨[.ref a], []⟩) (fun r s' => r = .ok (.ret (.bool true)) ∧ OldK s₁.heap s'.heap ∧ s'.os = s₁.os ∧ AllBare s'.gens) s₁) :
    WalkO q loose XP YP l.row.toRowW d [] (fun f vs => PySem.call f vs) := by
  intro w s₀ s₁ mg mb G Y fa o pm cd doc dV kV ho hd hcd hD hmg hg args vals as hpre hlay hrd hwl hlo
  obtain rfl : dV = .none := Dflts.none hD hdf
  obtain rfl : kV = .none := Dflts.noKw hD
  obtain ⟨a, vs, ns, rfl, rfl, hobj, hints, hlen⟩ := script_of hn hpre hwl
  refine enter_call (codeAny_mono (call w s₀ s₁ mg mb fa o pm cd doc a vs ns G Y ho (fd_plain hd) hcd hmg hobj hints hlen hg) fun r s' hq => ?_)
  obtain ⟨rfl, h2, h3, h4⟩ := hq
  exact ⟨.inl ⟨.bool true, .bool true, [], rfl, fun _ => rfl, .bool true, post_true l _, fun _ => ⟨List.Pairwise.nil, fun _ hm => (nomatch hm)⟩⟩, h2, h3, h4⟩
section
variable {prog : Program} {w : World} {A : Around} {E : Value → Shared → Prop} {s : Shared} {K : Frag}
end
end Att
namespace L2
open PySem PySem.Spec PyProof.Rows
theorem vals_ints : ∀ {vs : List Value} {ns : List Int}, IntsAre vs ns → Vals (ns.map V.int) vs
  | _, _, .nil => .nil
  | _, _, .cons n t h => .cons ⟨t, rfl⟩ (vals_ints h)
def Only (H : Hp) : Prop := ∀ b, H b = none ∨ ∃ o xs, H b = some (.frz o (.lst xs))
theorem law_call {P : Program} {w : World} {K : PySem.W.Frag} {mg mb : Str → Option Value} {CX : CXT} {k : Nat} {fa a : Addr} {fd : FuncData} {x : Str} {sp : Sp} {s₁ : Shared} {vs : List Value} {ns : List Int}
    (KX : K.In s₁.heap) (hns : s₁.heap.Ns mainGlobals mg) (hb : s₁.heap.Ns builtinsNs mb) (hbb : ∀ x : Str, x ≠ "__name__" → mb x = bootBuiltins x) (hlim : s₁.heap.NoLimit) (hg : s₁.gens = #[])
    (ha : s₁.heap.get? a = some { cls := .type "list", data := .seq vs.toArray }) (hi : IntsAre vs ns) (hl : ns.length ≤ sizeLine) (hr : Room k callerA)
    (F : ∀ base : Heap, K.In base → base.Ns mainGlobals mg → FnOk P w K mg base CX k fa fd [x] sp) (hbind : ∀ (s : Shared) (u : Value), BindsTo s fd ⟨[u], []⟩ [(x, u)])
    (hsp : ∀ H : Hp, Only H → SqL K H a (ns.map V.int) → sp [.ref a] H (fun v _ => v = .bl true) fun _ _ _ => False)
    (hCX : ∀ H e s', CX [] H s₁ (fun _ _ _ => False) e s' → False) :
    codeAny (model P w) callerA (.call (.ref fa) ⟨[.ref a], []⟩) (fun r s' => r = .ok (.ret (.bool true)) ∧ OldK s₁.heap s'.heap ∧ s'.os = s₁.os ∧ AllBare s'.gens) s₁ := by
  have rv := vals_ints hi
  have lenV := hi.length
  have core : ∀ H : Hp, Only H → SqL K H a (ns.map V.int) → HOk P w H s₁.heap → (∀ b, H b ≠ none → b = a) → (H a ≠ none → K.lookup a = none) →
      codeAny (model P w) callerA (.call (.ref fa) ⟨[.ref a], []⟩) (fun r s' => r = .ok (.ret (.bool true)) ∧ OldK s₁.heap s'.heap ∧ s'.os = s₁.os ∧ AllBare s'.gens) s₁ := by
    intro H hO hS hok hA hK
    have base_of : ∀ {b : Addr} {o : Obj}, s₁.heap.get? b = some o → H b = none → (hidT s₁.heap H).get? b = some o := fun e n => hidT_get e n
    have noA : ∀ {b : Addr} {o : Obj} {es : Array DictEntry} {ep : Nat}, s₁.heap.get? b = some o → o.data = .dict es ep → H b = none := fun {b o es ep} e d => by
      cases q : H b with
      | none => rfl
      | some u =>
        have e' : b = a := hA b (by rw [q]; simp)
        subst e'
        rw [ha] at e; cases e
        have d' : Data.seq vs.toArray _ = Data.dict es ep := d
        cases d'
    have nsK : ∀ {b : Addr} {m : Str → Option Value}, s₁.heap.Ns b m → (hidT s₁.heap H).Ns b m := fun {b m} ⟨o, es, ep, e, d, r⟩ => ⟨o, es, ep, base_of e (noA e d), d, r⟩
    have hKb : K.In (hidT s₁.heap H) := fun b o e => base_of (KX b o e) (by
      cases q : H b with
      | none => rfl
      | some u =>
        have e' : b = a := hA b (by rw [q]; simp)
        subst e'
        rw [hK (by rw [q]; simp)] at e; cases e)
    have hM : Mod K mg (hidT s₁.heap H) := ⟨hKb, nsK hns, ⟨mb, nsK hb, hbb⟩, let ⟨mc, h1, h2⟩ := hlim; ⟨mc, nsK h1, h2⟩⟩
    have e0 : Env0 P w K mg (hidT s₁.heap H) callerA [] s₁ H := ⟨rfl, hM, fun b o e => of_hidT e, Nat.le_of_eq (hidT_size _ _), trivial, fun b hb => absurd (show b ∈ ([] : List Addr) from hb) (by simp), hok, .of_eq hg⟩
    refine codeAny_mono ((F _ hKb (nsK hns)).run callerA [] s₁ H ⟨[.ref a], []⟩ [.ref a] [.ref a] _ _ hr e0 (hbind s₁ (.ref a)) (.cons rfl .nil) (hsp H hO hS)) fun r s' h => ?_
    cases r with
    | error e => exact (hCX H e s' h).elim
    | ok fl =>
      cases fl with
      | next => exact False.elim h
      | brk => exact False.elim h
      | cont => exact False.elim h
      | ret u =>
        obtain ⟨v, H', os, bare, un, hok', r', q⟩ := h
        have q' : v = .bl true := q
        subst q'
        obtain rfl : u = Value.bool true := r'
        refine ⟨rfl, OldK.of_keep fun b o e => ?_, os, bare⟩
        cases q : H b with
        | none => exact un.keep b o e q (by intro z; exact absurd (show b ∈ ([] : List Addr) from z) (by simp)) (by simp)
        | some u =>
          rcases hO b with z | ⟨ob, xs, z⟩
          · rw [q] at z; cases z
          · have z2 := un.frzs b ob _ z
            obtain ⟨e1, _⟩ := hok b _ z
            obtain ⟨e2, _⟩ := hok' b _ z2
            rw [e] at e1; cases e1
            exact e2
  cases hk : K.lookup a with
  | some o =>
    have e := KX a o hk
    rw [ha] at e
    cases e
    refine core (fun _ => none) (fun _ => .inl rfl) (.inr ⟨_, vs.toArray, _, hk, rfl, rfl, rfl, by rw [List.size_toArray, lenV]; exact hl, by simpa using rv⟩) (fun b u z => by have z' : (none : Option HO) = some u := z; cases z') (fun b z => absurd rfl z) fun z => absurd rfl z
  | none =>
    refine core (fun b => if b = a then some (.frz { cls := .type "list", data := .seq vs.toArray } (.lst (ns.map V.int))) else none) (fun b => ?_) (.inl (.inr ⟨{ cls := .type "list", data := .seq vs.toArray }, if_pos rfl⟩)) (fun b u z => ?_) (fun b z => ?_) fun _ => hk
    · by_cases hb : b = a
      · exact .inr ⟨_, _, if_pos hb⟩
      · exact .inl (if_neg hb)
    · by_cases hb : b = a
      · have z' := (if_pos hb).symm.trans z
        cases z'
        subst hb
        exact ⟨ha, by rw [List.length_map]; exact hl, vs, _, rv, ha⟩
      · have z' := (if_neg hb).symm.trans z
        cases z'
    · by_cases hb : b = a
      · exact hb
      · exact absurd (if_neg hb) z
end L2
namespace L2
open PySem PySem.Spec PyProof.Rows
abbrev KOf {K : PySem.W.Frag} {h : Heap} (_ : K.In h) : PySem.W.Frag := K
theorem walk_of {l : PySem.W.OpenLaw} {n k : Nat} {q : Program} {loose : List Str} {XP : (Str → Option Value) → Heap → Prop} {YP : World → Heap → Prop} {d : DefRec} {K : Params → PySem.W.Frag} {CX : World → CXT} {sp : World → Sp} {x : Str}
    (hn : l.most = some n) (hn2 : n ≤ sizeLine) (hdf : d.params.defaults = []) (hr : Room k callerA)
    (hY : ∀ (w : World) (h : Heap), YP w h → (K w.params).In h)
    (F : ∀ (w : World) (mg : Str → Option Value) (fa : Addr) (h : Heap), (K w.params).In h → h.Ns mainGlobals mg → mg d.name = some (.ref fa) →
      ∃ fd : FuncData, (∀ (s : Shared) (u : Value), BindsTo s fd ⟨[u], []⟩ [(x, u)]) ∧
        ∀ base : Heap, (K w.params).In base → base.Ns mainGlobals mg → FnOk l.prog w (K w.params) mg base (CX w) k fa fd [x] (sp w))
    (hsp : ∀ (w : World) (H : Hp) (a : Addr) (ns : List Int), ns.length ≤ n → Only H → SqL (K w.params) H a (ns.map V.int) → sp w [.ref a] H (fun v _ => v = .bl true) fun _ _ _ => False)
    (hCX : ∀ (w : World) (H : Hp) (s : Shared) (e : Value) (s' : Shared), CX w [] H s (fun _ _ _ => False) e s' → False) :
    PySem.W.WalkO q loose XP YP l.row.toRowW d [] (fun f vs => PySem.call f vs) := by
  refine Att.attach_call hn hdf fun w s₀ s₁ mg mb fa o pm cd doc a vs ns G Y ho hd hcd hmg hobj hints hlen hg => ?_
  have KX := hY w _ Y
  obtain ⟨fd, hb, hF⟩ := F w mg fa _ KX G.T.g hmg
  exact law_call KX G.T.g G.T.b G.T.builtins G.T.nolimit hg hobj hints (Nat.le_trans hlen hn2) hr hF hb (fun H hO hS => hsp w H a ns hlen hO hS) fun H e s' => hCX w H s₁ e s'
end L2
/- THE LAST THEOREM (shape; LID, My.* are yours):
   My.Adr: a structure of the addresses that your layer names (classes, functions); My.Txt K t: a structure (Prop) of the equations over K;
   My.txt_mk : {K} {implicit addresses ..} (e1 : nsIn K mainGlobals "law" = some (some (.ref f))) (e2 : K.lookup f = some ⟨oc, od, .func (fnOf "law" "law" params body scope dV kV doc pm an cdv ct), sl⟩) (e3 : codeIn K cdv "law" = true) .. : ∃ t, My.Txt K t
set_option maxRecDepth 100000 in
set_option maxHeartbeats 0 in
theorem PySem.Challenge.cw_LID_holds : PySem.Challenge.rw_LID.Holds := by
  w_on; o_law; k_head; (case hw => w_witness2)
  k_fill
  refine L2.walk_of (l := PySem.Challenge.rw_LID) (n := 63) (k := 40) (x := "script") (CX := fun w => ..) (sp := fun _ => My.sp_law) rfl (by decide) rfl ⟨rfl, by decide, by decide⟩ (fun w h Y => PySem.W.kIn_of Y) ?F ?S ?C
  case F =>
    intro w mg fa h KX G hmg
    have T : ∃ t, My.Txt (L2.KOf KX) t := by
      dsimp only [L2.KOf]                          -- K must stand as «<heap const> w.params» for k_is
      refine' My.txt_mk ?e1 ?e2 ?e3 ..
      (case e1 => PySem.W.k_is)                    -- in the order: a name -> its address -> its object -> its parts
      (case e2 => PySem.W.k_is)
      ..
    obtain ⟨t, T⟩ := T
    have e0 := hmg.symm.trans (PySem.W.mg_of KX G T.law)
    cases e0                                       -- fa is the law's own address
    exact ⟨_, fun s u => .of_eq rfl, fun base kb nb => My.law_fn T kb nb⟩     -- if «.of_eq rfl» comes too early: refine' ⟨_, ?b, fun base kb nb => My.law_fn T kb nb⟩; exact fun s u => .of_eq rfl
  case S => exact fun w H a ns hl hO hS => ..
  case C => exact ..
(the tactic k_is has no namespace: write k_is) -/
namespace L2
open PySem PySem.Spec PyProof.Rows
def defArgs (s : Stmt) : Arguments := match s with
  | .FunctionDef _ a _ _ _ _ _ _ _ _ => a
  | _ => { posonlyargs := [], args := [], vararg := none, kwonlyargs := [], kw_defaults := [], kwarg := none, defaults := [] }
def defBody (s : Stmt) : List Stmt := match s with
  | .FunctionDef _ _ b _ _ _ _ _ _ _ => b
  | _ => []
def defScope (s : Stmt) : Scope := match s with
  | .FunctionDef _ _ _ _ _ _ sc _ _ _ => sc
  | _ => { kind := .function, names := [], isGenerator := false, isCoroutine := false }
abbrev CX0 : CXT := fun _ _ _ _ _ _ => False
abbrev E0 : XK := fun _ _ _ => False
theorem pass0 {X : Cx} : Passes CX0 X E0 := fun _ _ _ _ _ _ _ h => h.elim
structure Fun (K : PySem.W.Frag) (x qual : Str) (st : Stmt) (f : Addr) (fd : FuncData) : Prop where
  ex : ∃ (oc : Value) (od : Option Addr) (kV doc pm : Value) (an : Option Addr) (cdv ct : Value) (osl : Array (Option Value)),
    fd = PySem.W.fnOf x qual (defArgs st) (defBody st) (defScope st) .none kV doc pm an cdv ct ∧ K.lookup f = some ⟨oc, od, .func fd, osl⟩ ∧ PySem.W.codeIn K cdv qual = true
  kp : PySem.W.keepIn K (.ref f) = true
section
variable {P : Program} {w : World} {K : PySem.W.Frag} {mg : Str → Option Value} {base : Heap}
theorem Fun.ok {x qual : Str} {st : Stmt} {f : Addr} {fd : FuncData} {N ps : List Str} {k : Nat} {sp : Sp} (F : Fun K x qual st f fd) (S : FnScope N ps (defScope st)) (len : ∀ vs H Q E, sp vs H Q E → vs.length = ps.length)
    (hbody : ∀ (cdv : Value) (A : Around) (outer : List Env) (s : Shared) (H : Hp) (vs : List V) (Q : VK) (E : XK), Room k (A.deeper (envOfC qual (defScope st) s.heap.objs.size f cdv)) → sp vs H Q E →
      ∃ t, PSs (cxOf CX0 P w K mg base N qual (defScope st) f cdv A outer s H E).nox (defBody st) t ∧ t { nx := fun _ H' => Q .non H', rt := Q } (start N vs) H) : FnOk P w K mg base CX0 (k + 1) f fd ps sp := by
  obtain ⟨oc, od, kV, doc, pm, an, cdv, ct, osl, rfl, lk, hcd⟩ := F.ex
  refine fn_of lk hcd S len fun A outer s H vs Q E hr hsp => ?_
  obtain ⟨t, h, q⟩ := hbody cdv A outer s H vs Q E hr hsp
  exact ⟨t, h.nox, q⟩
theorem Fun.binds {x qual : Str} {st : Stmt} {f : Addr} {fd : FuncData} {ps : List Str} (F : Fun K x qual st f fd)
    (h : ∀ (kV doc pm : Value) (an : Option Addr) (cdv ct : Value) (us : List Value), us.length = ps.length → bindArgs (PySem.W.fnOf x qual (defArgs st) (defBody st) (defScope st) .none kV doc pm an cdv ct) ⟨us, []⟩ = pure (ps.zip us)) : Binds K fd ps [] := by
  obtain ⟨oc, od, kV, doc, pm, an, cdv, ct, osl, rfl, lk, hcd⟩ := F.ex
  exact .all (h kV doc pm an cdv ct)
theorem fun_mk {x qual : Str} {st : Stmt} {f : Addr} {oc : Value} {od an : Option Addr} {osl : Array (Option Value)} {kV doc pm cdv ct : Value} (l : K.lookup f = some ⟨oc, od, .func (PySem.W.fnOf x qual (defArgs st) (defBody st) (defScope st) .none kV doc pm an cdv ct), osl⟩)
    (c : PySem.W.codeIn K cdv qual = true) (k : PySem.W.keepIn K (.ref f) = true) : Fun K x qual st f (PySem.W.fnOf x qual (defArgs st) (defBody st) (defScope st) .none kV doc pm an cdv ct) := ⟨⟨oc, od, kV, doc, pm, an, cdv, ct, osl, rfl, l, c⟩, k⟩
end
theorem small1000 {n : Nat} (h : n ≤ 1000) : n < sizeLine := Nat.lt_of_le_of_lt h (by decide)
section
variable {X : Cx}
theorem pv (i : Nat) {x : Str} {pos : Pos} (hN : X.N[i]? = some x := by rfl) (hv : Vis X.env.scope x := by first | exact Or.inl rfl | exact Or.inr (Or.inl rfl) | exact Or.inr (Or.inr rfl)) (hd : (x == ("__debug__" : Str)) = false := by decide)
    (hcd : (x == ("__classdict__" : Str)) = false := by decide) : PE X (.Name x pos) (tVar i) := pe_var hN hv hd hcd
end
def Same (H H' : Hp) : Prop := ∀ b o, H b = some o → H' b = some o
theorem Same.refl (H : Hp) : Same H H := fun _ _ h => h
theorem Same.trans {H H1 H2 : Hp} (a : Same H H1) (b : Same H1 H2) : Same H H2 := fun c o h => b c o (a c o h)
theorem Same.free {H H' : Hp} (e : Same H H') {l : Addr} (h : H' l = Option.none) : H l = Option.none := by
  cases q : H l with
  | none => rfl
  | some o =>
    rw [e l o q] at h
    cases h
theorem Same.seq {K : PySem.W.Frag} {H H' : Hp} {a : Addr} {xs : List V} (e : Same H H') (h : SqL K H a xs) : SqL K H' a xs := by
  rcases h with (h | ⟨o, h⟩) | h
  · exact .inl (.inl (e _ _ h))
  · exact .inl (.inr ⟨o, e _ _ h⟩)
  · exact .inr h
end L2
namespace Hk
open PySem
end Hk
set_option maxRecDepth 100000
namespace Hk
open PySem PySem.Spec PyProof.Rows
section
variable {prog : Program} {w : World} {A : Around} {E : Value → Shared → Prop} {s : Shared}
end
section
variable {prog : Program} {w : World} {A : Around} {R : Result → Shared → Prop} {I : Addr} {fp wr : List Addr} {G : Array GenState → Array GenState → Prop} {n : Nat} {P : Nat → Value → Prop} {St : Nat → Shared → Prop}
end
end Hk
set_option maxRecDepth 100000
namespace Hk
open PySem PySem.Spec PyProof.Rows
section
variable {prog : Program} {w : World} {A : Around} {E : Value → Shared → Prop} {s : Shared}
end
end Hk
set_option maxRecDepth 100000
namespace PySem.F
end PySem.F
namespace Hk
open PySem PySem.Spec PyProof.Rows
section
variable {prog : Program} {w : World} {A : Around} {E : Value → Shared → Prop} {s : Shared}
end
end Hk
set_option maxRecDepth 100000
namespace Hk
open PySem PySem.Spec PyProof.Rows
section
variable {prog : Program} {w : World} {A : Around} {E : Value → Shared → Prop} {s : Shared}
end
end Hk
set_option maxRecDepth 100000
namespace Hk
open PySem PySem.Spec PyProof.Rows
section
variable {prog : Program} {w : World} {A : Around} {E : Value → Shared → Prop} {s : Shared}
end
end Hk
set_option maxRecDepth 100000
namespace PySem.F
end PySem.F
namespace Hk
open PySem PySem.Spec PyProof.Rows
section
variable {prog : Program} {w : World} {A : Around} {E : Value → Shared → Prop} {s : Shared}
end
end Hk
set_option maxRecDepth 100000
namespace Hk
open PySem PySem.Spec PyProof.Rows
section
variable {prog : Program} {w : World} {A : Around} {E : Value → Shared → Prop} {s : Shared}
end
end Hk
set_option maxRecDepth 100000
namespace L2
open PySem PySem.Spec PyProof.Rows
def closL (names : List (Str × NameKind)) (cells : List (Str × Addr)) (cs : List (Str × Addr)) : List (Str × Addr) :=
  match names with
  | [] => cs
  | p :: r => closL r cells (if p.2 == .free then (p.1, (cells.lookup p.1).getD 0) :: cs else cs)
theorem closureFor_is {scope : Scope} {env : Env} (h : ∀ p ∈ scope.names, p.2 = NameKind.free → (env.cells.lookup p.1).isSome = true) :
    closureFor scope env = pure (closL scope.names env.cells []) := by
  simp only [closureFor]
  generalize scope.names = l at h ⊢
  have key : ∀ (l : List (Str × NameKind)) (cs : List (Str × Addr)), (∀ p ∈ l, p.2 = NameKind.free → (env.cells.lookup p.1).isSome = true) →
      (forIn l cs (fun (p : Str × NameKind) (r : List (Str × Addr)) => if (p.2 == NameKind.free) = true then (do let a ← cellOf env p.1; pure (ForInStep.yield ((p.1, a) :: r))) else pure (ForInStep.yield r)) : Sem _) = pure (closL l env.cells cs) := by
    intro l
    induction l with
    | nil => intro cs _; rfl
    | cons p r ih =>
      intro cs hp
      rw [List.forIn_cons]
      have hr := fun q hq => hp q (List.mem_cons_of_mem _ hq)
      by_cases hf : p.2 = NameKind.free
      · have hs := hp p List.mem_cons_self hf
        obtain ⟨a, ha⟩ := Option.isSome_iff_exists.mp hs
        have e : cellOf env p.1 = pure a := by unfold cellOf; rw [ha]
        have hb : (p.2 == NameKind.free) = true := by rw [hf]; rfl
        rw [if_pos hb, e, pure_bind, pure_bind]
        show forIn r _ _ = _
        rw [ih _ hr]
        show _ = pure (closL r env.cells (if p.2 == .free then _ else _))
        rw [if_pos hb, ha]; rfl
      · have hb : ¬ (p.2 == NameKind.free) = true := by intro z; exact hf (by cases hk : p.2 <;> simp_all)
        rw [if_neg hb, pure_bind]
        show forIn r _ _ = _
        rw [ih _ hr]
        show _ = pure (closL r env.cells (if p.2 == .free then _ else _))
        rw [if_neg hb]
  rw [key l [] h]
  rfl
theorem free_eq {k : NameKind} (h : (k == NameKind.free) = true) : k = NameKind.free := by cases k <;> first | rfl | cases h
theorem closL_sub {cells : List (Str × Addr)} : ∀ (l : List (Str × NameKind)) (cs : List (Str × Addr)), (∀ p ∈ l, p.2 = NameKind.free → (cells.lookup p.1).isSome = true) →
    (∀ x c, cs.lookup x = some c → cells.lookup x = some c) → ∀ x c, (closL l cells cs).lookup x = some c → cells.lookup x = some c
  | [], cs, _, h, x, c, e => h x c e
  | p :: r, cs, hp, h, x, c, e => by
    refine closL_sub r _ (fun q hq => hp q (List.mem_cons_of_mem _ hq)) (fun y d hy => ?_) x c e
    by_cases hb : (p.2 == NameKind.free) = true
    · rw [if_pos hb, List.lookup_cons] at hy
      cases hyp : y == p.1 with
      | true =>
        rw [hyp] at hy
        have hy' : (cells.lookup p.1).getD 0 = d := Option.some.inj hy
        obtain ⟨a, ha⟩ := Option.isSome_iff_exists.mp (hp p List.mem_cons_self (free_eq hb))
        rw [ha] at hy'
        rw [eq_of_beq hyp, ha, ← hy']; rfl
      | false => rw [hyp] at hy; exact h y d hy
    · rw [if_neg hb] at hy; exact h y d hy
theorem closL_has {cells : List (Str × Addr)} : ∀ (l : List (Str × NameKind)) (cs : List (Str × Addr)) (x : Str), ((x, NameKind.free) ∈ l ∨ (cs.lookup x).isSome = true) → ((closL l cells cs).lookup x).isSome = true
  | [], cs, x, h => by
    rcases h with h | h
    · cases h
    · exact h
  | p :: r, cs, x, h => by
    refine closL_has r _ x ?_
    rcases h with h | h
    · rcases List.mem_cons.mp h with rfl | h
      · right
        show (List.lookup x (if (NameKind.free == NameKind.free) = true then _ else _)).isSome = true
        rw [if_pos (by rfl), List.lookup_cons, beq_self_eq_true]
        rfl
      · exact .inl h
    · right
      by_cases hb : (p.2 == NameKind.free) = true
      · rw [if_pos hb, List.lookup_cons]
        cases hx : x == p.1 with
        | true => rfl
        | false => exact h
      · rw [if_neg hb]; exact h
def cxIn (X : Cx) (N : List Str) (scope : Scope) (C : Addr) (s : Shared) (H : Hp) (fp : List Addr) : Cx :=
  { X with N := N, s₀ := s, H₀ := H, env := compEnvC scope (closL scope.names X.env.cells []) C X.env, outer := X.stack, stack := X.stack, ex := fp, fn := fun _ => false, pn := [], xe := fun _ _ => False }
def sgIn (M : Nat) (frees : List Nat) (σ : St) : St := List.replicate M none ++ frees.map fun j => (σ[j]?).getD none
structure BlkOk (X : Cx) (N : List Str) (M : Nat) (frees : List Nat) (scope : Scope) : Prop where
  kind : scope.kind = .function
  nocell : ∀ y ∈ scope.names, y.2 ≠ .cell
  own : ∀ y ∈ scope.names, y.2 = .local → scope.names.lookup y.1 = some .local
  cells : ∀ p ∈ scope.names, p.2 = NameKind.free → (X.env.cells.lookup p.1).isSome = true
  fr : ∀ (k : Nat) (x : Str), N[M + k]? = some x → ∃ j, frees[k]? = some j ∧ X.N[j]? = some x ∧ (X.env.kindOf x = some .cell ∨ X.env.kindOf x = some .free) ∧ scope.names.lookup x = some .free
  len : N.length = M + frees.length
theorem relabel_free {env : Env} {x : Str} : ∀ {names : List (Str × NameKind)} {k : NameKind}, (∀ y ∈ names, y.2 ≠ .cell) → (k = .cell ∨ k = .free) →
    (names.map fun (n, k) => if (k == NameKind.free && env.scope.kind == .function && env.kindOf n == some .cell) then (n, NameKind.cell) else (n, k)).lookup x = some k → (x, NameKind.free) ∈ names
  | [], _, _, _, h => by cases h
  | (n, k0) :: r, k, hc, hk, h => by
    have ih := @relabel_free env x r k (fun y hy => hc y (List.mem_cons_of_mem _ hy)) hk
    rw [List.map_cons] at h
    by_cases hb : (k0 == NameKind.free && env.scope.kind == .function && env.kindOf n == some .cell) = true
    · have hf : k0 = NameKind.free := free_eq (by rw [Bool.and_eq_true, Bool.and_eq_true] at hb; exact hb.1.1)
      dsimp only at h
      rw [if_pos hb, List.lookup_cons] at h
      cases hx : x == n with
      | true => rw [eq_of_beq hx, hf]; exact List.mem_cons_self
      | false => rw [hx] at h; exact List.mem_cons_of_mem _ (ih h)
    · dsimp only at h
      rw [if_neg hb, List.lookup_cons] at h
      cases hx : x == n with
      | true =>
        rw [hx] at h
        have e : k0 = k := Option.some.inj h
        have z := hc (n, k0) List.mem_cons_self
        rw [eq_of_beq hx]
        rcases hk with rfl | rfl
        · exact absurd e z
        · rw [e]; exact List.mem_cons_self
      | false => rw [hx] at h; exact List.mem_cons_of_mem _ (ih h)
theorem relabel_look {env : Env} {x : Str} : ∀ {names : List (Str × NameKind)}, names.lookup x = some .free →
    (names.map fun (n, k) => if (k == NameKind.free && env.scope.kind == .function && env.kindOf n == some .cell) then (n, NameKind.cell) else (n, k)).lookup x = some .cell ∨
    (names.map fun (n, k) => if (k == NameKind.free && env.scope.kind == .function && env.kindOf n == some .cell) then (n, NameKind.cell) else (n, k)).lookup x = some .free
  | [], h => by cases h
  | (n, k0) :: r, h => by
    have ih := @relabel_look env x r
    rw [List.map_cons]
    dsimp only
    rw [List.lookup_cons] at h
    by_cases hb : (k0 == NameKind.free && env.scope.kind == .function && env.kindOf n == some .cell) = true
    · rw [if_pos hb, List.lookup_cons]
      cases hx : x == n with
      | true => exact .inl rfl
      | false => rw [hx] at h; exact ih h
    · rw [if_neg hb, List.lookup_cons]
      cases hx : x == n with
      | true => rw [hx] at h; exact .inr h
      | false => rw [hx] at h; exact ih h
section
variable {X : Cx} {pins : List (Addr × Obj)} {σ : St} {H : Hp} {s : Shared} {N : List Str} {M : Nat} {frees : List Nat} {scope : Scope} {fp : List Addr}
theorem Inv.enter {h1 : Heap} {C D tk : Nat} {m1 : Str → Option Value} (I : Inv X pins σ H s) (B : BlkOk X N M frees scope) (f : ∀ b ∈ fp, FpOk X pins H b) (lt : ∀ b ∈ fp, b < s.heap.objs.size)
    (hC : s.heap.objs.size < C) (hD : s.heap.objs.size ≤ D) (hDC : C ≠ D) (k : ∀ b u, s.heap.get? b = some u → h1.get? b = some u) (hns : h1.Ns C m1)
    (hl : h1.get? D = some { cls := .type "list", data := .seq ([] : List Value).toArray }) :
    Inv (cxIn X N scope C s H fp) [] (sgIn M frees σ) (upd H D (.lst [])) { s with heap := h1, toks := tk } := by
  have sub := closL_sub (cells := X.env.cells) scope.names [] B.cells (fun x c e => by cases e)
  have hfr : H D = none := I.hok.fresh hD
  have hfc : H C = none := I.hok.fresh (Nat.le_of_lt hC)
  have clt : ∀ x c, (closL scope.names X.env.cells []).lookup x = some c → c < s.heap.objs.size := fun x c e => by
    obtain ⟨v, q⟩ := I.cell x c (sub x c e)
    exact q.lt
  refine ⟨⟨I.ok.mod, B.kind, I.ok.glob, I.ok.blt, Nat.le_of_lt hC, fun x y c e1 e2 => I.ok.inj x y c (sub x c e1) (sub y c e2), fun x hx => ?_, fun x c e => absurd e (by intro z; cases z), I.ok.hd, I.ok.frames, .inl rfl, fun b hb => ?_, I.bs, Nat.le_trans I.ok.bsz I.sz, fun b o e hb => ?_,
    fun b hb hf => ?_, I.stack, I.stkFree⟩, rfl, I.bare, Un.laid k hD hfr, ⟨m1, hns, fun i x v e1 e2 e3 => ?_⟩, fun x c e => ?_, ?_, fun x c e => ?_, fun p hp => absurd (show p ∈ ([] : List (Addr × Obj)) from hp) (by simp), I.hok.laid k hD ⟨Nat.zero_le _, [], 0, .nil, hl⟩, ?_⟩
  · have hm : (x, NameKind.free) ∈ scope.names := by
      rcases hx with hx | hx
      · exact relabel_free B.nocell (.inl rfl) hx
      · exact relabel_free B.nocell (.inr rfl) hx
    exact Option.isSome_iff_exists.mp (closL_has scope.names [] x (.inl hm))
  · exact ⟨Nat.ne_of_lt (Nat.lt_trans (lt b hb) hC), fun x c e => (f b hb).2.2.2.2.1 x c (sub x c e)⟩
  · rcases (f b hb).2.2.2.1 with z | z
    · exact I.ok.noex b o e z
    · exact absurd (Nat.lt_of_lt_of_le (Heap.lt_size e) (Nat.le_trans I.ok.bsz z)) (Nat.lt_irrefl _)
  · rcases List.mem_cons.mp (I.stkSub b hf) with z | z
    · exact (f b hb).2.1 z
    · exact (f b hb).2.2.1 z
  · have hi : M ≤ i := by
      rcases Nat.lt_or_ge i M with z | z
      · unfold sgIn at e2
        rw [List.getElem?_append_left (by simpa using z), List.getElem?_replicate, if_pos z] at e2
        cases e2
      · exact z
    obtain ⟨q, rfl⟩ : ∃ q, i = M + q := ⟨i - M, by omega⟩
    obtain ⟨j, h1', h2', h3', h4'⟩ := B.fr q x e1
    have ev : σ[j]? = some (some v) := by
      unfold sgIn at e2
      rw [List.getElem?_append_right (by simp), List.length_replicate, Nat.add_sub_cancel_left, List.getElem?_map, h1'] at e2
      cases e : σ[j]? with
      | none => rw [Option.map_some, e] at e2; cases e2
      | some o => rw [Option.map_some, e] at e2; exact e2
    obtain ⟨m, hn, hl'⟩ := I.loc
    have vis : Vis X.env.scope x := by
      rcases h3' with z | z
      · exact .inr (.inl z)
      · exact .inr (.inr z)
    obtain ⟨u, ru, lk⟩ := hl' j x v h2' ev vis
    refine ⟨u, ru, .inr ?_⟩
    rcases lk with ⟨z, _⟩ | ⟨_, c, ec, ic⟩
    · rcases h3' with y | y <;> (rw [z] at y; cases y)
    · obtain ⟨c', ec'⟩ := Option.isSome_iff_exists.mp (closL_has (cells := X.env.cells) scope.names [] x (.inl (PySem.mem_of_lookup h4')))
      have : c' = c := Option.some.inj ((sub x c' ec').symm.trans ec)
      subst this
      exact ⟨relabel_look h4', c', ec', ic.keeps k⟩
  · obtain ⟨v, q⟩ := I.cell x c (sub x c e)
    exact ⟨v, q.keeps k⟩
  · show upd H D (.lst []) C = none
    rw [upd_ne hDC]; exact hfc
  · show upd H D (.lst []) c = none
    rw [upd_ne (Nat.ne_of_lt (Nat.lt_of_lt_of_le (clt x c e) hD))]
    exact I.freeC x c (sub x c e)
  · show (sgIn M frees σ).length = N.length
    unfold sgIn
    rw [List.length_append, List.length_replicate, List.length_map, B.len]
end
end L2
namespace L2
open PySem PySem.Spec PyProof.Rows
section
variable {prog : Program} {w : World} {A : Around} {R : Result → Shared → Prop} {s : Shared}
theorem compLoop_by {elt target iter : Expr} {ifs : List Expr} {scope : Scope} {pos : Pos} {it acc : Value} {env : Env} (J : Nat → Shared → Prop)
    (turn : ∀ n s, J n s → wpAny (model prog w) A (pyNext it) (fun r s1 => match r with
      | none => R (.ok .next) s1
      | some v => wpAny (model prog w) A (letOwnedTupleGo target it v) (fun _ s2 => wpAny (model prog w) A (assign target env v) (fun _ s3 =>
          wpAny (model prog w) A (forIn ifs true fun c r => if r = true then do let ok ← isTrue c env (eval c env); pure (ForInStep.yield ok) else pure (ForInStep.yield r)) (fun ok s4 =>
            if ok = true then wpAny (model prog w) A (eval elt env) (fun x s5 => wpAny (model prog w) A (call (.builtin "list.append") [acc, x]) (fun _ s6 => ∃ m, m < n ∧ J m s6) (fun _ _ => False) s5) (fun _ _ => False) s4
            else ∃ m, m < n ∧ J m s4) (fun _ _ => False) s3) (fun _ _ => False) s2) (fun _ _ => False) s1) (fun _ _ => False) s)
    (n : Nat) (h : J n s) : codeAny (model prog w) A (.compLoop (.ListComp elt [⟨target, iter, ifs, 0⟩] scope pos) 0 it acc env) R s := by
  refine codeAny_loop rfl J (fun n s hJ => ?_) n h
  show wpAny _ A ((compTurn (.ListComp elt [⟨target, iter, ifs, 0⟩] scope pos) 0 it acc env).onRaise (fun x => do noteFrame x env; theTreesLotGoes x)) _ _ s
  refine wpAny_noted (wpAny_mono (Q := fun fin s' => match fin with | .done f => R (.ok f) s' | .again c' => c' = .compLoop (.ListComp elt [⟨target, iter, ifs, 0⟩] scope pos) 0 it acc env ∧ ∃ m, m < n ∧ J m s') ?_ (fun _ _ q => q) fun _ _ (z : False) => z.elim)
  rw [compTurn_list]
  refine wpAny_bind (wpAny_standAt (wpAny_bind (wpAny_mono (turn n s hJ) (fun r s1 h1 => ?_) fun _ _ q => q)))
  cases r with
  | none => exact wpAny_pure h1
  | some v =>
    refine wpAny_bind (wpAny_mono h1 (fun _ s2 h2 => wpAny_bind (wpAny_mono h2 (fun _ s3 h3 => wpAny_bind (wpAny_mono h3 (fun ok s4 h4 => ?_) fun _ _ q => q)) fun _ _ q => q)) fun _ _ q => q)
    cases ok with
    | false => exact wpAny_pure ⟨rfl, h4⟩
    | true => exact wpAny_bind (wpAny_bind (wpAny_mono h4 (fun x s5 h5 => wpAny_bind (wpAny_mono h5 (fun _ s6 h6 => wpAny_pure (wpAny_pure ⟨rfl, h6⟩)) fun _ _ q => q)) fun _ _ q => q))
end
def PTs (X : Cx) (ifs : List Expr) (t : TT) : Prop :=
  ∀ (pins : List (Addr × Obj)) (s : Shared) (σ : St) (H : Hp) (Q : Bool → Hp → Prop), Inv X pins σ H s → t σ H Q →
    wpAny (model X.prog X.w) X.A (forIn ifs true fun c r => if r = true then do let ok ← isTrue c X.env (eval c X.env); pure (ForInStep.yield ok) else pure (ForInStep.yield r)) (TP X pins σ Q) X.xe s
theorem pts_nil {X : Cx} : PTs X [] (fun _ H Q => Q true H) := fun _ _ _ H _ I q => wpAny_tests_nil ⟨H, I, q⟩
def tComp (M : Nat) (frees : List Nat) (wi : TI) (g : TG) (tc : TT) (te : TE) : TE := fun σ H Q => wi σ H fun J H1 => ∀ D, H1 D = none →
  ∃ W : Nat → Nat → St → Hp → Prop, (∃ m, W 0 m (sgIn M frees σ) (upd H1 D (.lst []))) ∧ ∀ i m σ' H', W i m σ' H' →
    (J.stop i H' ∧ Q (.ref D) H') ∨ (J.go i H' ∧ ∀ x H2, J.yld i H' x H2 → g x σ' H2 fun σ2 H3 => tc σ2 H3 fun b H4 =>
      if b = true then te σ2 H4 fun v H5 => ∃ acc, H5 D = some (.lst acc) ∧ acc.length < sizeLine ∧ ∃ m', m' < m ∧ W (i + 1) m' σ2 (upd H5 D (.lst (acc ++ [v])))
      else ∃ m', m' < m ∧ W (i + 1) m' σ2 H4)
section
variable {X : Cx} {N : List Str} {M : Nat} {frees : List Nat} {scope : Scope} {tg iter elt : Expr} {ifs : List Expr} {pos : Pos} {wi : TI} {g : TG} {tc : TT} {te : TE}
theorem comp_blk (hc : X.calm = true) (B : BlkOk X N M frees scope)
    (hb : ∀ C s H fp, PG (cxIn X N scope C s H fp) tg g ∧ PTs (cxIn X N scope C s H fp) ifs tc ∧ PE (cxIn X N scope C s H fp) elt te)
    {pins : List (Addr × Obj)} {σ : St} {Q : VK} {s2 : Shared} {itv : Value} {E : Value → Shared → Prop} {RR : Value → Addr → Result → Shared → Prop}
    (h2 : PIE X pins σ tg (fun J H1 => ∀ D, H1 D = none →
      ∃ W : Nat → Nat → St → Hp → Prop, (∃ m, W 0 m (sgIn M frees σ) (upd H1 D (.lst []))) ∧ ∀ i m σ' H', W i m σ' H' →
        (J.stop i H' ∧ Q (.ref D) H') ∨ (J.go i H' ∧ ∀ x H2, J.yld i H' x H2 → g x σ' H2 fun σ2 H3 => tc σ2 H3 fun b H4 =>
          if b = true then te σ2 H4 fun v H5 => ∃ acc, H5 D = some (.lst acc) ∧ acc.length < sizeLine ∧ ∃ m', m' < m ∧ W (i + 1) m' σ2 (upd H5 D (.lst (acc ++ [v])))
          else ∃ m', m' < m ∧ W (i + 1) m' σ2 H4)) itv s2)
    (hR : ∀ D C s' H' m, Inv X pins σ H' s' → Q (.ref D) H' → s'.heap.Ns C m → H' C = none → C ≠ X.env.locals → X.s₀.heap.objs.size ≤ C → (∀ x c, X.env.cells.lookup x = some c → c ≠ C) → (∀ p ∈ X.pn ++ pins, p.1 ≠ C) → RR (.ref D) C (.ok .next) s') :
    wpAny (model X.prog X.w) X.A (newList []) (fun acc s3 => wpAny (model X.prog X.w) X.A (newFunctionEnv scope X.env.globals (closL scope.names X.env.cells []) [] X.env.qual none .none (some X.env)) (fun cenv s4 =>
      codeAny (model X.prog X.w) X.A (.compStart (.ListComp elt [⟨tg, iter, ifs, 0⟩] scope pos) 0 itv acc { cenv with scope := relabel scope X.env }) (RR acc cenv.locals) s4) E s3) E s2 := by
  obtain ⟨it, fp, tn, J, H2, e, I2, T, st2, f2, q⟩ := h2
  subst e
  refine wpAny_newObj_type (wpAny_newFunctionEnv B.nocell (by intro y hy; simp at hy) (fun h1 hns hsb => ?_) B.kind)
  dsimp only at hns hsb ⊢
  generalize hP : s2.heap.push { cls := .type "list", dict := none, data := .seq ([] : List Value).toArray } = P1 at hns hsb ⊢
  have hsz : P1.objs.size = s2.heap.objs.size + 1 := by rw [← hP, Heap.size_push]
  have below : ∀ b, b < s2.heap.objs.size → b ≠ P1.objs.size := fun b z => by rw [hsz]; exact Nat.ne_of_lt (Nat.lt_succ_of_lt z)
  have keep : ∀ b u, s2.heap.get? b = some u → h1.get? b = some u := fun b u z => hsb.extBut b u (below b (Heap.lt_size z)) (Heap.get?_push_of_some _ (hP ▸ Heap.get?_push_of_some _ z))
  have hne : s2.heap.objs.size ≠ P1.objs.size := by rw [hsz]; exact Nat.ne_of_lt (Nat.lt_succ_self _)
  have hl : h1.get? s2.heap.objs.size = some { cls := .type "list", data := .seq ([] : List Value).toArray } := hsb.extBut _ _ hne (Heap.get?_push_of_some _ (hP ▸ Heap.get?_push_size _ rfl))
  have lt2 : ∀ b ∈ fp, b < s2.heap.objs.size := fun b z => by
    obtain ⟨o, eo, _⟩ := T.obj _ _ st2 b z
    exact Heap.lt_size eo
  have hD0 : H2 s2.heap.objs.size = none := I2.hok.fresh (Nat.le_refl _)
  obtain ⟨W, ⟨m0, w0⟩, turn⟩ := q s2.heap.objs.size hD0
  have I4 := I2.enter (N := N) (M := M) (frees := frees) (scope := scope) (fp := fp) (h1 := h1) (C := P1.objs.size) (D := s2.heap.objs.size) (tk := s2.toks + ([] : List (Str × Value)).length) B f2 lt2 (by rw [hsz]; exact Nat.lt_succ_self _) (Nat.le_refl _) (Ne.symm hne) keep hns hl
  have hcx : ∀ (C : Addr), (cxIn X N scope C s2 H2 fp).calm = true := fun _ => hc
  have stat : ∀ {H' : Hp}, (∀ b ∈ fp, H' b = none) → ∀ b ∈ fp, FpOk (cxIn X N scope P1.objs.size s2 H2 fp) [] H' b := fun {H'} hn b z => by
    refine ⟨hn b z, below b (lt2 b z), fun y => ?_, .inl z, fun x c y => ?_, fun p y => absurd (show p ∈ ([] : List (Addr × Obj)) from y) (by simp)⟩
    · rcases List.mem_cons.mp (I2.stkSub b y) with u | u
      · exact (f2 b z).2.1 u
      · exact (f2 b z).2.2.1 u
    · exact (f2 b z).2.2.2.2.1 x c (closL_sub (cells := X.env.cells) scope.names [] B.cells (fun x c e => by cases e) x c y)
  have fr4 : ∀ b ∈ fp, (upd H2 s2.heap.objs.size (HO.lst [])) b = none := fun b z => by
    rw [upd_ne (Nat.ne_of_lt (lt2 b z))]; exact (f2 b z).1
  have st4 : tn 0 h1 := T.keep _ _ _ st2 fun b _ o z => keep b o z
  have fin : ∀ (s' : Shared) (σ' : St) (H' : Hp), Inv (cxIn X N scope P1.objs.size s2 H2 fp) [] σ' H' s' → Q (.ref s2.heap.objs.size) H' → RR (.ref s2.heap.objs.size) P1.objs.size (.ok .next) s' := fun s' σ' H' I' q' => by
    obtain ⟨m, hm, _⟩ := I'.loc
    have u' : Un (frs X.stack) fp H2 H' s2.heap s'.heap := I'.base
    have I0 : Inv X pins σ H' s' := I2.call' (ch := fp) I'.os u' I'.hok I'.bare fun b z => ⟨(f2 b z).2.2.2.1, (f2 b z).2.1, (f2 b z).2.2.2.2.1, (f2 b z).2.2.2.2.2⟩
    refine hR _ _ s' H' m I0 q' hm I'.free (Nat.ne_of_gt (Nat.lt_of_lt_of_le I2.lt (by rw [hsz]; exact Nat.le_succ _))) (Nat.le_trans I2.sz (by rw [hsz]; exact Nat.le_succ _)) (fun x c z => ?_) fun p z => ?_
    · obtain ⟨v, y⟩ := I2.cell x c z
      exact below c y.lt
    · exact below p.1 (Heap.lt_size (I2.pin p z).1)
  have loop : ∀ s4 : Shared, s4 = { s2 with heap := h1, toks := s2.toks + ([] : List (Str × Value)).length } →
      codeAny (model X.prog X.w) X.A (.compLoop (.ListComp elt [⟨tg, iter, ifs, 0⟩] scope pos) 0 (.ref it) (.ref s2.heap.objs.size) (compEnvC scope (closL scope.names X.env.cells []) P1.objs.size X.env)) (RR (.ref s2.heap.objs.size) P1.objs.size) s4 := by
    rintro s4 rfl
    refine compLoop_by (fun n s' => ∃ i σ' H', Inv (cxIn X N scope P1.objs.size s2 H2 fp) [] σ' H' s' ∧ tn i s'.heap ∧ (∀ b ∈ fp, H' b = none) ∧ W i n σ' H') ?_ m0 ⟨0, _, _, I4, st4, fr4, w0⟩
    rintro n s5 ⟨i, σ5, H5, I5, st5, fr5, w5⟩
    rcases turn i n σ5 H5 w5 with ⟨stop, qn⟩ | ⟨go, step⟩
    · refine thn (T.done (cxIn X N scope P1.objs.size s2 H2 fp) rfl rfl rfl hc i [] s5 σ5 H5 _ I5 (stat fr5) st5 stop) fun r s6 ⟨hr, I6⟩ => ?_
      subst hr
      exact fin s6 σ5 H5 I6 qn
    · refine thn (T.item (cxIn X N scope P1.objs.size s2 H2 fp) rfl rfl rfl hc i [] s5 σ5 H5 _ I5 (stat fr5) st5 go) fun r s6 ⟨u, hr, h6⟩ => ?_
      subst hr
      refine thn h6 fun _ s7 ⟨x, H7, I7, r7, y7, st7, fr7⟩ => ?_
      have I7' := I7.pinned (stat fr7) (T.obj _ _ st7)
      have B7 := hb P1.objs.size s2 H2 fp
      refine thn (B7.1 _ s7 σ5 H7 x u _ I7' r7 (step x H7 y7)) fun _ s8 ⟨σ8, H8, I8, q8⟩ => ?_
      refine thn (B7.2.1 _ s8 σ8 H8 _ I8 q8) fun ok s9 ⟨H9, I9, q9⟩ => ?_
      have again : ∀ {σa : St} {Ha : Hp} {sa : Shared}, Inv (cxIn X N scope P1.objs.size s2 H2 fp) ([] ++ pinsAt fp s7.heap) σa Ha sa → (∃ m', m' < n ∧ W (i + 1) m' σa Ha) →
          ∃ m, m < n ∧ ∃ i σ' H', Inv (cxIn X N scope P1.objs.size s2 H2 fp) [] σ' H' sa ∧ tn i sa.heap ∧ (∀ b ∈ fp, H' b = none) ∧ W i m σ' H' := fun {σa Ha sa} Ia ⟨m', hm, wa⟩ => by
        refine ⟨m', hm, i + 1, σa, Ha, Ia.unpinned, T.keep _ _ _ st7 fun b z o eo => (Ia.pin (b, o) (List.mem_append_right _ (List.mem_append_right _ (mem_pinsAt z eo)))).1, fun b z => ?_, wa⟩
        obtain ⟨o, eo, d⟩ := T.obj _ _ st7 b z
        exact (Ia.pin (b, o) (List.mem_append_right _ (List.mem_append_right _ (mem_pinsAt z eo)))).2.1
      cases ok with
      | false => exact again I9 q9
      | true =>
        rw [if_pos rfl]
        refine thn (B7.2.2 _ s9 σ8 H9 _ I9 q9) fun y s10 ⟨v, H10, I10, r10, acc, ha, hz, m', hm, wn⟩ => ?_
        refine thn (mt_append (X := cxIn X N scope P1.objs.size s2 H2 fp) _ s10 σ8 H10 (.ref s2.heap.objs.size) [v] (.ref s2.heap.objs.size) [y] (fun _ Hn => ∃ m', m' < n ∧ W (i + 1) m' σ8 Hn) I10 rfl (.cons r10 .nil) ⟨_, acc, v, rfl, rfl, ha, hz, m', hm, wn⟩) fun _ s11 ⟨_, H11, I11, _, q11⟩ => ?_
        exact again I11 q11
  exact codeAny_compStart_list (loop _ rfl) (T.self _ 0 _ _ _ st4 (loop _ rfl))
theorem pe_comp (hc : X.calm = true) (B : BlkOk X N M frees scope) (hi : PI X tg iter wi)
    (hb : ∀ C s H fp, PG (cxIn X N scope C s H fp) tg g ∧ PTs (cxIn X N scope C s H fp) ifs tc ∧ PE (cxIn X N scope C s H fp) elt te)
    (hs : ∀ x, foldedSetIterable iter X.env x = pure x := by intro _; rfl) : PE X (.ListComp elt [⟨tg, iter, ifs, 0⟩] scope pos) (tComp M frees wi g tc te) := by
  intro pins s σ H Q I h
  rw [eval_ListComp]
  refine wpAny_comprehension_free (use := none) rfl hs (closureFor_is B.cells) B.kind B.own (wpAny_mono (hi pins s σ H _ I h) (fun v s1 h1 => wpAny_mono h1 (fun itv s2 h2 => ?_) fun _ _ q => q) fun _ _ q => q)
  refine comp_blk (RR := fun acc C => compPost (model X.prog X.w) X.A X.xe none (EP X pins σ Q) acc C) hc B hb h2 fun D C s' H' m I' q' hm hC h1 h3 h4 h5 => ?_
  exact ⟨m, hm, fun h' hs' => ⟨.ref D, H', I'.turned (t' := s'.toks) (fun b o z y => hs'.extBut b o z y) hC h1 (.inr h3) h4 h5, rfl, q'⟩⟩
theorem ps_setc {i : Nat} {x : Str} {pos' spos : Pos} (hc : X.calm = true) (hN : X.N.Nodup) (hi' : X.N[i]? = some x) (hx : X.env.scope.names.lookup x = some .local) (B : BlkOk X N M frees scope) (hi : PI X tg iter wi)
    (hb : ∀ C s H fp, PG (cxIn X N scope C s H fp) tg g ∧ PTs (cxIn X N scope C s H fp) ifs tc ∧ PE (cxIn X N scope C s H fp) elt te)
    (hsw : swapsWith (.ListComp elt [⟨tg, iter, ifs, 0⟩] scope pos) (some (.Name x pos')) spos.line X.env = pure true := by rfl)
    (hs : ∀ x, foldedSetIterable iter X.env x = pure x := by intro _; rfl) : PS X (.Assign [.Name x pos'] (.ListComp elt [⟨tg, iter, ifs, 0⟩] scope pos) spos) (tAsg (tComp M frees wi g tc te) (gName i)) := by
  intro pins s σ H D I h
  rw [exec_Assign_Name_used _ _ _ _ hsw]
  refine wpAny_bind (wpAny_standAt (wpAny_bind ?_))
  show wpAny _ X.A (do let _ ← comprehension (.ListComp elt [⟨tg, iter, ifs, 0⟩] scope pos) scope X.env _ (newList []) false (eval iter X.env) (some (assign (.Name x pos') X.env))) _ _ s
  refine wpAny_bind (wpAny_mono (wpAny_comprehension_free (use := some (assign (.Name x pos') X.env)) (Q := fun _ s' => SP X pins D .next s') rfl hs (closureFor_is B.cells) B.kind B.own
    (wpAny_mono (hi pins s σ H _ I h) (fun v s1 h1 => wpAny_mono h1 (fun itv s2 h2 => ?_) fun _ _ q => q) fun _ _ q => q)) (fun _ s' hq => wpAny_pure (wpAny_pure hq)) fun _ _ q => q)
  refine comp_blk (Q := fun y H1 => gName i y σ H1 D.nx) (RR := fun acc C => compPost (model X.prog X.w) X.A X.xe (some (assign (.Name x pos') X.env)) (fun _ s' => SP X pins D .next s') acc C) hc B hb h2 fun Dd C s' H' m I' q' hm hC h1 h3 h4 h5 => ?_
  show wpAny _ X.A (assign (.Name x pos') X.env (.ref Dd)) _ _ _
  refine wpAny_assign_Name (store_ok2 I' hN hi' (.inl hx) (v := .ref Dd) (u := .ref Dd) rfl (fun s'' I'' ⟨a, hsb, ha⟩ => ?_) (.inr hx))
  have hCa : C ≠ a := by
    rcases ha with rfl | ha
    · exact h1
    · exact Ne.symm (h4 x a ha)
  refine ⟨m, hm.sameBut hsb hCa, fun h' hs' => ⟨_, H', I''.turned (t' := s''.toks) (fun b o z y => hs'.extBut b o z y) hC h1 (.inr h3) h4 h5, q'⟩⟩
end
end L2
set_option maxRecDepth 100000
namespace Hk
open PySem L2
inductive D where
  | non | bl (b : Bool) | int (i : Int) | str (x : Str) | lst (xs : List D) | tup (xs : List D) | scr (ns : List Int) | exc (c : Str) | dic (ks : List Int) (xs : List D)
def kvsOf : List Int → List V → List (Key × V)
  | k :: ks, v :: vs => (.inl k, v) :: kvsOf ks vs
  | _, _ => []
def excP (a C : Addr) (h : Heap) : Prop := ∃ o, h.get? a = some o ∧ o.cls = .ref C
mutual
def Rep (K : PySem.W.Frag) (H : Hp) : D → V → Prop
  | .non, v => v = .non
  | .bl b, v => v = .bl b
  | .int i, v => v = .int i
  | .str x, v => v = .str x
  | .lst ds, v => ∃ a vs, v = .ref a ∧ H a = some (.lst vs) ∧ Reps K H ds vs
  | .tup ds, v => ∃ a vs, v = .ref a ∧ H a = some (.tup vs) ∧ Reps K H ds vs
  | .scr ns, v => ∃ a, v = .ref a ∧ SqL K H a (ns.map V.int)
  | .exc c, v => ∃ a C, v = .ref a ∧ PySem.W.nsIn K mainGlobals c = some (some (.ref C)) ∧ H a = some (.ext (excP a C))
  | .dic ks ds, v => ∃ a vs, v = .ref a ∧ (∃ o, H a = some (.frz o (.dK (kvsOf ks vs)))) ∧ ks.length = ds.length ∧ Reps K H ds vs
def Reps (K : PySem.W.Frag) (H : Hp) : List D → List V → Prop
  | [], vs => vs = []
  | d :: ds, vs => ∃ v r, vs = v :: r ∧ Rep K H d v ∧ Reps K H ds r
end
mutual
theorem Rep.mono {K : PySem.W.Frag} {H H' : Hp} (e : Same H H') : ∀ {d : D} {v : V}, Rep K H d v → Rep K H' d v
  | .non, _, h => h
  | .bl _, _, h => h
  | .int _, _, h => h
  | .str _, _, h => h
  | .lst _, _, ⟨a, vs, h1, h2, h3⟩ => ⟨a, vs, h1, e _ _ h2, Reps.mono e h3⟩
  | .tup _, _, ⟨a, vs, h1, h2, h3⟩ => ⟨a, vs, h1, e _ _ h2, Reps.mono e h3⟩
  | .scr _, _, ⟨a, h1, h2⟩ => ⟨a, h1, e.seq h2⟩
  | .exc _, _, ⟨a, C, h1, h2, h3⟩ => ⟨a, C, h1, h2, e _ _ h3⟩
  | .dic _ _, _, ⟨a, vs, h1, ⟨o, h2⟩, h4, h3⟩ => ⟨a, vs, h1, ⟨o, e _ _ h2⟩, h4, Reps.mono e h3⟩
theorem Reps.mono {K : PySem.W.Frag} {H H' : Hp} (e : Same H H') : ∀ {ds : List D} {vs : List V}, Reps K H ds vs → Reps K H' ds vs
  | [], _, h => h
  | _ :: _, _, ⟨v, r, h1, h2, h3⟩ => ⟨v, r, h1, Rep.mono e h2, Reps.mono e h3⟩
end
section
variable {K : PySem.W.Frag} {H : Hp}
theorem Reps.nil : Reps K H [] [] := rfl
theorem Reps.cons {d : D} {ds : List D} {v : V} {vs : List V} (h : Rep K H d v) (t : Reps K H ds vs) : Reps K H (d :: ds) (v :: vs) := ⟨v, vs, rfl, h, t⟩
theorem Reps.len : ∀ {ds : List D} {vs : List V}, Reps K H ds vs → ds.length = vs.length
  | [], _, h => by cases (show _ = _ from h); rfl
  | _ :: _, _, ⟨v, r, h1, _, h3⟩ => by rw [h1, List.length_cons, List.length_cons, Reps.len h3]
theorem Reps.app : ∀ {ds es : List D} {vs us : List V}, Reps K H ds vs → Reps K H es us → Reps K H (ds ++ es) (vs ++ us)
  | [], _, _, _, h, t => by cases (show _ = _ from h); exact t
  | _ :: _, _, _, _, ⟨v, r, h1, h2, h3⟩, t => by rw [h1]; exact ⟨v, _, rfl, h2, Reps.app h3 t⟩
theorem Reps.get : ∀ {ds : List D} {vs : List V} {i : Nat} {d : D}, Reps K H ds vs → ds[i]? = some d → ∃ v, vs[i]? = some v ∧ Rep K H d v
  | [], _, _, _, _, e => by simp at e
  | _ :: _, _, 0, _, ⟨v, r, h1, h2, h3⟩, e => by simp at e; subst e; rw [h1]; exact ⟨v, rfl, h2⟩
  | _ :: _, _, i + 1, d, ⟨v, r, h1, h2, h3⟩, e => by
    obtain ⟨u, e1, e2⟩ := Reps.get (i := i) (d := d) h3 (by simpa using e)
    exact ⟨u, by rw [h1]; simpa using e1, e2⟩
theorem Reps.take : ∀ {ds : List D} {vs : List V} (n : Nat), Reps K H ds vs → Reps K H (ds.take n) (vs.take n)
  | _, _, 0, _ => rfl
  | [], _, _ + 1, h => by cases (show _ = _ from h); rfl
  | _ :: _, _, n + 1, ⟨v, r, h1, h2, h3⟩ => by rw [h1]; exact ⟨v, _, rfl, h2, Reps.take n h3⟩
theorem Reps.drop : ∀ {ds : List D} {vs : List V} (n : Nat), Reps K H ds vs → Reps K H (ds.drop n) (vs.drop n)
  | _, _, 0, h => h
  | [], _, _ + 1, h => by cases (show _ = _ from h); rfl
  | _ :: _, _, n + 1, ⟨v, r, h1, h2, h3⟩ => by rw [h1]; exact Reps.drop n h3
theorem Reps.ints : ∀ (ns : List Int), Reps K H (ns.map D.int) (ns.map V.int)
  | [] => rfl
  | n :: r => ⟨.int n, _, rfl, rfl, Reps.ints r⟩
theorem Reps.of_ints : ∀ {ns : List Int} {vs : List V}, Reps K H (ns.map D.int) vs → vs = ns.map V.int
  | [], _, h => h
  | n :: r, _, ⟨v, vs, h1, h2, h3⟩ => by
    have := Reps.of_ints h3
    have e : v = .int n := h2
    rw [h1, this, e]; rfl
end
structure Ext (G H G' H' : Hp) : Prop where
  gg : Same G G'
  gh : Same G' H'
  hh : Same H H'
  new : ∀ b, G b = none → H b ≠ none → G' b = none
theorem Ext.refl {G H : Hp} (h : Same G H) : Ext G H G H := ⟨Same.refl _, h, Same.refl _, fun _ e _ => e⟩
theorem Ext.trans {G H G1 H1 G2 H2 : Hp} (a : Ext G H G1 H1) (b : Ext G1 H1 G2 H2) : Ext G H G2 H2 := by
  refine ⟨a.gg.trans b.gg, b.gh, a.hh.trans b.hh, fun c h1 h2 => ?_⟩
  have e1 := a.new c h1 h2
  refine b.new c e1 fun z => h2 ?_
  exact a.hh.free z
theorem same_upd {H : Hp} {p : Addr} (h : H p = none) (o : HO) : Same H (upd H p o) := fun b u q => by rw [upd_ne (ne_of_none q h)]; exact q
theorem same_upd2 {G H : Hp} {p : Addr} (e : Same G H) (o : HO) : Same (upd G p o) (upd H p o) := fun b u q => by
  by_cases z : b = p
  · subst z; rw [upd_same] at q ⊢; exact q
  · rw [upd_ne z] at q ⊢; exact e b u q
theorem same_updR {G H : Hp} {p : Addr} (e : Same G H) (h : G p = none) (o : HO) : Same G (upd H p o) := fun b u q => by rw [upd_ne (ne_of_none q h)]; exact e b u q
theorem Ext.lay {G H : Hp} {p : Addr} (e : Same G H) (h : H p = none) (o : HO) : Ext G H (upd G p o) (upd H p o) := by
  have g : G p = none := e.free h
  refine ⟨same_upd g o, same_upd2 e o, same_upd h o, fun b h1 h2 => ?_⟩
  by_cases z : b = p
  · subst z; exact absurd h h2
  · rw [upd_ne z]; exact h1
theorem Ext.hide {G H : Hp} {p : Addr} (e : Same G H) (h : H p = none) (o : HO) : Ext G H G (upd H p o) :=
  ⟨Same.refl _, same_updR e (e.free h) o, same_upd h o, fun _ z _ => z⟩
inductive W where
  | sh (d : D) | ow (ds : List D) | od (ks : List Int) (ds : List D) | pw (ds : List D)
abbrev WSt := List (Option W)
structure Fr where
  hp : Hp
  pin : Nat → Addr
instance : CoeFun Fr fun _ => Hp := ⟨Fr.hp⟩
instance : Coe Fr Hp := ⟨Fr.hp⟩
def fr (H : Hp) : Fr := ⟨H, fun _ => 0⟩
def PwOk (K : PySem.W.Frag) (F : Fr) (G : Hp) (ω : WSt) (σ : St) (H : Hp) : Prop := ∀ (i : Nat) ds, ω[i]? = some (some (.pw ds)) → ∃ vs, σ[i]? = some (some (.ref (F.pin i))) ∧ H (F.pin i) = some (.lst vs) ∧ G (F.pin i) = none ∧ F.hp (F.pin i) = none ∧ Reps K G ds vs ∧
  (∀ (j : Nat) es, ω[j]? = some (some (.pw es)) → F.pin j = F.pin i → j = i) ∧ ∀ (j : Nat) es, ω[j]? = some (some (.ow es)) → σ[j]? ≠ some (some (.ref (F.pin i)))
theorem PwOk.keep {K : PySem.W.Frag} {F : Fr} {G G' : Hp} {ω : WSt} {σ : St} {H H' : Hp} (o : PwOk K F G ω σ H) (e : Ext G H G' H') : PwOk K F G' ω σ H' := fun i ds h => by
  obtain ⟨vs, h1, h2, h3, h4, h5, h6⟩ := o i ds h
  exact ⟨vs, h1, e.hh _ _ h2, e.new _ h3 (by rw [h2]; exact fun z => by cases z), h4, h5.mono e.gg, h6⟩
theorem PwOk.no {K : PySem.W.Frag} {F : Fr} {G : Hp} {ω : WSt} {σ : St} {H : Hp} (h : ∀ (i : Nat) ds, ω[i]? ≠ some (some (.pw ds))) : PwOk K F G ω σ H := fun i ds e => absurd e (h i ds)
structure Own (K : PySem.W.Frag) (G0 : Hp) (H0 : Fr) (G : Hp) (ω : WSt) (σ : St) (H : Hp) : Prop where
  ext : Ext G0 H0.hp G H
  len : ω.length = σ.length
  sh : ∀ (i : Nat) d, ω[i]? = some (some (.sh d)) → ∃ v, σ[i]? = some (some v) ∧ Rep K G d v
  ow : ∀ (i : Nat) ds, ω[i]? = some (some (.ow ds)) → ∃ l vs, σ[i]? = some (some (.ref l)) ∧ H l = some (.lst vs) ∧ G l = none ∧ H0 l = none ∧ Reps K G ds vs
  nd : ∀ (i j : Nat) ds es l, ω[i]? = some (some (.ow ds)) → ω[j]? = some (some (.ow es)) → σ[i]? = some (some (.ref l)) → σ[j]? = some (some (.ref l)) → i = j
  od : ∀ (i : Nat) ks ds, ω[i]? = some (some (.od ks ds)) → ∃ p vs, σ[i]? = some (some (.ref p)) ∧ H p = some (.dK (kvsOf ks vs)) ∧ G p = none ∧ H0 p = none ∧ ks.length = ds.length ∧ Reps K G ds vs ∧
    ∀ (j : Nat) ks' es, ω[j]? = some (some (.od ks' es)) → σ[j]? = some (some (.ref p)) → i = j
  pw : PwOk K H0 G ω σ H
inductive R where
  | sh (d : D) | fr (ds : List D) | vw (ds : List D)
def R.d : R → D
  | .sh d => d
  | .fr ds => .lst ds
  | .vw ds => .lst ds
def RepR (K : PySem.W.Frag) (H G' H' : Hp) : R → V → Prop
  | .sh d, v => Rep K G' d v
  | .fr ds, v => ∃ l vs, v = .ref l ∧ H l = none ∧ G' l = none ∧ H' l = some (.lst vs) ∧ Reps K G' ds vs
  | .vw ds, v => ∃ l vs, v = .ref l ∧ H' l = some (.lst vs) ∧ Reps K G' ds vs
def Vw (K : PySem.W.Frag) (G H : Hp) (d : D) (v : V) : Prop := Rep K G d v ∨ ∃ ds l vs, d = .lst ds ∧ v = .ref l ∧ H l = some (.lst vs) ∧ Reps K G ds vs
theorem Own.keep {K : PySem.W.Frag} {G0 : Hp} {H0 : Fr} {G G' : Hp} {ω : WSt} {σ : St} {H H' : Hp} (o : Own K G0 H0 G ω σ H) (e : Ext G H G' H') : Own K G0 H0 G' ω σ H' := by
  refine ⟨o.ext.trans e, o.len, fun i d h => ?_, fun i ds h => ?_, o.nd, fun i ks ds h => ?_, o.pw.keep e⟩
  · obtain ⟨v, h1, h2⟩ := o.sh i d h
    exact ⟨v, h1, h2.mono e.gg⟩
  · obtain ⟨l, vs, h1, h2, h3, h4, h5⟩ := o.ow i ds h
    exact ⟨l, vs, h1, e.hh _ _ h2, e.new l h3 (by rw [h2]; exact fun z => by cases z), h4, h5.mono e.gg⟩
  · obtain ⟨l, vs, h1, h2, h3, h4, h6, h5, h7⟩ := o.od i ks ds h
    exact ⟨l, vs, h1, e.hh _ _ h2, e.new l h3 (by rw [h2]; exact fun z => by cases z), h4, h6, h5.mono e.gg, h7⟩
theorem Own.gh {K : PySem.W.Frag} {G0 : Hp} {H0 : Fr} {G : Hp} {ω : WSt} {σ : St} {H : Hp} (o : Own K G0 H0 G ω σ H) : Same G H := o.ext.gh
abbrev FE := WSt → Option R
abbrev FD := WSt → Option D
abbrev FT := WSt → Option Bool
abbrev FA := WSt → Option (List D)
def SimE (K : PySem.W.Frag) (t : TE) (f : FE) : Prop := ∀ G0 H0 G ω σ H r (Q : VK), Own K G0 H0 G ω σ H → f ω = some r →
  (∀ v G' H', Ext G H G' H' → RepR K H G' H' r v → Q v H') → t σ H Q
def SimD (K : PySem.W.Frag) (t : TE) (f : FD) : Prop := ∀ G0 H0 G ω σ H d (Q : VK), Own K G0 H0 G ω σ H → f ω = some d →
  (∀ v G' H', Ext G H G' H' → Rep K G' d v → Q v H') → t σ H Q
def SimV (K : PySem.W.Frag) (t : TE) (f : FD) : Prop := ∀ G0 H0 G ω σ H d (Q : VK), Own K G0 H0 G ω σ H → f ω = some d →
  (∀ v G' H', Ext G H G' H' → Vw K G' H' d v → Q v H') → t σ H Q
def SimT (K : PySem.W.Frag) (t : TT) (f : FT) : Prop := ∀ G0 H0 G ω σ H b (Q : Bool → Hp → Prop), Own K G0 H0 G ω σ H → f ω = some b →
  (∀ G' H', Ext G H G' H' → Q b H') → t σ H Q
def SimA (K : PySem.W.Frag) (t : TA) (f : FA) : Prop := ∀ G0 H0 G ω σ H ds (Q : List V → Hp → Prop), Own K G0 H0 G ω σ H → f ω = some ds →
  (∀ vs G' H', Ext G H G' H' → Reps K G' ds vs → Q vs H') → t σ H Q
def XE (X : Cx) (e : Expr) (f : FE) : Prop := ∃ t, PE X e t ∧ SimE X.K t f
def XD (X : Cx) (e : Expr) (f : FD) : Prop := ∃ t, PE X e t ∧ SimD X.K t f
def XV (X : Cx) (e : Expr) (f : FD) : Prop := ∃ t, PE X e t ∧ SimV X.K t f
def XT (X : Cx) (e : Expr) (f : FT) : Prop := ∃ t, PT X e t ∧ SimT X.K t f
def XW (X : Cx) (e : Expr) (f : FT) : Prop := ∃ t, PW X e t ∧ SimT X.K t f
def XA (X : Cx) (es : List Expr) (f : FA) : Prop := (∃ t, PA X es t ∧ SimA X.K t f) ∧ ∀ ω ds, f ω = some ds → ds.length = es.length
def eOf (f : FD) : FE := fun ω => (f ω).map R.sh
def dOf (f : FE) : FD := fun ω => match f ω with
  | some (.sh d) => some d
  | some (.fr ds) => some (.lst ds)
  | _ => none
def vOf (f : FE) : FD := fun ω => (f ω).map R.d
section
variable {X : Cx} {e : Expr}
theorem XD.toE {f : FD} (h : XD X e f) : XE X e (eOf f) := by
  obtain ⟨t, h1, h2⟩ := h
  refine ⟨t, h1, fun G0 H0 G ω σ H r Q o e k => ?_⟩
  unfold eOf at e
  cases q : f ω with
  | none => rw [q] at e; cases e
  | some d => rw [q] at e; cases e; exact h2 G0 H0 G ω σ H d Q o q k
theorem XE.toD {f : FE} (h : XE X e f) : XD X e (dOf f) := by
  obtain ⟨t, h1, h2⟩ := h
  refine ⟨t, h1, fun G0 H0 G ω σ H d Q o e k => ?_⟩
  unfold dOf at e
  cases q : f ω with
  | none => rw [q] at e; cases e
  | some r =>
    rw [q] at e
    cases r with
    | sh d' => cases e; exact h2 G0 H0 G ω σ H _ Q o q k
    | fr ds =>
      cases e
      refine h2 G0 H0 G ω σ H _ Q o q fun v G' H' x ⟨l, vs, e1, e2, e3, e4, e5⟩ => ?_
      have s1 : Same G' (upd G' l (.lst vs)) := same_upd e3 _
      refine k v (upd G' l (.lst vs)) H' ⟨x.gg.trans s1, fun b u z => ?_, x.hh, fun b z1 z2 => ?_⟩ ⟨l, vs, e1, upd_same, e5.mono s1⟩
      · by_cases hb : b = l
        · subst hb; rw [upd_same] at z; rw [e4]; exact z
        · rw [upd_ne hb] at z; exact x.gh b u z
      · rw [upd_ne (fun hb => z2 (by rw [hb]; exact e2))]; exact x.new b z1 z2
    | vw ds => cases e
theorem XE.toV {f : FE} (h : XE X e f) : XV X e (vOf f) := by
  obtain ⟨t, h1, h2⟩ := h
  refine ⟨t, h1, fun G0 H0 G ω σ H d Q o e k => ?_⟩
  unfold vOf at e
  cases q : f ω with
  | none => rw [q] at e; cases e
  | some r =>
    rw [q] at e
    have e' : r.d = d := Option.some.inj e
    subst e'
    refine h2 G0 H0 G ω σ H r Q o q fun v G' H' x y => k v G' H' x ?_
    cases r with
    | sh d' => exact .inl y
    | fr ds => obtain ⟨l, vs, e1, e2, e3, e4, e5⟩ := y; exact .inr ⟨ds, l, vs, rfl, e1, e4, e5⟩
    | vw ds => obtain ⟨l, vs, e1, e2, e3⟩ := y; exact .inr ⟨ds, l, vs, rfl, e1, e2, e3⟩
theorem XD.toV {f : FD} (h : XD X e f) : XV X e f := by
  obtain ⟨t, h1, h2⟩ := h
  exact ⟨t, h1, fun G0 H0 G ω σ H d Q o e k => h2 G0 H0 G ω σ H d Q o e fun v G' H' x y => k v G' H' x (.inl y)⟩
end
def fVar (i : Nat) : FE := fun ω => match ω[i]? with
  | some (some (.sh d)) => some (.sh d)
  | some (some (.ow ds)) => some (.vw ds)
  | some (some (.pw ds)) => some (.vw ds)
  | _ => none
def fC (d : D) : FD := fun _ => some d
section
variable {X : Cx}
theorem xe_var {e : Expr} (i : Nat) (h : PE X e (tVar i)) : XE X e (fVar i) := by
  refine ⟨_, h, fun G0 H0 G ω σ H r Q o e k => ?_⟩
  unfold fVar at e
  cases q : ω[i]? with
  | none => rw [q] at e; cases e
  | some w =>
    rw [q] at e
    cases w with
    | none => cases e
    | some w =>
      cases w with
      | sh d =>
        cases e
        obtain ⟨v, h1, h2⟩ := o.sh i d q
        exact ⟨v, h1, k v G H (Ext.refl o.gh) h2⟩
      | ow ds =>
        cases e
        obtain ⟨l, vs, h1, h2, h3, h4, h5⟩ := o.ow i ds q
        exact ⟨_, h1, k _ G H (Ext.refl o.gh) ⟨l, vs, rfl, h2, h5⟩⟩
      | od ks ds => cases e
      | pw ds =>
        cases e
        obtain ⟨vs, h1, h2, h3, h4, h5, _⟩ := o.pw i ds q
        exact ⟨_, h1, k _ G H (Ext.refl o.gh) ⟨_, vs, rfl, h2, h5⟩⟩
theorem xd_c {e : Expr} {v : V} {d : D} (h : PE X e (tC v)) (hr : ∀ K H, Rep K H d v) : XD X e (fC d) := by
  refine ⟨_, h, fun G0 H0 G ω σ H r Q o e k => ?_⟩
  cases e
  exact k v G H (Ext.refl o.gh) (hr _ _)
theorem xd_int {i j pos} : XD X (.Constant (.int i) j pos) (fC (.int i)) := xd_c pe_int fun _ _ => rfl
theorem xd_bl {b j pos} : XD X (.Constant (.bool b) j pos) (fC (.bl b)) := xd_c pe_bl fun _ _ => rfl
theorem xd_non {j pos} : XD X (.Constant .none j pos) (fC .non) := xd_c pe_non fun _ _ => rfl
theorem xd_str {x j pos} : XD X (.Constant (.str x) j pos) (fC (.str x)) := xd_c pe_str fun _ _ => rfl
end
theorem bnd {α β : Type} {o : Option α} {f : α → Option β} {r : β} (h : o.bind f = some r) : ∃ a, o = some a ∧ f a = some r := Option.bind_eq_some_iff.mp h
theorem mpd {α β : Type} {o : Option α} {f : α → β} {r : β} (h : o.map f = some r) : ∃ a, o = some a ∧ f a = r := Option.map_eq_some_iff.mp h
def aNil : FA := fun _ => some []
def aCons (f : FD) (g : FA) : FA := fun ω => (f ω).bind fun d => (g ω).map fun ds => d :: ds
section
variable {X : Cx} {e : Expr} {es : List Expr}
theorem xa_nil : XA X [] aNil := ⟨⟨_, pa_nil, fun G0 H0 G ω σ H ds Q o e k => by cases e; exact k [] G H (Ext.refl o.gh) rfl⟩, fun ω ds e => by cases e; rfl⟩
theorem xa_cons {f : FD} {g : FA} (h : XD X e f) (hr : XA X es g) (hs : starEach (e :: es) X.env = (false, eval e X.env) :: starEach es X.env := by rfl) : XA X (e :: es) (aCons f g) := by
  obtain ⟨t, h1, h2⟩ := h
  obtain ⟨⟨u, h3, h4⟩, h5⟩ := hr
  refine ⟨⟨_, pa_cons h1 h3 hs, fun G0 H0 G ω σ H ds Q o e k => ?_⟩, fun ω ds e => ?_⟩
  · obtain ⟨d, q, e⟩ := bnd e
    obtain ⟨r, q2, e⟩ := mpd e
    subst e
    refine h2 G0 H0 G ω σ H d _ o q fun v G1 H1 x1 y1 => ?_
    refine h4 G0 H0 G1 ω σ H1 r _ (o.keep x1) q2 fun vs G2 H2 x2 y2 => ?_
    exact k _ G2 H2 (x1.trans x2) (Reps.cons (y1.mono x2.gg) y2)
  · obtain ⟨d, q, e⟩ := bnd e
    obtain ⟨r, q2, e⟩ := mpd e
    subst e
    rw [List.length_cons, List.length_cons, h5 ω r q2]
def fTup (g : FA) : FD := fun ω => (g ω).map D.tup
def fLst (g : FA) : FE := fun ω => (g ω).map R.fr
theorem le_line {n : Nat} (h : n ≤ 1000) : n ≤ sizeLine := Nat.le_of_lt (small1000 h)
theorem xd_tup {x1 pos} {g : FA} (h : XA X es g) (hl : es.length ≤ 1000 := by decide) : XD X (.Tuple es x1 pos) (fTup g) := by
  obtain ⟨⟨t, h1, h2⟩, h5⟩ := h
  refine ⟨_, pe_tup h1, fun G0 H0 G ω σ H d Q o e k => ?_⟩
  obtain ⟨ds, q, e⟩ := mpd e
  subst e
  refine h2 G0 H0 G ω σ H ds _ o q fun vs G1 H1 x1 y1 => ⟨le_line (by rw [← y1.len, h5 ω ds q]; exact hl), fun p hp => ?_⟩
  have x2 := Ext.lay x1.gh hp (.tup vs)
  exact k _ _ _ (x1.trans x2) ⟨p, vs, rfl, upd_same, y1.mono x2.gg⟩
theorem xe_lst {pos} {g : FA} (h : XA X es g) (hl : es.length ≤ 1000 := by decide) : XE X (.List es pos) (fLst g) := by
  obtain ⟨⟨t, h1, h2⟩, h5⟩ := h
  refine ⟨_, pe_lst h1, fun G0 H0 G ω σ H d Q o e k => ?_⟩
  obtain ⟨ds, q, e⟩ := mpd e
  subst e
  refine h2 G0 H0 G ω σ H ds _ o q fun vs G1 H1 x1 y1 => ⟨le_line (by rw [← y1.len, h5 ω ds q]; exact hl), fun p hp => ?_⟩
  have x2 := Ext.hide x1.gh hp (.lst vs)
  exact k _ _ _ (x1.trans x2) ⟨p, vs, rfl, x1.hh.free hp, x1.gh.free hp, upd_same, y1⟩
inductive O where
  | sh (d : D) | fr (ds : List D)
def O.r : O → R
  | .sh d => .sh d
  | .fr ds => .fr ds
def spD (K : PySem.W.Frag) (n : Nat) (m : List D → Option O) : Sp := fun vs H Q _ => ∃ G ds r, m ds = some r ∧ ds.length = n ∧ Same G H ∧ Reps K G ds vs ∧ ∀ v G' H', Ext G H G' H' → RepR K H G' H' r.r v → Q v H'
def fCall (m : List D → Option O) (g : FA) : FE := fun ω => (g ω).bind fun ds => (m ds).map O.r
theorem xe_call {CX : CXT} {k : Nat} {f : Addr} {fd : FuncData} {ps : List Str} {m : List D → Option O} {E : XK} {x : Str} {p pos : Pos} {g : FA}
    (F : FnOk X.prog X.w X.K X.mg X.base CX k f fd ps (spD X.K (e :: es).length m)) (hr : Room k X.A) (hg : Gl X x) (hm : X.mg x = some (.ref f)) (hk : PySem.W.keepIn X.K (.ref f) = true) (hb : Binds X.K fd ps []) (hx : Passes CX X E)
    (ha : XA X (e :: es) g) (hdb : (x == ("__debug__" : Str)) = false := by decide) (he : starEach (e :: es) X.env = (false, eval e X.env) :: starEach es X.env := by rfl) (hpl : (backTo pos (starEach es X.env)).any (·.1) = false := by rfl) :
    XE X (.Call (.Name x p) (e :: es) [] pos) (fCall m g) := by
  obtain ⟨⟨t, h1, h2⟩, h5⟩ := ha
  refine ⟨_, pe_call F hr hg hm hk hb .nil hx h1 hdb he hpl, fun G0 H0 G ω σ H r Q o e k => ?_⟩
  obtain ⟨ds, q, e⟩ := bnd e
  obtain ⟨r', q2, e⟩ := mpd e
  subst e
  refine h2 G0 H0 G ω σ H ds _ o q fun vs G1 H1 x1 y1 => ?_
  refine ⟨G1, ds, r', q2, h5 ω ds q, x1.gh, by rw [List.append_nil]; exact y1, fun v G2 H2 x2 y2 => k v G2 H2 (x1.trans x2) ?_⟩
  cases r' with
  | sh d => exact y2
  | fr ds => obtain ⟨l, vs, e1, e2, e3⟩ := y2; exact ⟨l, vs, e1, x1.hh.free e2, e3⟩
end
end Hk
set_option maxRecDepth 100000
namespace Hk
open PySem L2
open PySem.Spec PyProof.Rows PySem.SeqAt PySem.MeetsSeq PySem.MeetsSeq2 PySem.MeetsSeq3 in
theorem getItem_whole {prog : Program} {w : World} {A : Around} {E : Value → Shared → Prop} {s : Shared} {t sl : Addr} {items : Array Value} {vl vu : Value} {lo hi : Option Int} {Q : Value → Shared → Prop} (ht : IsTup s.heap t items) (hs : s.heap.IsSliceOf sl vl vu .none) (pl : IsPart vl lo) (pu : IsPart vu hi)
    (hw : HT.sIx items.size 0 lo = 0 ∧ HT.sIx items.size items.size hi = items.size) (h : Q (.ref t) s) : wpAny (model prog w) A (getItem (.ref t) (.ref sl)) Q E s := by
  obtain ⟨os, hos, hcs, hds⟩ := id hs
  have hTs : s.TypeIs (.ref sl) "slice" := ⟨os, hos, hcs⟩
  unfold getItem
  try with_reducible refine wpAny_holding ?_
  first | refine wpAny_bind (wpAny_pure ?_) | skip
  refine wpAny_bind (wpAny_sequenceKey ht.typeIs (by decide) ?_)
  refine wpAny_bind (wpAny_callSpecial?_slot (name := Str.ofString "__getitem__") ht.typeIs PyProof.Rows.slot_tuple_getitem
    (wpAny_call_entry PyProof.Rows.slot_tuple_getitem ht.typeIs entry_tuple_getitem ?_ (args_tuple_getitem _ _)))
  show wpAny _ _ (Builtin.Tuple.tupleItemsOf (.ref t) >>= _) _ _ s
  refine wpAny_bind (tupleItemsOf_ ht ?_)
  refine wpAny_bind (wpAny_typeOf hTs ?_)
  rw [if_pos (by decide)]
  refine wpAny_bind (HT.sliceApplied_gen hs pl pu ?_)
  have hy : (((HT.sIx items.size 0 lo : Nat) : Int) == 0 && (1 : Int) == 1 && (HT.sIx items.size items.size hi - HT.sIx items.size 0 lo) == items.size) = true := by
    rw [hw.1, hw.2]; simp
  show wpAny _ _ (if (((HT.sIx items.size 0 lo : Nat) : Int) == 0 && (1 : Int) == 1 && (HT.sIx items.size items.size hi - HT.sIx items.size 0 lo) == items.size) = true then _ else _) _ _ s
  rw [if_pos hy]
  have hb : ∀ {R : Bool → Shared → Prop}, R true s → wpAny (model prog w) A.in1 (Builtin.Tuple.tupleIsExact (.ref t)) R E s := fun r => by
    unfold Builtin.Tuple.tupleIsExact
    refine wpAny_bind (wpAny_typeOf ht.typeIs ?_)
    exact wpAny_pure r
  refine wpAny_bind (hb ?_)
  rw [if_pos rfl]
  refine wpAny_bind (wpAny_rule ?_)
  exact wpAny_pure ⟨_, rfl, wpAny_pure h⟩
section
variable {X : Cx}
def rSlW (K : PySem.W.Frag) : V → Option Int → Option Int → Hp → VK → Prop := fun x lo hi H Q => ∃ a xs, x = .ref a ∧ SqT K H a xs ∧
  (HT.sIx xs.length 0 lo = 0 ∧ HT.sIx xs.length xs.length hi = xs.length) ∧ Q (.ref a) H
theorem sl_whole : SlR X (rSlW X.K) := by
  intro pins s σ H x v vl vu lo hi sl Q I rx hs pl pu h
  obtain ⟨a, xs, rfl, hx, hw, q⟩ := h
  cases rx
  obtain ⟨its, r, ht, hz⟩ := I.tuple hx
  have hlen : its.toArray.size = xs.length := by rw [List.size_toArray]; exact r.length.symm
  refine ⟨"tuple", _, PyProof.Rows.slot_tuple_getitem.lookup, ht.typeIs, ?_⟩
  exact getItem_whole ht hs pl pu (by rw [hlen]; exact hw) ⟨.ref a, H, I, rfl, q⟩
end
theorem Vw.rep {K : PySem.W.Frag} {G H : Hp} {d : D} {v : V} (h : Vw K G H d v) (e : Same G H) : Rep K H d v := by
  rcases h with h | ⟨ds, l, vs, rfl, rfl, h1, h2⟩
  · exact h.mono e
  · exact ⟨l, vs, rfl, h1, h2.mono e⟩
theorem Vw.keep {K : PySem.W.Frag} {G H G' H' : Hp} {d : D} {v : V} (h : Vw K G H d v) (e : Ext G H G' H') : Vw K G' H' d v := by
  rcases h with h | ⟨ds, l, vs, h0, h1, h2, h3⟩
  · exact .inl (h.mono e.gg)
  · exact .inr ⟨ds, l, vs, h0, h1, e.hh _ _ h2, h3.mono e.gg⟩
theorem Vw.lst {K : PySem.W.Frag} {G H : Hp} {ds : List D} {v : V} (h : Vw K G H (.lst ds) v) (e : Same G H) : ∃ a vs, v = .ref a ∧ H a = some (.lst vs) ∧ Reps K G ds vs := by
  rcases h with ⟨a, vs, h1, h2, h3⟩ | ⟨ds', l, vs, h0, h1, h2, h3⟩
  · exact ⟨a, vs, h1, e _ _ h2, h3⟩
  · cases h0; exact ⟨l, vs, h1, h2, h3⟩
theorem Vw.of_ne {K : PySem.W.Frag} {G H : Hp} {d : D} {v : V} (h : Vw K G H d v) (n : ∀ ds, d ≠ .lst ds) : Rep K G d v := by
  rcases h with h | ⟨ds', l, vs, h0, h1, h2, h3⟩
  · exact h
  · exact absurd h0 (n _)
def VwA (K : PySem.W.Frag) (G H : Hp) : List D → List V → Prop
  | [], vs => vs = []
  | d :: ds, vs => ∃ v r, vs = v :: r ∧ Vw K G H d v ∧ VwA K G H ds r
def SimVA (K : PySem.W.Frag) (t : TA) (f : FA) : Prop := ∀ G0 H0 G ω σ H ds (Q : List V → Hp → Prop), Own K G0 H0 G ω σ H → f ω = some ds →
  (∀ vs G' H', Ext G H G' H' → VwA K G' H' ds vs → Q vs H') → t σ H Q
def XVA (X : Cx) (es : List Expr) (f : FA) : Prop := ∃ t, PA X es t ∧ SimVA X.K t f
section
variable {X : Cx} {e : Expr} {es : List Expr}
theorem xva_nil : XVA X [] aNil := ⟨_, pa_nil, fun G0 H0 G ω σ H ds Q o e k => by cases e; exact k [] G H (Ext.refl o.gh) rfl⟩
theorem xva_cons {f : FD} {g : FA} (h : XV X e f) (hr : XVA X es g) (hs : starEach (e :: es) X.env = (false, eval e X.env) :: starEach es X.env := by rfl) : XVA X (e :: es) (aCons f g) := by
  obtain ⟨t, h1, h2⟩ := h
  obtain ⟨u, h3, h4⟩ := hr
  refine ⟨_, pa_cons h1 h3 hs, fun G0 H0 G ω σ H ds Q o e k => ?_⟩
  obtain ⟨d, q, e⟩ := bnd e
  obtain ⟨r, q2, e⟩ := mpd e
  subst e
  refine h2 G0 H0 G ω σ H d _ o q fun v G1 H1 x1 y1 => ?_
  refine h4 G0 H0 G1 ω σ H1 r _ (o.keep x1) q2 fun vs G2 H2 x2 y2 => ?_
  exact k _ G2 H2 (x1.trans x2) ⟨v, vs, rfl, y1.keep x2, y2⟩
def fOpE (op : D → D → Option R) (f g : FD) : FE := fun ω => (f ω).bind fun x => (g ω).bind fun y => op x y
def OpV (K : PySem.W.Frag) (r : R2) (op : D → D → Option R) : Prop := ∀ G H x y d v u (Q : VK), Same G H → op x y = some d → Vw K G H x v → Vw K G H y u →
  (∀ w G' H', Ext G H G' H' → RepR K H G' H' d w → Q w H') → r v u H Q
theorem simV_op {r : R2} {o : D → D → Option R} {f g : FD} {t u : TE} (hd : OpV X.K r o) (h2 : SimV X.K t f) (h4 : SimV X.K u g) : SimE X.K (tOp r t u) (fOpE o f g) := by
  intro G0 H0 G ω σ H d Q ow e k
  obtain ⟨x, q, e⟩ := bnd e
  obtain ⟨y, q2, e⟩ := bnd e
  refine h2 G0 H0 G ω σ H x _ ow q fun v G1 H1 x1 y1 => ?_
  refine h4 G0 H0 G1 ω σ H1 y _ (ow.keep x1) q2 fun v2 G2 H2 x2 y2 => ?_
  refine hd G2 H2 x y d v v2 Q x2.gh e (y1.keep x2) y2 fun w G3 H3 x3 z => k w G3 H3 ((x1.trans x2).trans x3) ?_
  cases d with
  | sh d => exact z
  | fr ds => obtain ⟨l, vs, e1, e2, e3⟩ := z; exact ⟨l, vs, e1, (x1.trans x2).hh.free e2, e3⟩
  | vw ds => exact z
variable {a b : Expr} {pos : Pos} {f g : FD}
theorem xe_bin {op : Operator} {r : R2} {o : D → D → Option R} (ho : OpR X (binaryOp op) r) (hd : OpV X.K r o) (ha : XV X a f) (hb : XV X b g) : XE X (.BinOp a op b pos) (fOpE o f g) := by
  obtain ⟨t, h1, h2⟩ := ha
  obtain ⟨u, h3, h4⟩ := hb
  exact ⟨_, pe_op ho h1 h3, simV_op hd h2 h4⟩
theorem xe_cmp {op : CmpOp} {r : R2} {o : D → D → Option R} (ho : OpR X (compareOp op) r) (hd : OpV X.K r o) (ha : XV X a f) (hb : XV X b g) (hm : behindInMarks op b = false) : XE X (.Compare a [op] [b] pos) (fOpE o f g) := by
  obtain ⟨t, h1, h2⟩ := ha
  obtain ⟨u, h3, h4⟩ := hb
  exact ⟨_, pe_cmpR ho h1 h3 hm, simV_op hd h2 h4⟩
theorem xe_ix {r : R2} {o : D → D → Option R} (ho : IxR X r) (hd : OpV X.K r o) (ha : XV X a f) (hb : XV X b g) (hs : PlainIx b) : XE X (.Subscript a b pos) (fOpE o f g) := by
  obtain ⟨t, h1, h2⟩ := ha
  obtain ⟨u, h3, h4⟩ := hb
  exact ⟨_, pe_ix ho h1 h3 hs, simV_op hd h2 h4⟩
def tOf (f : FE) : FT := fun ω => match f ω with
  | some (.sh (.bl k)) => some k
  | _ => none
theorem simT_test {t : TE} {f : FE} (h : SimE X.K t f) : SimT X.K (tTest t) (tOf f) := by
  intro G0 H0 G ω σ H b Q o e k
  unfold tOf at e
  cases q : f ω with
  | none => rw [q] at e; cases e
  | some r =>
    rw [q] at e
    cases r with
    | sh d =>
      cases d with
      | bl c =>
        cases e
        refine h G0 H0 G ω σ H _ _ o q fun v G' H' x y => ?_
        cases (show v = V.bl b from y)
        exact ⟨b, rfl, k G' H' x⟩
      | _ => cases e
    | _ => cases e
theorem xt_cmp {op : CmpOp} {r : R2} {o : D → D → Option R} (ho : OpR X (compareOp op) r) (hd : OpV X.K r o) (ha : XV X a f) (hb : XV X b g) (hm : behindInMarks op b = false) : XT X (.Compare a [op] [b] pos) (tOf (fOpE o f g)) := by
  obtain ⟨t, h1, h2⟩ := ha
  obtain ⟨u, h3, h4⟩ := hb
  exact ⟨_, pt_cmpR ho h1 h3 hm, simT_test (simV_op hd h2 h4)⟩
def oInt (c : Int → Int → Bool) (g : Int → Int → D) : D → D → Option R
  | .int i, .int j => if c i j = true then some (.sh (g i j)) else none
  | _, _ => none
theorem Vw.int {K : PySem.W.Frag} {G H : Hp} {i : Int} {v : V} (h : Vw K G H (.int i) v) : v = .int i := h.of_ne (fun _ z => by cases z)
theorem Vw.bl {K : PySem.W.Frag} {G H : Hp} {i : Bool} {v : V} (h : Vw K G H (.bl i) v) : v = .bl i := h.of_ne (fun _ z => by cases z)
theorem Vw.str {K : PySem.W.Frag} {G H : Hp} {i : Str} {v : V} (h : Vw K G H (.str i) v) : v = .str i := h.of_ne (fun _ z => by cases z)
theorem Vw.non {K : PySem.W.Frag} {G H : Hp} {v : V} (h : Vw K G H .non v) : v = .non := h.of_ne (fun _ z => by cases z)
theorem Vw.tup {K : PySem.W.Frag} {G H : Hp} {ds : List D} {v : V} (h : Vw K G H (.tup ds) v) : ∃ a vs, v = .ref a ∧ G a = some (.tup vs) ∧ Reps K G ds vs := h.of_ne (fun _ z => by cases z)
theorem Vw.scr {K : PySem.W.Frag} {G H : Hp} {ns : List Int} {v : V} (h : Vw K G H (.scr ns) v) : ∃ a, v = .ref a ∧ SqL K G a (ns.map V.int) := h.of_ne (fun _ z => by cases z)
theorem opv_int {K : PySem.W.Frag} {C : Int → Int → Prop} {c : Int → Int → Bool} {gV : Int → Int → V} {g : Int → Int → D} (hc : ∀ i j, c i j = true → C i j) (hg : ∀ H i j, Rep K H (g i j) (gV i j)) : OpV K (rI C gV) (oInt c g) := by
  intro G H x y d v u Q s e hx hy k
  cases x with
  | int i =>
    cases y with
    | int j =>
      cases hx.int
      cases hy.int
      unfold oInt at e
      dsimp only at e
      by_cases z : c i j = true
      · rw [if_pos z] at e
        cases e
        exact ⟨i, j, rfl, rfl, hc i j z, k _ G H (Ext.refl s) (hg _ i j)⟩
      · rw [if_neg z] at e; cases e
    | _ => cases e
  | _ => cases e
theorem opv_int0 {K : PySem.W.Frag} {gV : Int → Int → V} {g : Int → Int → D} (hg : ∀ H i j, Rep K H (g i j) (gV i j)) : OpV K (rI0 gV) (oInt (fun _ _ => true) g) := by
  intro G H x y d v u Q s e hx hy k
  cases x with
  | int i =>
    cases y with
    | int j =>
      cases hx.int
      cases hy.int
      cases e
      exact ⟨i, j, rfl, rfl, k _ G H (Ext.refl s) (hg _ i j)⟩
    | _ => cases e
  | _ => cases e
def cMul (i j : Int) : Bool := (decide (-(2 ^ 64) < i) && decide (i < 2 ^ 64)) || (decide (-(2 ^ 64) < j) && decide (j < 2 ^ 64))
def cDiv (_ j : Int) : Bool := decide (0 < j) && decide (j < 1073741824)
def cMod (_ j : Int) : Bool := decide (0 < j)
def cPow (i j : Int) : Bool := decide (0 ≤ j) && decide (j ≤ 1000000) && decide (i.natAbs < 2 ^ 64)
abbrev oSub : D → D → Option R := oInt (fun _ _ => true) fun i j => .int (i - j)
abbrev oMul : D → D → Option R := oInt cMul fun i j => .int (i * j)
abbrev oDiv : D → D → Option R := oInt cDiv fun i j => .int (i / j)
abbrev oMod : D → D → Option R := oInt cMod fun i j => .int (i % j)
abbrev oPow : D → D → Option R := oInt cPow fun i j => .int (i ^ j.toNat)
abbrev oLt : D → D → Option R := oInt (fun _ _ => true) fun i j => .bl (decide (i < j))
abbrev oLe : D → D → Option R := oInt (fun _ _ => true) fun i j => .bl (decide (i ≤ j))
abbrev oGt : D → D → Option R := oInt (fun _ _ => true) fun i j => .bl (decide (j < i))
abbrev oGe : D → D → Option R := oInt (fun _ _ => true) fun i j => .bl (decide (j ≤ i))
def oAdd : D → D → Option R
  | .int i, .int j => some (.sh (.int (i + j)))
  | .lst xs, .lst ys => if xs.length + ys.length ≤ 1000000 then some (.fr (xs ++ ys)) else none
  | .tup [], .tup ys => some (.sh (.tup ys))
  | .tup (x :: xs), .tup ys => if (x :: xs).length + ys.length ≤ 1000000 then some (.sh (.tup ((x :: xs) ++ ys))) else none
  | _, _ => none
theorem le_line6 {n : Nat} (h : n ≤ 1000000) : n ≤ sizeLine := by rw [sizeLine_eq]; omega
def rCat0 (K : PySem.W.Frag) : R2 := fun x y H Q => ∃ a b ys, x = .ref a ∧ y = .ref b ∧ SqT K H a [] ∧ SqT K H b ys ∧ Q (.ref b) H
theorem op_cat0 : OpR X (binaryOp .Add) (rCat0 X.K) := by
  intro pins s σ H x y v u Q I rx ry h
  obtain ⟨a, b, ys, rfl, rfl, ha, hb, q⟩ := h
  cases rx
  cases ry
  obtain ⟨its, r1, p1, _⟩ := I.tuple ha
  obtain ⟨its2, r2, p2, _⟩ := I.tuple hb
  have e0 : its = [] := r1.nil_iff.mpr rfl
  subst e0
  obtain ⟨⟨cls, dd, data, sl⟩, ho, hc, n, hd⟩ := id p1
  obtain ⟨⟨cls2, dd2, data2, sl2⟩, ho2, hc2, n2, hd2⟩ := id p2
  simp only at hc hd hc2 hd2
  subst hc hd hc2 hd2
  exact PySem.concat_meets ⟨_, ho, rfl⟩ ⟨_, ho2, rfl⟩ PySem.noFill_tuple_add PySem.seq_tuple_add PySem.F.slot_tuple_add PySem.F.entry_tuple_add (PySem.F.args_tuple_add_2 _ _)
    (PyProof.Rows.tuple_addW0 a b _ its2.toArray n n2 dd dd2 sl sl2 (by simp)) ⟨ho, ho2, ⟨.ref b, H, I, rfl, q⟩⟩
def rAddAll (K : PySem.W.Frag) : R2 := fun x y H Q => rI0 (fun i j => .int (i + j)) x y H Q ∨ rCat x y H Q ∨ rCatT K x y H Q ∨ rCat0 K x y H Q
theorem op_addAll : OpR X (binaryOp .Add) (rAddAll X.K) := op_add.or (op_cat.or (op_catT.or op_cat0))
theorem opv_add {K : PySem.W.Frag} : OpV K (rAddAll K) oAdd := by
  intro G H x y d v u Q s e hx hy k
  cases x with
  | int i =>
    cases y with
    | int j =>
      cases hx.int
      cases hy.int
      cases e
      exact .inl ⟨i, j, rfl, rfl, k _ G H (Ext.refl s) rfl⟩
    | _ => cases e
  | lst xs =>
    cases y with
    | lst ys =>
      unfold oAdd at e
      dsimp only at e
      by_cases z : xs.length + ys.length ≤ 1000000
      · rw [if_pos z] at e
        cases e
        obtain ⟨a, vs, rfl, h1, h2⟩ := hx.lst s
        obtain ⟨b, us, rfl, h3, h4⟩ := hy.lst s
        refine .inr (.inl ⟨a, b, vs, us, rfl, rfl, h1, h3, le_line6 (by rw [← h2.len, ← h4.len]; exact z), fun p hp => ?_⟩)
        exact k _ G _ (Ext.hide s hp _) ⟨p, _, rfl, hp, s.free hp, upd_same, h2.app h4⟩
      · rw [if_neg z] at e; cases e
    | _ => cases e
  | tup xs =>
    cases y with
    | tup ys =>
      obtain ⟨a, vs, rfl, h1, h2⟩ := hx.tup
      obtain ⟨b, us, rfl, h3, h4⟩ := hy.tup
      cases xs with
      | nil =>
        cases e
        have ev : vs = [] := List.eq_nil_of_length_eq_zero h2.len.symm
        subst ev
        exact .inr (.inr (.inr ⟨a, b, us, rfl, rfl, SqT.of (s _ _ h1), SqT.of (s _ _ h3), k _ G H (Ext.refl s) ⟨b, us, rfl, h3, h4⟩⟩))
      | cons x0 xs =>
        unfold oAdd at e
        dsimp only at e
        by_cases z : (x0 :: xs).length + ys.length ≤ 1000000
        · rw [if_pos z] at e
          cases e
          refine .inr (.inr (.inl ⟨a, b, vs, us, rfl, rfl, SqT.of (s _ _ h1), SqT.of (s _ _ h3), fun w => ?_, le_line6 (by rw [← h2.len, ← h4.len]; exact z), fun w => ?_, fun _ p hp => ?_⟩))
          · have := h2.len
            rw [w] at this
            cases this
          · have := h4.len
            rw [w] at this
            have ey : ys = [] := List.eq_nil_of_length_eq_zero this
            subst ey
            rw [List.append_nil] at k
            exact k _ G H (Ext.refl s) ⟨a, vs, rfl, h1, h2⟩
          · have x2 := Ext.lay s hp (.tup (vs ++ us))
            exact k _ _ _ x2 ⟨p, _, rfl, upd_same, (h2.app h4).mono x2.gg⟩
        · rw [if_neg z] at e; cases e
    | _ => cases xs <;> cases e
  | _ => cases e
theorem xe_sub (ha : XV X a f) (hb : XV X b g) : XE X (.BinOp a .Sub b pos) (fOpE oSub f g) := xe_bin op_sub (opv_int0 fun _ _ _ => rfl) ha hb
theorem mulOk {i j : Int} (h : cMul i j = true) : CMul i j := by
  unfold cMul at h
  rw [Bool.or_eq_true, Bool.and_eq_true, Bool.and_eq_true, decide_eq_true_iff, decide_eq_true_iff, decide_eq_true_iff, decide_eq_true_iff] at h
  exact h
theorem divOk {i j : Int} (h : cDiv i j = true) : CDiv i j := by
  unfold cDiv at h
  rw [Bool.and_eq_true, decide_eq_true_iff, decide_eq_true_iff] at h
  exact h
theorem powOk {i j : Int} (h : cPow i j = true) : CPow i j := by
  unfold cPow at h
  rw [Bool.and_eq_true, Bool.and_eq_true, decide_eq_true_iff, decide_eq_true_iff, decide_eq_true_iff] at h
  exact ⟨h.1.1, h.1.2, h.2⟩
theorem xe_mul (ha : XV X a f) (hb : XV X b g) : XE X (.BinOp a .Mult b pos) (fOpE oMul f g) := xe_bin op_mul (opv_int (fun _ _ h => mulOk h) fun _ _ _ => rfl) ha hb
theorem xe_fdiv (ha : XV X a f) (hb : XV X b g) : XE X (.BinOp a .FloorDiv b pos) (fOpE oDiv f g) := xe_bin op_fdiv (opv_int (fun _ _ h => divOk h) fun _ _ _ => rfl) ha hb
theorem xe_mod (ha : XV X a f) (hb : XV X b g) : XE X (.BinOp a .Mod b pos) (fOpE oMod f g) := xe_bin op_mod (opv_int (fun _ _ h => of_decide_eq_true h) fun _ _ _ => rfl) ha hb
theorem xe_pow (ha : XV X a f) (hb : XV X b g) : XE X (.BinOp a .Pow b pos) (fOpE oPow f g) := xe_bin op_pow (opv_int (fun _ _ h => powOk h) fun _ _ _ => rfl) ha hb
def oNeg : D → Option R
  | .int i => some (.sh (.int (-i)))
  | _ => none
def fNeg (f : FD) : FE := fun ω => (f ω).bind oNeg
theorem xe_neg (ha : XV X a f) : XE X (.UnaryOp .USub a pos) (fNeg f) := by
  obtain ⟨t, h1, h2⟩ := ha
  refine ⟨_, pe_un un_neg h1, fun G0 H0 G ω σ H d Q ow e k => ?_⟩
  obtain ⟨x, q, e⟩ := bnd e
  refine h2 G0 H0 G ω σ H x _ ow q fun v G1 H1 x1 y1 => ?_
  cases x with
  | int i => cases e; cases y1.int; exact ⟨i, rfl, k _ G1 H1 x1 rfl⟩
  | _ => cases e
theorem xe_lt (ha : XV X a f) (hb : XV X b g) : XE X (.Compare a [.Lt] [b] pos) (fOpE oLt f g) := xe_cmp op_lt (opv_int0 fun _ _ _ => rfl) ha hb (nomark _)
theorem xe_le (ha : XV X a f) (hb : XV X b g) : XE X (.Compare a [.LtE] [b] pos) (fOpE oLe f g) := xe_cmp op_le (opv_int0 fun _ _ _ => rfl) ha hb (nomark _)
theorem xe_ge (ha : XV X a f) (hb : XV X b g) : XE X (.Compare a [.GtE] [b] pos) (fOpE oGe f g) := xe_cmp op_ge (opv_int0 fun _ _ _ => rfl) ha hb (nomark _)
theorem xt_lt (ha : XV X a f) (hb : XV X b g) : XT X (.Compare a [.Lt] [b] pos) (tOf (fOpE oLt f g)) := xt_cmp op_lt (opv_int0 fun _ _ _ => rfl) ha hb (nomark _)
theorem xt_gt (ha : XV X a f) (hb : XV X b g) : XT X (.Compare a [.Gt] [b] pos) (tOf (fOpE oGt f g)) := xt_cmp op_gt (opv_int0 fun _ _ _ => rfl) ha hb (nomark _)
theorem xt_ge (ha : XV X a f) (hb : XV X b g) : XT X (.Compare a [.GtE] [b] pos) (tOf (fOpE oGe f g)) := xt_cmp op_ge (opv_int0 fun _ _ _ => rfl) ha hb (nomark _)
end
mutual
def D.py : D → PyData
  | .non => .none
  | .bl b => .bool b
  | .int i => .int i
  | .str x => .str x
  | .lst xs => .list (D.pys xs)
  | .tup xs => .tuple (D.pys xs)
  | .scr ns => .list (ns.map PyData.int)
  | .exc _ => .dict []
  | .dic _ _ => .dict []
def D.pys : List D → List PyData
  | [] => []
  | d :: ds => d.py :: D.pys ds
end
section
variable {X : Cx} {pins : List (Addr × Obj)} {σ : St} {H : Hp} {s : Shared}
theorem reads_ints {h : Heap} : ∀ {ns : List Int} {us : List Value}, Vals (ns.map V.int) us → ∃ as, ReadsAll h us (ns.map PyData.int) as
  | [], _, r => by cases r; exact ⟨_, .nil⟩
  | n :: ns, _, r => by
    rw [List.map_cons] at r
    cases r with
    | cons r1 r2 =>
      obtain ⟨t, rfl⟩ := r1
      obtain ⟨as, q⟩ := reads_ints (h := h) r2
      exact ⟨_, .cons (.int n t) q⟩
mutual
theorem reads_of (I : Inv X pins σ H s) : ∀ {d : D} {v : V} {u : Value}, d.py.canLay0 = true → Rep X.K H d v → RelV v u → ∃ as, Reads s.heap u d.py as
  | .non, _, _, _, h, r => by cases (show _ = V.non from h); cases r; exact ⟨_, .none⟩
  | .bl b, _, _, _, h, r => by cases (show _ = V.bl b from h); cases r; exact ⟨_, .bool b⟩
  | .int i, _, _, _, h, r => by cases (show _ = V.int i from h); obtain ⟨t, rfl⟩ := r; exact ⟨_, .int i t⟩
  | .str x, _, _, _, h, r => by cases (show _ = V.str x from h); obtain ⟨t, rfl⟩ := r; exact ⟨_, .str x t⟩
  | .lst ds, _, _, hc, ⟨a, vs, rfl, h2, h3⟩, r => by
    cases r
    obtain ⟨its, n, rv, e, _⟩ := I.lst h2
    obtain ⟨as, q⟩ := reads_all I (show PyData.canLayAll0 (D.pys ds) = true from hc) h3 rv
    exact ⟨_, .list e rfl rfl (by simpa using q)⟩
  | .tup ds, _, _, hc, ⟨a, vs, rfl, h2, h3⟩, r => by
    cases r
    obtain ⟨its, rv, ⟨o, e, c, n, dd⟩, _⟩ := I.tuple (SqT.of h2)
    obtain ⟨as, q⟩ := reads_all I (show PyData.canLayAll0 (D.pys ds) = true from hc) h3 rv
    exact ⟨_, .tuple e c dd (by simpa using q)⟩
  | .exc _, _, _, hc, _, _ => by cases hc
  | .dic _ _, _, _, hc, _, _ => by cases hc
  | .scr ns, _, _, _, ⟨a, rfl, h2⟩, r => by
    cases r
    obtain ⟨its, rv, pl, _⟩ := I.list h2
    obtain ⟨o, e, c, n, dd⟩ := pl.isList
    obtain ⟨as, q⟩ := reads_ints (h := s.heap) rv
    exact ⟨_, .list e c dd (by simpa using q)⟩
theorem reads_all (I : Inv X pins σ H s) : ∀ {ds : List D} {vs : List V} {us : List Value}, PyData.canLayAll0 (D.pys ds) = true → Reps X.K H ds vs → Vals vs us → ∃ as, ReadsAll s.heap us (D.pys ds) as
  | [], _, _, _, h, r => by cases (show _ = [] from h); cases r; exact ⟨_, .nil⟩
  | d :: ds, _, _, hc, ⟨v, vr, h1, h2, h3⟩, r => by
    have hc' := Bool.and_eq_true_iff.mp (show (d.py.canLay0 && PyData.canLayAll0 (D.pys ds)) = true from hc)
    subst h1
    cases r with
    | cons r1 r2 =>
      obtain ⟨as, q1⟩ := reads_of I hc'.1 h2 r1
      obtain ⟨bs, q2⟩ := reads_all I hc'.2 h3 r2
      exact ⟨_, .cons q1 q2⟩
end
end
def shp (d : D) : Bool := SeqAt.shaped d.py
def eqD (x y : D) : Bool := PyData.eqv x.py y.py
def rEqD (K : PySem.W.Frag) (neg : Bool) : R2 := fun x y H Q => ∃ d e, Rep K H d x ∧ Rep K H e y ∧ shp d = true ∧ shp e = true ∧ Q (.bl (if neg then !eqD d e else eqD d e)) H
def oEq (neg : Bool) : D → D → Option R := fun x y => if shp x && shp y then some (.sh (.bl (if neg then !eqD x y else eqD x y))) else none
section
variable {X : Cx} {a b : Expr} {pos : Pos} {f g : FD}
theorem op_eqD (hu : X.A.units + 64 < cLine) : OpR X (compareOp .Eq) (rEqD X.K false) := by
  intro pins s σ H x y v u Q I rx ry h
  obtain ⟨d, e, h1, h2, h3, h4, q⟩ := h
  obtain ⟨as, ra⟩ := reads_of I (SeqAt.canLay_of_shaped h3) h1 rx
  obtain ⟨bs, rb⟩ := reads_of I (SeqAt.canLay_of_shaped h4) h2 ry
  exact SeqAt.compareEq_shaped ra rb h3 h4 hu ⟨.bl _, H, I, rfl, q⟩
theorem op_neD (hu : X.A.units + 64 < cLine) : OpR X (compareOp .NotEq) (rEqD X.K true) := by
  intro pins s σ H x y v u Q I rx ry h
  obtain ⟨d, e, h1, h2, h3, h4, q⟩ := h
  obtain ⟨as, ra⟩ := reads_of I (SeqAt.canLay_of_shaped h3) h1 rx
  obtain ⟨bs, rb⟩ := reads_of I (SeqAt.canLay_of_shaped h4) h2 ry
  exact SeqAt.compareNe_shaped ra rb h3 h4 hu ⟨.bl _, H, I, rfl, q⟩
theorem opv_eq {K : PySem.W.Frag} {neg : Bool} : OpV K (rEqD K neg) (oEq neg) := by
  intro G H x y d v u Q s e hx hy k
  unfold oEq at e
  by_cases z : (shp x && shp y) = true
  · rw [if_pos z] at e
    cases e
    rw [Bool.and_eq_true] at z
    exact ⟨x, y, hx.rep s, hy.rep s, z.1, z.2, k _ G H (Ext.refl s) rfl⟩
  · rw [if_neg z] at e; cases e
theorem xe_eq (hu : X.A.units + 64 < cLine) (ha : XV X a f) (hb : XV X b g) : XE X (.Compare a [.Eq] [b] pos) (fOpE (oEq false) f g) := xe_cmp (op_eqD hu) opv_eq ha hb (nomark _)
theorem xt_eq (hu : X.A.units + 64 < cLine) (ha : XV X a f) (hb : XV X b g) : XT X (.Compare a [.Eq] [b] pos) (tOf (fOpE (oEq false) f g)) := xt_cmp (op_eqD hu) opv_eq ha hb (nomark _)
theorem xt_ne (hu : X.A.units + 64 < cLine) (ha : XV X a f) (hb : XV X b g) : XT X (.Compare a [.NotEq] [b] pos) (tOf (fOpE (oEq true) f g)) := xt_cmp (op_neD hu) opv_eq ha hb (nomark _)
def rIs (neg : Bool) : R2 := fun x y H Q => (y = .non ∧ Q (.bl (if neg then !decide (x = .non) else decide (x = .non))) H) ∨ ∃ a b, x = .bl a ∧ y = .bl b ∧ Q (.bl (if neg then !(a == b) else a == b)) H
theorem op_is : OpR X (compareOp .Is) (rIs false) := by
  intro pins s σ H x y v u Q I rx ry h
  rcases h with ⟨rfl, q⟩ | ⟨a, b, rfl, rfl, q⟩
  · exact op_isN pins s σ H x .non v u Q I rx ry ⟨rfl, q⟩
  · cases rx
    cases ry
    exact PyProof.Rows.is_bool ⟨.bl _, H, I, rfl, q⟩
def isN : D → Bool
  | .non => true
  | _ => false
def oIs (neg : Bool) : D → D → Option R
  | x, .non => some (.sh (.bl (if neg then !isN x else isN x)))
  | .bl i, .bl j => some (.sh (.bl (if neg then !(i == j) else i == j)))
  | _, _ => none
theorem isN_of {K : PySem.W.Frag} {H : Hp} {d : D} {v : V} (h : Rep K H d v) : decide (v = .non) = isN d := by
  cases d with
  | non => cases (show v = V.non from h); rfl
  | bl b => cases (show v = V.bl b from h); rfl
  | int b => cases (show v = V.int b from h); rfl
  | str b => cases (show v = V.str b from h); rfl
  | lst _ => obtain ⟨a, _, rfl, _⟩ := h; rfl
  | tup _ => obtain ⟨a, _, rfl, _⟩ := h; rfl
  | scr _ => obtain ⟨a, rfl, _⟩ := h; rfl
  | exc _ => obtain ⟨a, _, rfl, _⟩ := h; rfl
  | dic _ _ => obtain ⟨a, _, rfl, _⟩ := h; rfl
theorem opv_is {K : PySem.W.Frag} {neg : Bool} : OpV K (rIs neg) (oIs neg) := by
  intro G H x y d v u Q s e hx hy k
  cases y with
  | non =>
    cases hy.non
    refine .inl ⟨rfl, ?_⟩
    rw [isN_of (hx.rep s)]
    cases x <;> (cases e; exact k _ G H (Ext.refl s) rfl)
  | bl j =>
    cases x with
    | bl i =>
      cases hx.bl
      cases hy.bl
      cases e
      exact .inr ⟨i, j, rfl, rfl, k _ G H (Ext.refl s) rfl⟩
    | _ => cases e
  | _ => cases x <;> cases e
theorem xt_is (ha : XV X a f) (hb : XV X b g) : XT X (.Compare a [.Is] [b] pos) (tOf (fOpE (oIs false) f g)) := xt_cmp op_is opv_is ha hb (nomark _)
def flatD : D → Bool
  | .non => true
  | .bl _ => true
  | .int _ => true
  | .str _ => true
  | _ => false
def D.v : D → V
  | .bl b => .bl b
  | .int i => .int i
  | .str x => .str x
  | _ => .non
theorem rep_flat {K : PySem.W.Frag} {H : Hp} {d : D} {v : V} (h : Rep K H d v) (f : flatD d = true) : v = d.v ∧ flatV v = true := by
  cases d with
  | non => cases (show v = V.non from h); exact ⟨rfl, rfl⟩
  | bl b => cases (show v = V.bl b from h); exact ⟨rfl, rfl⟩
  | int b => cases (show v = V.int b from h); exact ⟨rfl, rfl⟩
  | str b => cases (show v = V.str b from h); exact ⟨rfl, rfl⟩
  | _ => cases f
theorem reps_flat {K : PySem.W.Frag} {H : Hp} : ∀ {ds : List D} {vs : List V}, Reps K H ds vs → ds.all flatD = true → vs = ds.map D.v ∧ vs.all flatV = true
  | [], _, h, _ => by cases (show _ = [] from h); exact ⟨rfl, rfl⟩
  | d :: ds, _, ⟨v, r, h1, h2, h3⟩, f => by
    rw [List.all_cons, Bool.and_eq_true] at f
    obtain ⟨e1, e2⟩ := rep_flat h2 f.1
    obtain ⟨e3, e4⟩ := reps_flat h3 f.2
    subst h1
    refine ⟨by rw [List.map_cons, ← e1, ← e3], by rw [List.all_cons, e2, e4]; rfl⟩
def inD (x : D) (ds : List D) : Bool := inV x.v (ds.map D.v)
def oIn (neg : Bool) : D → D → Option R
  | x, .lst ys => if flatD x && ys.all flatD then some (.sh (.bl (if neg then !inD x ys else inD x ys))) else none
  | x, .tup ys => if flatD x && ys.all flatD then some (.sh (.bl (if neg then !inD x ys else inD x ys))) else none
  | _, _ => none
theorem opv_in {K : PySem.W.Frag} {neg : Bool} : OpV K (rIn K neg) (oIn neg) := by
  intro G H x y d v u Q s e hx hy k
  cases y with
  | lst ys =>
    unfold oIn at e
    dsimp only at e
    by_cases z : (flatD x && ys.all flatD) = true
    · rw [if_pos z] at e
      cases e
      rw [Bool.and_eq_true] at z
      obtain ⟨p, vs, rfl, h1, h2⟩ := hy.lst s
      obtain ⟨e1, e2⟩ := rep_flat (hx.rep s) z.1
      obtain ⟨e3, e4⟩ := reps_flat h2 z.2
      refine ⟨p, vs, rfl, .inl (SqL.of h1), e2, e4, ?_⟩
      rw [e1, e3]
      exact k _ G H (Ext.refl s) rfl
    · rw [if_neg z] at e; cases e
  | tup ys =>
    unfold oIn at e
    dsimp only at e
    by_cases z : (flatD x && ys.all flatD) = true
    · rw [if_pos z] at e
      cases e
      rw [Bool.and_eq_true] at z
      obtain ⟨p, vs, rfl, h1, h2⟩ := hy.tup
      obtain ⟨e1, e2⟩ := rep_flat (hx.rep s) z.1
      obtain ⟨e3, e4⟩ := reps_flat h2 z.2
      refine ⟨p, vs, rfl, .inr (SqT.of (s _ _ h1)), e2, e4, ?_⟩
      rw [e1, e3]
      exact k _ G H (Ext.refl s) rfl
    · rw [if_neg z] at e; cases e
  | _ => cases x <;> cases e
def oIx : D → D → Option R
  | .lst ds, .int i => (atI ds i).map R.sh
  | .tup ds, .int i => (atI ds i).map R.sh
  | .scr ns, .int i => (atI ns i).map fun n => .sh (.int n)
  | _, _ => none
theorem atI_reps {K : PySem.W.Frag} {H : Hp} {ds : List D} {vs : List V} {i : Int} {d : D} (h : Reps K H ds vs) (e : atI ds i = some d) : ∃ v, atI vs i = some v ∧ Rep K H d v := by
  unfold atI at e ⊢
  rw [← h.len]
  cases q : ixN ds.length i with
  | none => rw [q] at e; cases e
  | some j =>
    rw [q] at e
    obtain ⟨v, e1, e2⟩ := h.get e
    exact ⟨v, e1, e2⟩
theorem atI_ints {ns : List Int} {i n : Int} (e : atI ns i = some n) : atI (ns.map V.int) i = some (.int n) := by
  unfold atI at e ⊢
  rw [List.length_map]
  cases q : ixN ns.length i with
  | none => rw [q] at e; cases e
  | some j =>
    rw [q] at e
    have e' : ns[j]? = some n := e
    show (ns.map V.int)[j]? = _
    rw [List.getElem?_map, e']; rfl
theorem opv_ix {K : PySem.W.Frag} : OpV K (rIx K) oIx := by
  intro G H x y d v u Q s e hx hy k
  cases y with
  | int i =>
    cases hy.int
    cases x with
    | lst ds =>
      obtain ⟨d', q, e'⟩ := mpd e
      subst e'
      obtain ⟨p, vs, rfl, h1, h2⟩ := hx.lst s
      obtain ⟨w, e1, e2⟩ := atI_reps h2 q
      exact .inl ⟨p, vs, i, w, rfl, rfl, SqL.of h1, e1, k _ G H (Ext.refl s) e2⟩
    | tup ds =>
      obtain ⟨d', q, e'⟩ := mpd e
      subst e'
      obtain ⟨p, vs, rfl, h1, h2⟩ := hx.tup
      obtain ⟨w, e1, e2⟩ := atI_reps h2 q
      exact .inr (.inl ⟨p, vs, i, w, rfl, rfl, SqT.of (s _ _ h1), e1, k _ G H (Ext.refl s) e2⟩)
    | scr ns =>
      obtain ⟨n, q, e'⟩ := mpd e
      subst e'
      obtain ⟨p, rfl, h1⟩ := hx.scr
      exact .inl ⟨p, _, i, .int n, rfl, rfl, s.seq h1, atI_ints q, k _ G H (Ext.refl s) rfl⟩
    | _ => cases e
  | _ => cases x <;> cases e
abbrev FO := WSt → Option (Option Int)
def SimO (K : PySem.W.Frag) (t : TO) (f : FO) : Prop := ∀ G0 H0 G ω σ H o (Q : Option Int → Hp → Prop), Own K G0 H0 G ω σ H → f ω = some o → (∀ G' H', Ext G H G' H' → Q o H') → t σ H Q
def XO (X : Cx) (e : Option Expr) (f : FO) : Prop := ∃ t, PO X e t ∧ SimO X.K t f
def pNo : FO := fun _ => some none
def pAt (f : FD) : FO := fun ω => (f ω).bind fun d => match d with | .int i => some (some i) | _ => none
theorem xo_none : XO X none pNo := ⟨_, po_none, fun G0 H0 G ω σ H o Q ow e k => by cases e; exact k G H (Ext.refl ow.gh)⟩
theorem xo_some (h : XV X a f) : XO X (some a) (pAt f) := by
  obtain ⟨t, h1, h2⟩ := h
  refine ⟨_, po_some h1, fun G0 H0 G ω σ H o Q ow e k => ?_⟩
  obtain ⟨d, q, e⟩ := bnd e
  refine h2 G0 H0 G ω σ H d _ ow q fun v G1 H1 x1 y1 => ?_
  cases d with
  | int i => cases e; cases y1.int; exact ⟨i, rfl, k G1 H1 x1⟩
  | _ => cases e
def cutD {α : Type} (xs : List α) (lo hi : Option Int) : List α := (xs.drop (HT.sIx xs.length 0 lo)).take (HT.sIx xs.length xs.length hi - HT.sIx xs.length 0 lo)
theorem cut_reps {K : PySem.W.Frag} {H : Hp} {ds : List D} {vs : List V} (h : Reps K H ds vs) (lo hi : Option Int) : Reps K H (cutD ds lo hi) (cutV vs lo hi) := by
  unfold cutD cutV
  rw [h.len]
  exact (h.drop _).take _
theorem cut_ints (ns : List Int) (lo hi : Option Int) : cutV (ns.map V.int) lo hi = (cutD ns lo hi).map V.int := by
  unfold cutD cutV
  rw [List.length_map, List.map_take, List.map_drop]
def oSl : D → Option Int → Option Int → Option R
  | .lst ds, lo, hi => some (.fr (cutD ds lo hi))
  | .scr ns, lo, hi => some (.fr ((cutD ns lo hi).map D.int))
  | .tup ds, lo, hi => if HT.sIx ds.length 0 lo = 0 ∧ HT.sIx ds.length ds.length hi = ds.length then some (.sh (.tup ds)) else some (.sh (.tup (cutD ds lo hi)))
  | _, _, _ => none
end
end Hk
set_option maxRecDepth 100000
namespace Hk
open PySem L2
section
variable {X : Cx} {a b c : Expr} {pos : Pos} {rest : List Expr} {f g : FT}
def tAndF (f g : FT) : FT := fun ω => (f ω).bind fun c => if c = true then g ω else some false
def tOrF (f g : FT) : FT := fun ω => (f ω).bind fun c => if c = true then some true else g ω
def tNotF (f : FT) : FT := fun ω => (f ω).map (!·)
theorem simT_and {t u : TT} (h : SimT X.K t f) (h' : SimT X.K u g) : SimT X.K (tAnd t u) (tAndF f g) := by
  intro G0 H0 G ω σ H b Q o e k
  obtain ⟨c, q, e⟩ := bnd e
  refine h G0 H0 G ω σ H c _ o q fun G1 H1 x1 => ?_
  cases c with
  | true => rw [if_pos rfl] at e ⊢; exact h' G0 H0 G1 ω σ H1 b Q (o.keep x1) e fun G2 H2 x2 => k G2 H2 (x1.trans x2)
  | false => cases e; exact k G1 H1 x1
theorem simT_or {t u : TT} (h : SimT X.K t f) (h' : SimT X.K u g) : SimT X.K (tOr t u) (tOrF f g) := by
  intro G0 H0 G ω σ H b Q o e k
  obtain ⟨c, q, e⟩ := bnd e
  refine h G0 H0 G ω σ H c _ o q fun G1 H1 x1 => ?_
  cases c with
  | true => cases e; exact k G1 H1 x1
  | false => exact h' G0 H0 G1 ω σ H1 b Q (o.keep x1) e fun G2 H2 x2 => k G2 H2 (x1.trans x2)
theorem xw_and1 (h : XT X a f) : XW X (.BoolOp .And [a] pos) f := let ⟨t, h1, h2⟩ := h; ⟨t, pw_and1 h1, h2⟩
theorem xw_or1 (h : XT X a f) : XW X (.BoolOp .Or [a] pos) f := let ⟨t, h1, h2⟩ := h; ⟨t, pw_or1 h1, h2⟩
theorem xw_and (h : XT X a f) (h' : XW X (.BoolOp .And (b :: rest) pos) g) : XW X (.BoolOp .And (a :: b :: rest) pos) (tAndF f g) := let ⟨_, h1, h2⟩ := h; let ⟨_, h3, h4⟩ := h'; ⟨_, pw_and h1 h3, simT_and h2 h4⟩
theorem xw_or (h : XT X a f) (h' : XW X (.BoolOp .Or (b :: rest) pos) g) : XW X (.BoolOp .Or (a :: b :: rest) pos) (tOrF f g) := let ⟨_, h1, h2⟩ := h; let ⟨_, h3, h4⟩ := h'; ⟨_, pw_or h1 h3, simT_or h2 h4⟩
theorem XW.toT (h : XW X a f) : XT X a f := let ⟨t, h1, h2⟩ := h; ⟨t, h1.pt, h2⟩
theorem xt_not (h : XT X a f) : XT X (.UnaryOp .Not a pos) (tNotF f) := by
  obtain ⟨t, h1, h2⟩ := h
  refine ⟨_, pt_not h1, fun G0 H0 G ω σ H b Q o e k => ?_⟩
  obtain ⟨c, q, e⟩ := mpd e
  subst e
  exact h2 G0 H0 G ω σ H c _ o q k
def truD : D → Option Bool
  | .non => some false
  | .bl b => some b
  | .int i => some (i != 0)
  | .lst xs => some (!xs.isEmpty)
  | .tup xs => some (!xs.isEmpty)
  | _ => none
def tTru (f : FD) : FT := fun ω => (f ω).bind truD
theorem isEmpty_len {α β : Type} {xs : List α} {ys : List β} (h : xs.length = ys.length) : xs.isEmpty = ys.isEmpty := by
  cases xs <;> cases ys <;> first | rfl | cases h
theorem xt_val {f : FD} (h : XV X a f) (he : ∀ whole, isTrue a X.env whole = (do let v ← whole; standAt a.pos; holding [v] (truthy v)) := by intro _; rfl) : XT X a (tTru f) := by
  obtain ⟨t, h1, h2⟩ := h
  refine ⟨_, pt_truth h1 he, fun G0 H0 G ω σ H b Q o e k => ?_⟩
  obtain ⟨d, q, e⟩ := bnd e
  refine h2 G0 H0 G ω σ H d _ o q fun v G1 H1 x1 y1 => ⟨b, ?_, k G1 H1 x1⟩
  cases d with
  | non => cases e; cases y1.non; rfl
  | bl c => cases e; cases y1.bl; rfl
  | int i => cases e; cases y1.int; rfl
  | lst xs =>
    cases e
    obtain ⟨p, vs, rfl, h1, h2⟩ := y1.lst x1.gh
    exact .inl ⟨vs, SqL.of h1, by rw [isEmpty_len h2.len]⟩
  | tup xs =>
    cases e
    obtain ⟨p, vs, rfl, h1, h2⟩ := y1.tup
    exact .inr (.inl ⟨vs, SqT.of (x1.gh _ _ h1), by rw [isEmpty_len h2.len]⟩)
  | _ => cases e
def blOf : D → Option Bool
  | .bl b => some b
  | _ => none
def vAnd (f g : FD) : FD := fun ω => (f ω).bind fun d => (blOf d).bind fun c => if c = true then g ω else some (.bl false)
def vOr (f g : FD) : FD := fun ω => (f ω).bind fun d => (blOf d).bind fun c => if c = true then some (.bl true) else g ω
def vNot (f : FD) : FD := fun ω => (f ω).bind fun d => (blOf d).map fun c => .bl (!c)
def fIte (c : FT) (f g : FE) : FE := fun ω => (c ω).bind fun k => if k = true then f ω else g ω
variable {fa fb : FD}
theorem xd_one {op} (h : XD X a fa) : XD X (.BoolOp op [a] pos) fa := let ⟨t, h1, h2⟩ := h; ⟨t, pe_one h1, h2⟩
theorem xd_and (h : XD X a fa) (h' : XD X (.BoolOp .And (b :: rest) pos) fb) : XD X (.BoolOp .And (a :: b :: rest) pos) (vAnd fa fb) := by
  obtain ⟨t, h1, h2⟩ := h
  obtain ⟨u, h3, h4⟩ := h'
  refine ⟨_, pe_and h1 h3, fun G0 H0 G ω σ H d Q o e k => ?_⟩
  obtain ⟨x, q, e⟩ := bnd e
  obtain ⟨c, q2, e2⟩ := bnd e
  clear e
  refine h2 G0 H0 G ω σ H x _ o q fun v G1 H1 x1 y1 => ?_
  cases x with
  | bl z =>
    cases q2
    cases (show v = V.bl c from y1)
    refine ⟨c, rfl, ?_⟩
    cases c with
    | true => rw [if_pos rfl] at e2 ⊢; exact h4 G0 H0 G1 ω σ H1 d Q (o.keep x1) e2 fun v G2 H2 x2 y2 => k v G2 H2 (x1.trans x2) y2
    | false => cases e2; exact k _ G1 H1 x1 rfl
  | _ => cases q2
theorem xd_or (h : XD X a fa) (h' : XD X (.BoolOp .Or (b :: rest) pos) fb) : XD X (.BoolOp .Or (a :: b :: rest) pos) (vOr fa fb) := by
  obtain ⟨t, h1, h2⟩ := h
  obtain ⟨u, h3, h4⟩ := h'
  refine ⟨_, pe_or h1 h3, fun G0 H0 G ω σ H d Q o e k => ?_⟩
  obtain ⟨x, q, e⟩ := bnd e
  obtain ⟨c, q2, e2⟩ := bnd e
  clear e
  refine h2 G0 H0 G ω σ H x _ o q fun v G1 H1 x1 y1 => ?_
  cases x with
  | bl z =>
    cases q2
    cases (show v = V.bl c from y1)
    refine ⟨c, rfl, ?_⟩
    cases c with
    | true => cases e2; exact k _ G1 H1 x1 rfl
    | false => exact h4 G0 H0 G1 ω σ H1 d Q (o.keep x1) e2 fun v G2 H2 x2 y2 => k v G2 H2 (x1.trans x2) y2
  | _ => cases q2
theorem xd_not (h : XD X a fa) : XD X (.UnaryOp .Not a pos) (vNot fa) := by
  obtain ⟨t, h1, h2⟩ := h
  refine ⟨_, pe_not h1, fun G0 H0 G ω σ H d Q o e k => ?_⟩
  obtain ⟨x, q, e⟩ := bnd e
  obtain ⟨c, q2, e⟩ := mpd e
  subst e
  refine h2 G0 H0 G ω σ H x _ o q fun v G1 H1 x1 y1 => ?_
  cases x with
  | bl z => cases q2; cases (show v = V.bl c from y1); exact ⟨c, rfl, k _ G1 H1 x1 rfl⟩
  | _ => cases q2
theorem RepR.after {K : PySem.W.Frag} {G H G1 H1 G2 H2 : Hp} {r : R} {v : V} (x : Ext G H G1 H1) (y : RepR K H1 G2 H2 r v) : RepR K H G2 H2 r v := by
  cases r with
  | sh d => exact y
  | fr ds => obtain ⟨l, vs, e1, e2, e3⟩ := y; exact ⟨l, vs, e1, x.hh.free e2, e3⟩
  | vw ds => exact y
theorem xe_ite {fc : FT} {f g : FE} (hc : XT X c fc) (ha : XE X a f) (hb : XE X b g) : XE X (.IfExp c a b pos) (fIte fc f g) := by
  obtain ⟨t, h1, h2⟩ := hc
  obtain ⟨u, h3, h4⟩ := ha
  obtain ⟨w, h5, h6⟩ := hb
  refine ⟨_, pe_ifExp h1 h3 h5, fun G0 H0 G ω σ H r Q o e k => ?_⟩
  obtain ⟨z, q, e⟩ := bnd e
  refine h2 G0 H0 G ω σ H z _ o q fun G1 H1 x1 => ?_
  cases z with
  | true => rw [if_pos rfl] at e ⊢; exact h4 G0 H0 G1 ω σ H1 r Q (o.keep x1) e fun v G2 H2 x2 y2 => k v G2 H2 (x1.trans x2) (y2.after x1)
  | false => exact h6 G0 H0 G1 ω σ H1 r Q (o.keep x1) e fun v G2 H2 x2 y2 => k v G2 H2 (x1.trans x2) (y2.after x1)
end
def CallD (K : PySem.W.Frag) (r : List V → Hp → VK → Prop) (op : List D → Option R) : Prop := ∀ G H ds vs d (Q : VK), Same G H → op ds = some d → VwA K G H ds vs →
  (∀ w G' H', Ext G H G' H' → RepR K H G' H' d w → Q w H') → r vs H Q
def fBlt (op : List D → Option R) (g : FA) : FE := fun ω => (g ω).bind op
section
variable {X : Cx} {e : Expr} {es : List Expr} {x : Str} {p pos : Pos} {r : List V → Hp → VK → Prop} {op : List D → Option R} {g : FA} {id T : String}
theorem sim_blt {t : TA} (hd : CallD X.K r op) (h : SimVA X.K t g) : SimE X.K (tCB r t) (fBlt op g) := by
  intro G0 H0 G ω σ H d Q o e k
  obtain ⟨ds, q, e⟩ := bnd e
  refine h G0 H0 G ω σ H ds _ o q fun vs G1 H1 x1 y1 => ?_
  exact hd G1 H1 ds vs d Q x1.gh e y1 fun w G2 H2 x2 y2 => k w G2 H2 (x1.trans x2) (y2.after x1)
theorem xe_blt (hc : CallR X (.builtin id) r) (hd : CallD X.K r op) (hg : Gl X x) (hm : X.mg x = none) (hv : bootBuiltins x = some (.builtin id)) (ha : XVA X (e :: es) g) (hn : x ≠ "__name__" := by decide) (hdb : (x == ("__debug__" : Str)) = false := by decide)
    (he : starEach (e :: es) X.env = (false, eval e X.env) :: starEach es X.env := by rfl) (hpl : (backTo pos (starEach es X.env)).any (·.1) = false := by rfl) : XE X (.Call (.Name x p) (e :: es) [] pos) (fBlt op g) := by
  obtain ⟨t, h1, h2⟩ := ha
  exact ⟨_, pe_callB hc hg hm hv h1 hn hdb he hpl, sim_blt hd h2⟩
theorem xe_ty (hc : CallR X (.type T) r) (hd : CallD X.K r op) (hg : Gl X x) (hm : X.mg x = none) (hv : bootBuiltins x = some (.type T)) (ha : XVA X (e :: es) g) (hn : x ≠ "__name__" := by decide) (hdb : (x == ("__debug__" : Str)) = false := by decide)
    (he : starEach (e :: es) X.env = (false, eval e X.env) :: starEach es X.env := by rfl) (hpl : (backTo pos (starEach es X.env)).any (·.1) = false := by rfl) : XE X (.Call (.Name x p) (e :: es) [] pos) (fBlt op g) := by
  obtain ⟨t, h1, h2⟩ := ha
  exact ⟨_, pe_callTy hc hg hm hv h1 hn hdb he hpl, sim_blt hd h2⟩
theorem VwA.one {K : PySem.W.Frag} {G H : Hp} {d : D} {vs : List V} (h : VwA K G H [d] vs) : ∃ v, vs = [v] ∧ Vw K G H d v := by
  obtain ⟨v, r, h1, h2, h3⟩ := h
  cases (show r = [] from h3)
  exact ⟨v, h1, h2⟩
def bLen : List D → Option R
  | [.lst ds] => some (.sh (.int ds.length))
  | [.tup ds] => some (.sh (.int ds.length))
  | [.scr ns] => some (.sh (.int ns.length))
  | _ => none
theorem cd_len {K : PySem.W.Frag} : CallD K (fun xs H Q => ∃ p ys, xs = [.ref p] ∧ (SqL K H p ys ∨ SqT K H p ys) ∧ Q (.int ys.length) H) bLen := by
  intro G H ds vs d Q s e hv k
  match ds, e with
  | [.lst ds], e =>
    cases e
    obtain ⟨v, rfl, h⟩ := hv.one
    obtain ⟨p, us, rfl, h1, h2⟩ := h.lst s
    exact ⟨p, us, rfl, .inl (SqL.of h1), k _ G H (Ext.refl s) (by show V.int _ = V.int _; rw [h2.len])⟩
  | [.tup ds], e =>
    cases e
    obtain ⟨v, rfl, h⟩ := hv.one
    obtain ⟨p, us, rfl, h1, h2⟩ := h.tup
    exact ⟨p, us, rfl, .inr (SqT.of (s _ _ h1)), k _ G H (Ext.refl s) (by show V.int _ = V.int _; rw [h2.len])⟩
  | [.scr ns], e =>
    cases e
    obtain ⟨v, rfl, h⟩ := hv.one
    obtain ⟨p, rfl, h1⟩ := h.scr
    exact ⟨p, _, rfl, .inl (s.seq h1), k _ G H (Ext.refl s) (by show V.int _ = V.int _; rw [List.length_map])⟩
def bInt : List D → Option R
  | [.int i] => some (.sh (.int i))
  | [.bl b] => some (.sh (.int (if b then 1 else 0)))
  | _ => none
theorem cd_int {K : PySem.W.Frag} : CallD K (fun xs H Q => (∃ i, xs = [.int i] ∧ Q (.int i) H) ∨ ∃ k, xs = [.bl k] ∧ Q (.int (if k then 1 else 0)) H) bInt := by
  intro G H ds vs d Q s e hv k
  match ds, e with
  | [.int i], e =>
    cases e
    obtain ⟨v, rfl, h⟩ := hv.one
    cases h.int
    exact .inl ⟨i, rfl, k _ G H (Ext.refl s) rfl⟩
  | [.bl i], e =>
    cases e
    obtain ⟨v, rfl, h⟩ := hv.one
    cases h.bl
    exact .inr ⟨i, rfl, k _ G H (Ext.refl s) rfl⟩
def bTuple : List D → Option R
  | [.lst ds] => some (.sh (.tup ds))
  | [.tup ds] => some (.sh (.tup ds))
  | _ => none
theorem cd_tuple {K : PySem.W.Frag} : CallD K (fun xs H Q => ∃ p ys, xs = [.ref p] ∧ ((SqL K H p ys ∧ ∀ l, H l = none → Q (.ref l) (upd H l (.tup ys))) ∨ (SqT K H p ys ∧ Q (.ref p) H))) bTuple := by
  intro G H ds vs d Q s e hv k
  match ds, e with
  | [.lst ds], e =>
    cases e
    obtain ⟨v, rfl, h⟩ := hv.one
    obtain ⟨p, us, rfl, h1, h2⟩ := h.lst s
    refine ⟨p, us, rfl, .inl ⟨SqL.of h1, fun l hl => ?_⟩⟩
    have x2 := Ext.lay s hl (.tup us)
    exact k _ _ _ x2 ⟨l, us, rfl, upd_same, h2.mono x2.gg⟩
  | [.tup ds], e =>
    cases e
    obtain ⟨v, rfl, h⟩ := hv.one
    obtain ⟨p, us, rfl, h1, h2⟩ := h.tup
    exact ⟨p, us, rfl, .inr ⟨SqT.of (s _ _ h1), k _ G H (Ext.refl s) ⟨p, us, rfl, h1, h2⟩⟩⟩
def allB : List D → Option Bool
  | [] => some true
  | .bl b :: r => (allB r).map fun c => b && c
  | _ => none
def bAll : List D → Option R
  | [.lst ds] => (allB ds).map fun b => .sh (.bl b)
  | _ => none
end
def rAll : List V → Hp → VK → Prop := fun xs H Q => ∃ (p : Addr) (bs : List Bool), xs = [.ref p] ∧ H p = some (.lst (bs.map V.bl)) ∧ Q (.bl (bs.all id)) H
section
variable {X : Cx}
theorem vals_bl : ∀ {bs : List Bool} {us : List Value}, Vals (bs.map V.bl) us → us = bs.map Value.bool
  | [], _, r => by cases r; rfl
  | b :: bs, _, r => by
    rw [List.map_cons] at r
    cases r with
    | cons r1 r2 => cases r1; rw [vals_bl r2]; rfl
theorem all_range {bs : List Bool} : (List.range bs.length).all (fun i => bs.getD i false) = bs.all id := by
  induction bs with
  | nil => rfl
  | cons b r ih =>
    rw [List.length_cons, List.range_succ_eq_map, List.all_cons, List.all_map, List.all_cons]
    have e : ((fun i => (b :: r).getD i false) ∘ Nat.succ) = fun i => r.getD i false := by funext i; rfl
    rw [e, ih]; rfl
theorem call_allL (hc : X.calm = true) : CallR X (.builtin "all") rAll := by
  intro pins s σ H xs us Q I r h
  obtain ⟨p, bs, rfl, hp, q⟩ := h
  obtain ⟨u, rfl, rx⟩ := vals1 r
  cases rx
  obtain ⟨its, n, rv, e, hz⟩ := I.lst hp
  have ei := vals_bl rv
  have hlt : p < s.heap.objs.size := Heap.lt_size e
  refine call_all_walk (wpAny_pyIter_list (items := its.toArray) ⟨_, e, rfl, n, rfl⟩ ?_)
  refine ⟨s.heap.objs.size, _, _, its.toArray.size, _, _, fun i => bs.getD i false, rfl, Walks.list (by first | exact I.ok.hd hc | (show X.A.handled = none; exact I.ok.hd hc)) _ p (Nat.ne_of_lt hlt) its.toArray, ⟨⟨_, Heap.get?_push_size _ rfl, rfl, rfl⟩, ⟨_, Heap.get?_push_of_some _ e, rfl, n, rfl⟩⟩, fun i v s' Q' E' hv hq => ?_, fun h' tk hk => ?_⟩
  · have hv' : its[i]? = some v := by simpa using hv
    rw [ei, List.getElem?_map] at hv'
    cases eb : bs[i]? with
    | none => rw [eb] at hv'; cases hv'
    | some b =>
      rw [eb] at hv'
      cases hv'
      have : bs.getD i false = b := by rw [List.getD_eq_getElem?_getD, eb]; rfl
      have hq' : Q' b s' := by rw [← this]; exact hq
      exact wpAny_truthy_bool hq'
  · have hl : its.toArray.size = bs.length := by rw [List.size_toArray, ei, List.length_map]
    rw [hl, all_range]
    exact ⟨.bl _, H, I.kept (fun b o z => hk b o (fun hm => by
      have : b = s.heap.objs.size := by simpa using hm
      subst this
      exact absurd (Heap.lt_size z) (Nat.lt_irrefl _)) (Heap.get?_push_of_some _ z)), rfl, q⟩
theorem allB_of : ∀ {ds : List D} {b : Bool}, allB ds = some b → ∃ bs : List Bool, ds = bs.map D.bl ∧ bs.all id = b
  | [], _, e => by cases e; exact ⟨[], rfl, rfl⟩
  | .bl c :: r, b, e => by
    obtain ⟨k, q, e⟩ := mpd e
    obtain ⟨bs, h1, h2⟩ := allB_of q
    exact ⟨c :: bs, by rw [h1]; rfl, by rw [List.all_cons, h2]; exact e⟩
  | .non :: _, _, e => by cases e
  | .int _ :: _, _, e => by cases e
  | .str _ :: _, _, e => by cases e
  | .lst _ :: _, _, e => by cases e
  | .tup _ :: _, _, e => by cases e
  | .scr _ :: _, _, e => by cases e
  | .exc _ :: _, _, e => by cases e
  | .dic _ _ :: _, _, e => by cases e
theorem reps_bl {K : PySem.W.Frag} {H : Hp} : ∀ {bs : List Bool} {vs : List V}, Reps K H (bs.map D.bl) vs → vs = bs.map V.bl
  | [], _, h => h
  | n :: r, _, ⟨v, vs, h1, h2, h3⟩ => by
    have := reps_bl h3
    have e : v = .bl n := h2
    rw [h1, this, e]; rfl
theorem cd_all {K : PySem.W.Frag} : CallD K rAll bAll := by
  intro G H ds vs d Q s e hv k
  match ds, e with
  | [.lst ds], e =>
    obtain ⟨b, q, e⟩ := mpd e
    subst e
    obtain ⟨bs, rfl, rfl⟩ := allB_of q
    obtain ⟨v, rfl, h⟩ := hv.one
    obtain ⟨p, us, rfl, h1, h2⟩ := h.lst s
    exact ⟨p, bs, rfl, by rw [h1, reps_bl h2], k _ G H (Ext.refl s) rfl⟩
end
inductive Ty where
  | non | bl | int | str | lst | tup | dic
def Ty.n : Ty → String
  | .non => "NoneType"
  | .bl => "bool"
  | .int => "int"
  | .str => "str"
  | .lst => "list"
  | .tup => "tuple"
  | .dic => "dict"
def tyD : D → Ty
  | .non => .non
  | .bl _ => .bl
  | .int _ => .int
  | .str _ => .str
  | .lst _ => .lst
  | .tup _ => .tup
  | .scr _ => .lst
  | .exc _ => .non
  | .dic _ _ => .non
def subT : Ty → Ty → Bool
  | .non, .non => true
  | .bl, .bl => true
  | .bl, .int => true
  | .int, .int => true
  | .str, .str => true
  | .lst, .lst => true
  | .tup, .tup => true
  | _, _ => false
def fIsi (c : Ty) (f : FD) : FE := fun ω => (f ω).bind fun d => match d with
  | .scr _ => none
  | .exc _ => none
  | .dic _ _ => none
  | d => some (.sh (.bl (subT (tyD d) c)))
def IsT (K : PySem.W.Frag) (c : Ty) : Prop := ∀ t : Ty, t ≠ .dic → PySem.W.kitOne K (.type t.n) (.type c.n) = some (subT t c)
def rIsi (K : PySem.W.Frag) : List V → Hp → VK → Prop := fun xs H Q => ∃ x c T b, xs = [x, .ty c] ∧ TyOf K H x (.type T) ∧ PySem.W.kitOne K (.type T) (.type c) = some b ∧ Q (.bl b) H
section
variable {X : Cx} {a : Expr} {f : FD}
theorem call_isi : CallR X (.builtin "isinstance") (rIsi X.K) := by
  intro pins s σ H xs us Q I r h
  obtain ⟨x, c, T, b, rfl, ty, e, q⟩ := h
  obtain ⟨u1, u2, rfl, r2, r3⟩ := vals2 r
  cases (show u2 = Value.type c from r3)
  exact isinst_ok I r2 ty e fun tk => ⟨.bl b, H, I.tok tk, rfl, q⟩
theorem tyOf_vw {K : PySem.W.Frag} {G H : Hp} {d : D} {v : V} (h : Vw K G H d v) (s : Same G H) (n : ∀ ns, d ≠ .scr ns) (n' : ∀ c, d ≠ .exc c) (n'' : ∀ ks ds, d ≠ .dic ks ds) : TyOf K H v (.type (tyD d).n) := by
  cases d with
  | non => cases h.non; exact .non
  | bl b => cases h.bl; exact .bl b
  | int i => cases h.int; exact .int i
  | str x => cases h.str; exact .str x
  | lst ds => obtain ⟨p, us, rfl, h1, _⟩ := h.lst s; exact .lst h1
  | tup ds => obtain ⟨p, us, rfl, h1, _⟩ := h.tup; exact .tup (s _ _ h1)
  | scr ns => exact absurd rfl (n ns)
  | exc c => exact absurd rfl (n' c)
  | dic ks ds => exact absurd rfl (n'' ks ds)
theorem tyD_in (d : D) : tyD d ≠ .dic := by cases d <;> exact fun z => nomatch z
theorem xe_isi {c : Ty} {x : Str} {p q pos : Pos} (ha : XV X a f) (hk : IsT X.K c) (hg : Gl X "isinstance") (hm : X.mg "isinstance" = none) (hgc : Gl X x) (hmc : X.mg x = none) (hvc : bootBuiltins x = some (.type c.n)) (hnx : x ≠ "__name__" := by decide) (hdx : (x == ("__debug__" : Str)) = false := by decide)
    (he : starEach [a, .Name x q] X.env = (false, eval a X.env) :: starEach [.Name x q] X.env := by rfl) (he2 : starEach [.Name x q] X.env = (false, eval (.Name x q) X.env) :: starEach [] X.env := by rfl) (hpl : (backTo pos (starEach [.Name x q] X.env)).any (·.1) = false := by rfl) :
    XE X (.Call (.Name "isinstance" p) [a, .Name x q] [] pos) (fIsi c f) := by
  obtain ⟨t, h1, h2⟩ := ha
  refine ⟨_, pe_callB call_isi hg hm PyProof.Rows.boot_isinstance (pa_cons h1 (pa_cons (pe_bltn hgc hmc hvc (v := .ty c.n) rfl hnx hdx) pa_nil he2) he) (by decide) (by decide) he hpl, fun G0 H0 G ω σ H r Q o e k => ?_⟩
  obtain ⟨d, q, e⟩ := bnd e
  refine h2 G0 H0 G ω σ H d _ o q fun v G1 H1 x1 y1 => ?_
  have n : ∀ ns, d ≠ .scr ns := fun ns z => by subst z; cases e
  have n' : ∀ c, d ≠ .exc c := fun ns z => by subst z; cases e
  have n'' : ∀ ks ds, d ≠ .dic ks ds := fun ks ds z => by subst z; cases e
  have e' : r = .sh (.bl (subT (tyD d) c)) := by
    cases d <;> first | (cases e; rfl) | cases e
  subst e'
  exact ⟨v, c.n, (tyD d).n, subT (tyD d) c, rfl, tyOf_vw y1 x1.gh n n' n'', hk _ (tyD_in d), k _ G1 H1 x1 rfl⟩
end
end Hk
set_option maxRecDepth 100000
namespace Hk
open PySem L2
inductive Out where
  | nx | bk | ct | rt (r : O)
abbrev FS := WSt → Option (Out × WSt)
def Post (K : PySem.W.Frag) (H0 G' : Hp) (E : Ends) : Out → St → Hp → Prop
  | .nx, σ, H => E.nx σ H
  | .bk, σ, H => E.bk σ H
  | .ct, σ, H => E.ct σ H
  | .rt r, _, H => ∀ v, RepR K H0 G' H r.r v → E.rt v H
def SimS (K : PySem.W.Frag) (t : TS) (f : FS) : Prop := ∀ G0 H0 G ω σ H out ω' (E : Ends), Own K G0 H0 G ω σ H → f ω = some (out, ω') →
  (∀ G' σ' H', Own K G0 H0 G' ω' σ' H' → Same G G' → Post K H0.hp G' E out σ' H') → t E σ H
def XS (X : Cx) (st : Stmt) (f : FS) : Prop := ∃ t, PS X st t ∧ SimS X.K t f
def XSs (X : Cx) (st : List Stmt) (f : FS) : Prop := ∃ t, PSs X st t ∧ SimS X.K t f
def sNil : FS := fun ω => some (.nx, ω)
def sSeq (f g : FS) : FS := fun ω => (f ω).bind fun p => match p.1 with
  | .nx => g p.2
  | o => some (o, p.2)
section
variable {X : Cx} {st : Stmt} {rest : List Stmt} {f g : FS}
theorem xss_nil : XSs X [] sNil := ⟨_, pss_nil, fun G0 H0 G ω σ H out ω' E o e k => by cases e; exact k G σ H o (Same.refl _)⟩
theorem xss_one (h : XS X st f) : XSs X [st] f := let ⟨t, h1, h2⟩ := h; ⟨t, pss_one h1, h2⟩
theorem xss_cons (h : XS X st f) (h' : XSs X rest g) : XSs X (st :: rest) (sSeq f g) := by
  obtain ⟨t, h1, h2⟩ := h
  obtain ⟨u, h3, h4⟩ := h'
  refine ⟨_, pss_cons h1 h3, fun G0 H0 G ω σ H out ω' E o e k => ?_⟩
  obtain ⟨⟨o1, ω1⟩, q, e⟩ := bnd e
  refine h2 G0 H0 G ω σ H o1 ω1 _ o q fun G1 σ1 H1 w1 g1 => ?_
  cases o1 with
  | nx => exact h4 G0 H0 G1 ω1 σ1 H1 out ω' E w1 e fun G2 σ2 H2 w2 g2 => k G2 σ2 H2 w2 (g1.trans g2)
  | bk => cases e; exact k G1 σ1 H1 w1 g1
  | ct => cases e; exact k G1 σ1 H1 w1 g1
  | rt r => cases e; exact k G1 σ1 H1 w1 g1
end
section
variable {K : PySem.W.Frag} {G0 : Hp} {H0 : Fr} {G : Hp} {ω : WSt} {σ : St} {H : Hp}
theorem get_set {α : Type} {l : List α} {i j : Nat} {x y : α} (h : (l.set i x)[j]? = some y) : (i = j ∧ i < l.length ∧ y = x) ∨ (i ≠ j ∧ l[j]? = some y) := by
  rw [List.getElem?_set] at h
  by_cases e : i = j
  · rw [if_pos e] at h
    by_cases z : i < l.length
    · rw [if_pos z] at h; exact .inl ⟨e, z, (Option.some.inj h).symm⟩
    · rw [if_neg z] at h; cases h
  · rw [if_neg e] at h; exact .inr ⟨e, h⟩
theorem set_self {α : Type} {l : List α} {i : Nat} {x : α} (h : i < l.length) : (l.set i x)[i]? = some x := List.getElem?_set_self h
theorem PwOk.set {i : Nat} {w : Option W} {v : Option V} (o : PwOk K H0 G ω σ H) (hw : ∀ ds, w ≠ some (.pw ds)) (hv : ∀ ds, w = some (.ow ds) → ∀ (j : Nat) es, ω[j]? = some (some (.pw es)) → v ≠ some (.ref (H0.pin j))) : PwOk K H0 G (ω.set i w) (σ.set i v) H := by
  intro j ds hj
  rcases get_set hj with ⟨rfl, hl, z⟩ | ⟨ne, z⟩
  · exact absurd z.symm (hw ds)
  · obtain ⟨vs, h1, h2, h3, h4, h5, h6, h7⟩ := o j ds z
    refine ⟨vs, by rw [List.getElem?_set_ne ne]; exact h1, h2, h3, h4, h5, fun k es hk => ?_, fun k es hk sk => ?_⟩
    · rcases get_set hk with ⟨rfl, hl', z'⟩ | ⟨ne', z'⟩
      · exact absurd z'.symm (hw es)
      · exact h6 k es z'
    · rcases get_set hk with ⟨rfl, hl', z'⟩ | ⟨ne', z'⟩
      · rcases get_set sk with ⟨_, _, e⟩ | ⟨ne2, _⟩
        · exact hv es z'.symm j ds z e.symm
        · exact ne2 rfl
      · rw [List.getElem?_set_ne ne'] at sk; exact h7 k es z' sk
theorem PwOk.setW {i : Nat} {w : Option W} (o : PwOk K H0 G ω σ H) (hw : ∀ ds, w ≠ some (.pw ds)) (ho : ∀ ds, w ≠ some (.ow ds)) : PwOk K H0 G (ω.set i w) σ H := by
  intro j ds hj
  rcases get_set hj with ⟨rfl, hl, z⟩ | ⟨ne, z⟩
  · exact absurd z.symm (hw ds)
  · obtain ⟨vs, h1, h2, h3, h4, h5, h6, h7⟩ := o j ds z
    refine ⟨vs, h1, h2, h3, h4, h5, fun k es hk => ?_, fun k es hk => ?_⟩
    · rcases get_set hk with ⟨rfl, hl', z'⟩ | ⟨ne', z'⟩
      · exact absurd z'.symm (hw es)
      · exact h6 k es z'
    · rcases get_set hk with ⟨rfl, hl', z'⟩ | ⟨ne', z'⟩
      · exact absurd z'.symm (ho es)
      · exact h7 k es z'
theorem PwOk.upd {p : Addr} {ob : HO} (o : PwOk K H0 G ω σ H) (hp : ∀ (j : Nat) es, ω[j]? = some (some (.pw es)) → H0.pin j ≠ p) : PwOk K H0 G ω σ (upd H p ob) := by
  intro j ds hj
  obtain ⟨vs, h1, h2, h3⟩ := o j ds hj
  exact ⟨vs, h1, by rw [upd_ne (hp j ds hj)]; exact h2, h3⟩
theorem PwOk.grow {p : Addr} {ob : HO} (o : PwOk K H0 G ω σ H) (g : G p = none) (hp : ∀ (j : Nat) es, ω[j]? = some (some (.pw es)) → H0.pin j ≠ p) : PwOk K H0 (L2.upd G p ob) ω σ H := by
  intro j ds hj
  obtain ⟨vs, h1, h2, h3, h4, h5, h6⟩ := o j ds hj
  exact ⟨vs, h1, h2, by rw [upd_ne (hp j ds hj)]; exact h3, h4, h5.mono (same_upd g _), h6⟩
theorem PwOk.ne_ow {i : Nat} {ds : List D} {l : Addr} (o : PwOk K H0 G ω σ H) (hi : ω[i]? = some (some (.ow ds))) (hσ : σ[i]? = some (some (.ref l))) : ∀ (j : Nat) es, ω[j]? = some (some (.pw es)) → H0.pin j ≠ l := fun j es hj y => by
  obtain ⟨_, _, _, _, _, _, _, h7⟩ := o j es hj
  exact h7 i ds hi (by rw [y]; exact hσ)
theorem PwOk.ne_ob {l : Addr} (o : PwOk K H0 G ω σ H) (h : ∀ vs, H l ≠ some (.lst vs)) : ∀ (j : Nat) es, ω[j]? = some (some (.pw es)) → H0.pin j ≠ l := fun j es hj y => by
  obtain ⟨vs, _, h2, _⟩ := o j es hj
  exact h vs (by rw [← y]; exact h2)
theorem PwOk.setL {i : Nat} {ds es : List D} (o : PwOk K H0 G ω σ H) (hi : ω[i]? = some (some (.ow ds))) : PwOk K H0 G (ω.set i (some (.ow es))) σ H := by
  intro j ds' hj
  rcases get_set hj with ⟨rfl, hl, z⟩ | ⟨ne, z⟩
  · cases z
  · obtain ⟨vs, h1, h2, h3, h4, h5, h6, h7⟩ := o j ds' z
    refine ⟨vs, h1, h2, h3, h4, h5, fun k es hk => ?_, fun k es hk => ?_⟩
    · rcases get_set hk with ⟨rfl, hl', z'⟩ | ⟨ne', z'⟩
      · cases z'
      · exact h6 k es z'
    · rcases get_set hk with ⟨rfl, hl', z'⟩ | ⟨ne', z'⟩
      · exact h7 i ds hi
      · exact h7 k es z'
theorem Own.od_set {i : Nat} {w : Option W} {v : Option V} (o : Own K G0 H0 G ω σ H) (h : ∀ ks ds, w ≠ some (.od ks ds)) : ∀ (j : Nat) ks ds, (ω.set i w)[j]? = some (some (.od ks ds)) → ∃ p vs, (σ.set i v)[j]? = some (some (.ref p)) ∧ H p = some (.dK (kvsOf ks vs)) ∧ G p = none ∧ H0 p = none ∧ ks.length = ds.length ∧ Reps K G ds vs ∧
    ∀ (k : Nat) ks' es, (ω.set i w)[k]? = some (some (.od ks' es)) → (σ.set i v)[k]? = some (some (.ref p)) → j = k := by
  intro j ks ds hj
  rcases get_set hj with ⟨rfl, hl, z⟩ | ⟨ne, z⟩
  · exact absurd z.symm (h ks ds)
  · obtain ⟨p, vs, h1, h2, h3, h4, h5, h6, h7⟩ := o.od j ks ds z
    refine ⟨p, vs, by rw [List.getElem?_set_ne ne]; exact h1, h2, h3, h4, h5, h6, fun k ks' es hk sk => ?_⟩
    rcases get_set hk with ⟨rfl, hl', z'⟩ | ⟨ne', z'⟩
    · exact absurd z'.symm (h ks' es)
    · rw [List.getElem?_set_ne ne'] at sk
      exact h7 k ks' es z' sk
theorem Own.setSh {i : Nat} {d : D} {v : V} (o : Own K G0 H0 G ω σ H) (h : Rep K G d v) : Own K G0 H0 G (ω.set i (some (.sh d))) (σ.set i (some v)) H := by
  refine ⟨o.ext, by rw [List.length_set, List.length_set, o.len], fun j e hj => ?_, fun j ds hj => ?_, fun j k ds es l hj hk sj sk => ?_, o.od_set (fun _ _ z => by cases z), o.pw.set (fun _ z => by cases z) (fun _ z => by cases z)⟩
  · rcases get_set hj with ⟨rfl, hl, z⟩ | ⟨ne, z⟩
    · cases z; exact ⟨v, set_self (by rw [← o.len]; exact hl), h⟩
    · obtain ⟨u, h1, h2⟩ := o.sh j e z
      exact ⟨u, by rw [List.getElem?_set_ne ne]; exact h1, h2⟩
  · rcases get_set hj with ⟨rfl, hl, z⟩ | ⟨ne, z⟩
    · cases z
    · obtain ⟨l, vs, h1, h2⟩ := o.ow j ds z
      exact ⟨l, vs, by rw [List.getElem?_set_ne ne]; exact h1, h2⟩
  · rcases get_set hj with ⟨rfl, hl, z⟩ | ⟨ne, z⟩
    · cases z
    · rcases get_set hk with ⟨rfl, hl', z'⟩ | ⟨ne', z'⟩
      · cases z'
      · rw [List.getElem?_set_ne ne] at sj
        rw [List.getElem?_set_ne ne'] at sk
        exact o.nd j k ds es l z z' sj sk
theorem Own.setOw {i : Nat} {ds : List D} {l : Addr} {vs : List V} (o : Own K G0 H0 G ω σ H) (h1 : H l = some (.lst vs)) (h2 : G l = none) (h3 : H0 l = none) (h4 : Reps K G ds vs)
    (h5 : ∀ (j : Nat) es, ω[j]? = some (some (.ow es)) → σ[j]? ≠ some (some (.ref l))) (h6 : ∀ (j : Nat) es, ω[j]? = some (some (.pw es)) → H0.pin j ≠ l) : Own K G0 H0 G (ω.set i (some (.ow ds))) (σ.set i (some (.ref l))) H := by
  refine ⟨o.ext, by rw [List.length_set, List.length_set, o.len], fun j e hj => ?_, fun j es hj => ?_, fun j k es fs m hj hk sj sk => ?_, o.od_set (fun _ _ z => by cases z), o.pw.set (fun _ z => by cases z) (fun _ _ j es hj y => h6 j es hj (by cases y; rfl))⟩
  · rcases get_set hj with ⟨rfl, hl, z⟩ | ⟨ne, z⟩
    · cases z
    · obtain ⟨u, q1, q2⟩ := o.sh j e z
      exact ⟨u, by rw [List.getElem?_set_ne ne]; exact q1, q2⟩
  · rcases get_set hj with ⟨rfl, hl, z⟩ | ⟨ne, z⟩
    · cases z; exact ⟨l, vs, set_self (by rw [← o.len]; exact hl), h1, h2, h3, h4⟩
    · obtain ⟨m, us, q1, q2⟩ := o.ow j es z
      exact ⟨m, us, by rw [List.getElem?_set_ne ne]; exact q1, q2⟩
  · rcases get_set hj with ⟨e1, hl, z⟩ | ⟨ne, z⟩
    · rcases get_set hk with ⟨e2, hl', z'⟩ | ⟨ne', z'⟩
      · exact e1.symm.trans e2
      · rw [List.getElem?_set_ne ne'] at sk
        subst e1
        rw [set_self (by rw [← o.len]; exact hl)] at sj
        cases sj
        exact absurd sk (h5 k fs z')
    · rcases get_set hk with ⟨e2, hl', z'⟩ | ⟨ne', z'⟩
      · rw [List.getElem?_set_ne ne] at sj
        subst e2
        rw [set_self (by rw [← o.len]; exact hl')] at sk
        cases sk
        exact absurd sj (h5 j es z)
      · rw [List.getElem?_set_ne ne] at sj
        rw [List.getElem?_set_ne ne'] at sk
        exact o.nd j k es fs m z z' sj sk
theorem Own.mut {i : Nat} {ds es : List D} {l : Addr} {vs us : List V} (o : Own K G0 H0 G ω σ H) (hi : ω[i]? = some (some (.ow ds))) (hσ : σ[i]? = some (some (.ref l))) (h1 : H l = some (.lst vs)) (h2 : G l = none) (h3 : H0 l = none) (h4 : Reps K G es us) :
    Own K G0 H0 G (ω.set i (some (.ow es))) σ (upd H l (.lst us)) := by
  have ho : i < ω.length := (List.getElem?_eq_some_iff.mp hi).1
  refine ⟨⟨o.ext.gg, same_updR o.ext.gh h2 _, same_updR o.ext.hh h3 _, o.ext.new⟩, by rw [List.length_set, o.len], fun j e hj => ?_, fun j fs hj => ?_, fun j k fs gs m hj hk sj sk => ?_, fun j ks fs hj => ?_, (o.pw.upd (o.pw.ne_ow hi hσ)).setL hi⟩
  · rcases get_set hj with ⟨rfl, hl, z⟩ | ⟨ne, z⟩
    · cases z
    · exact o.sh j e z
  · rcases get_set hj with ⟨rfl, hl, z⟩ | ⟨ne, z⟩
    · cases z; exact ⟨l, us, hσ, upd_same, h2, h3, h4⟩
    · obtain ⟨m, ws, q1, q2, q3, q4, q5⟩ := o.ow j fs z
      have hm : m ≠ l := fun y => ne (o.nd i j ds fs l hi z hσ (by rw [← y]; exact q1))
      exact ⟨m, ws, q1, by rw [upd_ne hm]; exact q2, q3, q4, q5⟩
  · rcases get_set hj with ⟨e1, hl, z⟩ | ⟨ne, z⟩
    · rcases get_set hk with ⟨e2, hl', z'⟩ | ⟨ne', z'⟩
      · exact e1.symm.trans e2
      · subst e1; exact o.nd i k ds gs m hi z' sj sk
    · rcases get_set hk with ⟨e2, hl', z'⟩ | ⟨ne', z'⟩
      · subst e2; exact o.nd j i fs ds m z hi sj sk
      · exact o.nd j k fs gs m z z' sj sk
  · rcases get_set hj with ⟨e1, hl, z⟩ | ⟨ne, z⟩
    · cases z
    · obtain ⟨p, ws, q1, q2, q3, q4, q5, q6, q7⟩ := o.od j ks fs z
      have hp : p ≠ l := fun y => by rw [y, h1] at q2; cases q2
      refine ⟨p, ws, q1, by rw [upd_ne hp]; exact q2, q3, q4, q5, q6, fun k ks' es hk sk => ?_⟩
      rcases get_set hk with ⟨e2, hl', z'⟩ | ⟨ne', z'⟩
      · cases z'
      · exact q7 k ks' es z' sk
def share (i : Nat) (ω : WSt) : WSt := match ω[i]? with
  | some (some (.ow ds)) => ω.set i (some (.sh (.lst ds)))
  | some (some (.od ks ds)) => ω.set i (some (.sh (.dic ks ds)))
  | _ => ω
theorem Own.share (i : Nat) (o : Own K G0 H0 G ω σ H) : (∃ G', Same G G' ∧ Own K G0 H0 G' (share i ω) σ H) ∨ ∃ p kvs, σ[i]? = some (some (.ref p)) ∧ H p = some (.dK kvs) ∧ ∀ ob, ∃ G', Same G G' ∧ Own K G0 H0 G' (share i ω) σ (upd H p (.frz ob (.dK kvs))) := by
  unfold Hk.share
  cases q : ω[i]? with
  | none => exact .inl ⟨G, Same.refl _, o⟩
  | some w =>
    cases w with
    | none => exact .inl ⟨G, Same.refl _, o⟩
    | some w =>
      cases w with
      | sh d => exact .inl ⟨G, Same.refl _, o⟩
      | pw ds => exact .inl ⟨G, Same.refl _, o⟩
      | ow ds =>
        obtain ⟨l, vs, q1, q2, q3, q4, q5⟩ := o.ow i ds q
        have s1 : Same G (upd G l (.lst vs)) := same_upd q3 _
        have ho : i < ω.length := (List.getElem?_eq_some_iff.mp q).1
        refine .inl ⟨upd G l (.lst vs), s1, ⟨o.ext.gg.trans s1, fun b u z => ?_, o.ext.hh, fun b z1 z2 => ?_⟩, by rw [List.length_set, o.len], fun j e hj => ?_, fun j fs hj => ?_, fun j k fs gs m hj hk sj sk => ?_, fun j ks fs hj => ?_, (o.pw.grow q3 (o.pw.ne_ow q q1)).setW (fun _ z => by cases z) (fun _ z => by cases z)⟩
        · by_cases hb : b = l
          · subst hb; rw [upd_same] at z; rw [q2]; exact z
          · rw [upd_ne hb] at z; exact o.ext.gh b u z
        · rw [upd_ne (fun hb => z2 (by rw [hb]; exact q4))]; exact o.ext.new b z1 z2
        · rcases get_set hj with ⟨rfl, hl, z⟩ | ⟨ne, z⟩
          · cases z; exact ⟨_, q1, l, vs, rfl, upd_same, q5.mono s1⟩
          · obtain ⟨u, r1, r2⟩ := o.sh j e z
            exact ⟨u, r1, r2.mono s1⟩
        · rcases get_set hj with ⟨rfl, hl, z⟩ | ⟨ne, z⟩
          · cases z
          · obtain ⟨m, ws, r1, r2, r3, r4, r5⟩ := o.ow j fs z
            have hm : m ≠ l := fun y => ne (o.nd i j ds fs l q z q1 (by rw [← y]; exact r1))
            exact ⟨m, ws, r1, r2, by rw [upd_ne hm]; exact r3, r4, r5.mono s1⟩
        · rcases get_set hj with ⟨e1, hl, z⟩ | ⟨ne, z⟩
          · cases z
          · rcases get_set hk with ⟨e2, hl', z'⟩ | ⟨ne', z'⟩
            · cases z'
            · exact o.nd j k fs gs m z z' sj sk
        · rcases get_set hj with ⟨e1, hl, z⟩ | ⟨ne, z⟩
          · cases z
          · obtain ⟨m, ws, r1, r2, r3, r4, r5, r6, r7⟩ := o.od j ks fs z
            have hm : m ≠ l := fun y => by rw [y, q2] at r2; cases r2
            refine ⟨m, ws, r1, r2, by rw [upd_ne hm]; exact r3, r4, r5, r6.mono s1, fun k ks' es hk sk => ?_⟩
            rcases get_set hk with ⟨e2, hl', z'⟩ | ⟨ne', z'⟩
            · cases z'
            · exact r7 k ks' es z' sk
      | od ks0 ds =>
        obtain ⟨l, vs, q1, q2, q3, q4, q6, q5, q7⟩ := o.od i ks0 ds q
        refine .inr ⟨l, _, q1, q2, fun ob => ?_⟩
        have s1 : Same G (upd G l (.frz ob (.dK (kvsOf ks0 vs)))) := same_upd q3 _
        have ho : i < ω.length := (List.getElem?_eq_some_iff.mp q).1
        refine ⟨upd G l (.frz ob (.dK (kvsOf ks0 vs))), s1, ⟨o.ext.gg.trans s1, same_upd2 o.ext.gh _, same_updR o.ext.hh q4 _, fun b z1 z2 => ?_⟩, by rw [List.length_set, o.len], fun j e hj => ?_, fun j fs hj => ?_, fun j k fs gs m hj hk sj sk => ?_, fun j ks fs hj => ?_, ((o.pw.upd (o.pw.ne_ob fun vs z => by rw [q2] at z; cases z)).grow q3 (o.pw.ne_ob fun vs z => by rw [q2] at z; cases z)).setW (fun _ z => by cases z) (fun _ z => by cases z)⟩
        · rw [upd_ne (fun hb => z2 (by rw [hb]; exact q4))]; exact o.ext.new b z1 z2
        · rcases get_set hj with ⟨rfl, hl, z⟩ | ⟨ne, z⟩
          · cases z; exact ⟨_, q1, l, vs, rfl, ⟨ob, upd_same⟩, q6, q5.mono s1⟩
          · obtain ⟨u, r1, r2⟩ := o.sh j e z
            exact ⟨u, r1, r2.mono s1⟩
        · rcases get_set hj with ⟨rfl, hl, z⟩ | ⟨ne, z⟩
          · cases z
          · obtain ⟨m, ws, r1, r2, r3, r4, r5⟩ := o.ow j fs z
            have hm : m ≠ l := fun y => by rw [y, q2] at r2; cases r2
            exact ⟨m, ws, r1, by rw [upd_ne hm]; exact r2, by rw [upd_ne hm]; exact r3, r4, r5.mono s1⟩
        · rcases get_set hj with ⟨e1, hl, z⟩ | ⟨ne, z⟩
          · cases z
          · rcases get_set hk with ⟨e2, hl', z'⟩ | ⟨ne', z'⟩
            · cases z'
            · exact o.nd j k fs gs m z z' sj sk
        · rcases get_set hj with ⟨e1, hl, z⟩ | ⟨ne, z⟩
          · cases z
          · obtain ⟨m, ws, r1, r2, r3, r4, r5, r6, r7⟩ := o.od j ks fs z
            have hm : m ≠ l := fun y => ne (q7 j ks fs z (by rw [← y]; exact r1))
            refine ⟨m, ws, r1, by rw [upd_ne hm]; exact r2, by rw [upd_ne hm]; exact r3, r4, r5, r6.mono s1, fun k ks' es hk sk => ?_⟩
            rcases get_set hk with ⟨e2, hl', z'⟩ | ⟨ne', z'⟩
            · cases z'
            · exact r7 k ks' es z' sk
end
theorem Inv.freeze {X : Cx} {pins : List (Addr × Obj)} {σ : St} {H : Hp} {s : Shared} {p : Addr} {kvs : List (Key × V)} (I : Inv X pins σ H s) (hp : H p = some (.dK kvs)) : ∃ ob, Inv X pins σ (upd H p (.frz ob (.dK kvs))) s := by
  have ok := I.hok p _ hp
  obtain ⟨_, _, _, _, ob, _, _, e, _⟩ := id ok
  have stay : ∀ b u, ObjOk X.prog X.w H s.heap b u → ObjOk X.prog X.w (upd H p (.frz ob (.dK kvs))) s.heap b u := fun b u x =>
    x.stay (fun _ _ _ q => q) (fun c q => by rw [upd_ne (fun z => by rw [z, hp] at q; cases q)]; exact q) fun c xs q => by rw [upd_ne (fun z => by rw [z, hp] at q; cases q)]; exact q
  refine ⟨ob, I.step (H' := upd H p (.frz ob (.dK kvs))) (h' := s.heap) (g' := s.gens) (d' := s.drawn) (t' := s.toks) (ch := []) (fun _ z => nomatch z) (fun _ _ _ _ _ e _ => e) (fun _ o _ _ _ e _ => ⟨o.slots, e⟩) (fun b o _ _ n => by rw [upd_ne (fun z => by rw [z, hp] at n; cases n)]; exact n) (fun _ o _ e => ⟨o, e⟩)
    (fun b xs q => by rw [upd_ne (fun z => by rw [z, hp] at q; cases q)]; exact q) (fun b o u q => by rw [upd_ne (fun z => by rw [z, hp] at q; cases q)]; exact q) (fun b ps q => ⟨#[], by rw [upd_ne (fun z => by rw [z, hp] at q; cases q), q]; simp⟩) (fun _ hm => hm) (fun b u q => ?_) I.bare⟩
  by_cases z : b = p
  · subst z
    rw [upd_same] at q
    cases q
    exact ⟨e, stay _ _ ok⟩
  · rw [upd_ne z] at q
    exact stay b u (I.hok b u q)
theorem pss_freeze {X : Cx} {sts : List Stmt} {t : TS} (i : Nat) (h : PSs X sts t) : PSs X sts (fun D σ H => ∃ p kvs, σ[i]? = some (some (.ref p)) ∧ H p = some (.dK kvs) ∧ ∀ ob, t D σ (upd H p (.frz ob (.dK kvs)))) := by
  intro pins s σ H D I q
  obtain ⟨p, kvs, _, hp, q⟩ := q
  obtain ⟨ob, I'⟩ := Inv.freeze I hp
  exact h pins s σ _ D I' (q ob)
def sShare (i : Nat) (f : FS) : FS := fun ω => f (share i ω)
theorem xss_share {X : Cx} {sts : List Stmt} {f : FS} (i : Nat) (h : XSs X sts f) : XSs X sts (sShare i f) := by
  obtain ⟨t, h1, h2⟩ := h
  refine ⟨fun D σ H => t D σ H ∨ ∃ p kvs, σ[i]? = some (some (.ref p)) ∧ H p = some (.dK kvs) ∧ ∀ ob, t D σ (upd H p (.frz ob (.dK kvs))), fun pins s σ H D I q => ?_, fun G0 H0 G ω σ H out ω' E o e k => ?_⟩
  · rcases q with q | q
    · exact h1 pins s σ H D I q
    · exact pss_freeze i h1 pins s σ H D I q
  · rcases o.share i with ⟨G1, g1, o1⟩ | ⟨p, kvs, z1, z2, z3⟩
    · exact .inl (h2 G0 H0 G1 _ σ H out ω' E o1 e fun G2 σ2 H2 w2 g2 => k G2 σ2 H2 w2 (g1.trans g2))
    · refine .inr ⟨p, kvs, z1, z2, fun ob => ?_⟩
      obtain ⟨G1, g1, o1⟩ := z3 ob
      exact h2 G0 H0 G1 _ σ _ out ω' E o1 e fun G2 σ2 H2 w2 g2 => k G2 σ2 H2 w2 (g1.trans g2)
def setR (i : Nat) (r : R) (ω : WSt) : Option WSt := match r with
  | .sh d => some (ω.set i (some (.sh d)))
  | .fr ds => some (ω.set i (some (.ow ds)))
  | .vw _ => none
def sSet (i : Nat) (f : FE) : FS := fun ω => (f ω).bind fun r => (setR i r ω).map fun w => (.nx, w)
section
variable {X : Cx} {e : Expr} {f : FE} {pos pos' : Pos}
theorem sim_set {i : Nat} {t : TE} (h : SimE X.K t f) : SimS X.K (tAsg t (gName i)) (sSet i f) := by
  intro G0 H0 G ω σ H out ω' E o e k
  obtain ⟨r, q, e⟩ := bnd e
  obtain ⟨w, q2, e⟩ := mpd e
  cases e
  refine h G0 H0 G ω σ H r _ o q fun v G1 H1 x1 y1 => ?_
  have o1 := o.keep x1
  show E.nx (σ.set i (some v)) H1
  cases r with
  | sh d => cases q2; exact k G1 _ H1 (o1.setSh y1) x1.gg
  | fr ds =>
    cases q2
    obtain ⟨l, vs, rfl, e2, e3, e4, e5⟩ := y1
    refine k G1 _ H1 (o1.setOw e4 e3 (o.ext.hh.free e2) e5 (fun j es hj z => ?_) fun j es hj y => ?_) x1.gg
    · obtain ⟨m, us, q1, q2, _⟩ := o.ow j es hj
      rw [q1] at z
      cases z
      rw [e2] at q2
      cases q2
    · obtain ⟨us, _, q2, _⟩ := o.pw j es hj
      rw [y, e2] at q2
      cases q2
  | vw ds => cases q2
theorem xs_set {i : Nat} {x : Str} (hN : X.N.Nodup) (hi : X.N[i]? = some x) (hx : Loc X.env.scope x) (he : XE X e f) (hs : swapsWith e (some (.Name x pos')) pos.line X.env = pure false := by rfl) (hf : X.fn x = true ∨ X.env.scope.names.lookup x = some .local := by first | exact .inl rfl | exact .inr rfl | assumption) :
    XS X (.Assign [.Name x pos'] e pos) (sSet i f) := let ⟨_, h1, h2⟩ := he; ⟨_, ps_set hN hi hx h1 hs hf, sim_set h2⟩
abbrev FG := D → WSt → Option WSt
def SimG (K : PySem.W.Frag) (g : TG) (fg : FG) : Prop := ∀ G0 H0 G ω σ H d v ω' (Q : St → Hp → Prop), Own K G0 H0 G ω σ H → fg d ω = some ω' → Rep K G d v → (∀ σ', Own K G0 H0 G ω' σ' H → Q σ' H) → g v σ H Q
def XG (X : Cx) (tg : Expr) (fg : FG) : Prop := ∃ g, PG X tg g ∧ SimG X.K g fg
def gN (i : Nat) : FG := fun d ω => some (ω.set i (some (.sh d)))
theorem xg_name {i : Nat} {x : Str} (hN : X.N.Nodup) (hi : X.N[i]? = some x) (hx : Loc X.env.scope x) (hf : X.fn x = true ∨ X.env.scope.names.lookup x = some .local := by first | exact .inl rfl | exact .inr rfl | assumption) : XG X (.Name x pos) (gN i) :=
  ⟨_, pg_name hN hi hx hf, fun G0 H0 G ω σ H d v ω' Q o e h k => by cases e; exact k _ (o.setSh h)⟩
end
def sIf (c : FT) (f g : FS) : FS := fun ω => (c ω).bind fun b => if b = true then f ω else g ω
def sRet (f : FE) : FS := fun ω => (f ω).bind fun r => match r with
  | .sh d => some (.rt (.sh d), ω)
  | .fr ds => some (.rt (.fr ds), ω)
  | .vw _ => none
def sNo : FS := fun _ => none
section
variable {X : Cx} {c e : Expr} {a b : List Stmt} {st : Stmt} {pos : Pos} {fc : FT} {f g : FS} {fe : FE}
theorem xs_if (hc : XT X c fc) (ha : XSs X a f) (hb : XSs X b g) : XS X (.If c a b pos) (sIf fc f g) := by
  obtain ⟨t, h1, h2⟩ := hc
  obtain ⟨u, h3, h4⟩ := ha
  obtain ⟨w, h5, h6⟩ := hb
  refine ⟨_, ps_if h1 h3 h5, fun G0 H0 G ω σ H out ω' E o e k => ?_⟩
  obtain ⟨z, q, e⟩ := bnd e
  refine h2 G0 H0 G ω σ H z _ o q fun G1 H1 x1 => ?_
  cases z with
  | true => rw [if_pos rfl] at e ⊢; exact h4 G0 H0 G1 ω σ H1 out ω' E (o.keep x1) e fun G2 σ2 H2 o2 g2 => k G2 σ2 H2 o2 (x1.gg.trans g2)
  | false => exact h6 G0 H0 G1 ω σ H1 out ω' E (o.keep x1) e fun G2 σ2 H2 o2 g2 => k G2 σ2 H2 o2 (x1.gg.trans g2)
theorem xs_ret (he : XE X e fe) : XS X (.Return (some e) pos) (sRet fe) := by
  obtain ⟨t, h1, h2⟩ := he
  refine ⟨_, ps_ret h1, fun G0 H0 G ω σ H out ω' E o e k => ?_⟩
  obtain ⟨r, q, e⟩ := bnd e
  refine h2 G0 H0 G ω σ H r _ o q fun v G1 H1 x1 y1 => ?_
  cases r with
  | sh d => cases e; exact k G1 σ H1 (o.keep x1) x1.gg v y1
  | fr ds =>
    cases e
    obtain ⟨l, vs, e1, e2, e3⟩ := y1
    exact k G1 σ H1 (o.keep x1) x1.gg v ⟨l, vs, e1, o.ext.hh.free e2, e3⟩
  | vw ds => cases e
theorem xs_no : XS X st sNo := ⟨_, ps_never, fun G0 H0 G ω σ H out ω' E o e k => by cases e⟩
def sApp (i : Nat) (f : FD) : FS := fun ω => (f ω).bind fun d => match ω[i]? with
  | some (some (.ow ds)) => if ds.length < 1000000 then some (.nx, ω.set i (some (.ow (ds ++ [d])))) else none
  | _ => none
theorem xs_app {i : Nat} {o e : Expr} {fd : FD} {apos cpos : Pos} (ho : PE X o (tVar i)) (he : XD X e fd)
    (hbase : attributeBase o "append" X.env (eval o X.env) = eval o X.env := by rfl)
    (hfew : ((backTo cpos (starEach [e] X.env)).all (fun x => !x.1) && (backToKw cpos (keywordEach [] X.env)).all (fun x => x.1.isSome)
      && decide (([e] : List Expr).length + ([] : List Keyword).length + (if ([] : List Keyword).isEmpty then 0 else 1) < 30)) = true := by rfl)
    (hline : (apos.endLine == cpos.line) = true := by rfl) (hs : starEach [e] X.env = (false, eval e X.env) :: starEach [] X.env := by rfl) (hplain : (backTo cpos (starEach [] X.env)).any (·.1) = false := by rfl)
    (hsw : swapsWith (.Call (.Attribute o "append" apos) [e] [] cpos) none pos.line X.env = pure false := by rfl) :
    XS X (.Expr (.Call (.Attribute o "append" apos) [e] [] cpos) pos) (sApp i fd) := by
  obtain ⟨t, h1, h2⟩ := he
  refine ⟨_, ps_expr (pe_bm PySem.F.plainAttrs_list PySem.F.slot_list_append PySem.F.type_list_append mt_append ho (pa_cons h1 pa_nil hs) hbase hfew hline hs hplain) hsw, fun G0 H0 G ω σ H out ω' E ow e k => ?_⟩
  obtain ⟨d, q, e⟩ := bnd e
  cases q2 : ω[i]? with
  | none => rw [q2] at e; cases e
  | some w =>
    rw [q2] at e
    cases w with
    | none => cases e
    | some w =>
      cases w with
      | sh d => cases e
      | od ks ds => cases e
      | pw ds => cases e
      | ow ds =>
        dsimp only at e
        by_cases z : ds.length < 1000000
        · rw [if_pos z] at e
          cases e
          obtain ⟨l, vs, r1, r2, r3, r4, r5⟩ := ow.ow i ds q2
          refine ⟨.ref l, r1, .inl ⟨rfl, vs, SqL.of r2⟩, h2 G0 H0 G ω σ H d _ ow q fun v G1 H1 x1 y1 => ?_⟩
          have o1 := ow.keep x1
          have hz : vs.length < sizeLine := by rw [← r5.len, sizeLine_eq]; omega
          refine ⟨l, vs, v, rfl, rfl, x1.hh _ _ r2, hz, ?_⟩
          exact k G1 σ _ (o1.mut q2 r1 (x1.hh _ _ r2) (x1.new l r3 (by rw [r2]; exact fun z => by cases z)) r4 ((r5.mono x1.gg).app (Reps.cons y1 Reps.nil))) x1.gg
        · rw [if_neg z] at e; cases e
end
end Hk
set_option maxRecDepth 100000
namespace PySem
open AutoSeq1 MeetsSeq MeetsSeq2 MeetsSeq3
end PySem
namespace Hk
open PySem L2
section
variable {X : Cx} {pos : Pos}
def itemsOf : D → Option (List D)
  | .lst ds => some ds
  | .tup ds => some ds
  | _ => none
end
structure IterOf (K : PySem.W.Frag) (J : It) (G : Hp) (ds : List D) : Prop where
  go : ∀ H i, Same G H → i < ds.length → J.go i H
  yld : ∀ G2 H i x H' d, Same G G2 → Same G2 H → ds[i]? = some d → J.yld i H x H' → ∃ G3, Ext G2 H G3 H' ∧ Rep K G3 d x
  stop : ∀ H, Same G H → J.stop ds.length H
abbrev FI := WSt → Option (List D)
def SimI (K : PySem.W.Frag) (wi : TI) (f : FI) : Prop := ∀ G0 H0 G ω σ H ds (R : It → Hp → Prop), Own K G0 H0 G ω σ H → f ω = some ds → (∀ J G' H', Ext G H G' H' → IterOf K J G' ds → R J H') → wi σ H R
def XI (X : Cx) (tg iter : Expr) (f : FI) : Prop := ∃ wi, PI X tg iter wi ∧ SimI X.K wi f
section
variable {X : Cx} {tg e : Expr}
theorem iter_lst {K : PySem.W.Frag} {G : Hp} {a : Addr} {ds : List D} {vs : List V} (h1 : G a = some (.lst vs)) (h2 : Reps K G ds vs) : IterOf K (Itl K a) G ds := by
  refine ⟨fun H i s hi => ?_, fun G2 H i x H' d s0 s1 hd hy => ?_, fun H s => ⟨vs, SqL.of (s _ _ h1), by rw [h2.len]; exact Nat.le_refl _⟩⟩
  · have : i < vs.length := by rw [← h2.len]; exact hi
    exact ⟨vs, vs[i], SqL.of (s _ _ h1), List.getElem?_eq_getElem this⟩
  · obtain ⟨e, y⟩ := hy
    obtain ⟨v, q1, q2⟩ := h2.get hd
    have := y vs (SqL.of (s1 _ _ (s0 _ _ h1)))
    rw [q1] at this
    cases this
    subst e
    exact ⟨G2, Ext.refl s1, q2.mono s0⟩
theorem iter_tup {K : PySem.W.Frag} {G : Hp} {a : Addr} {ds : List D} {vs : List V} (h1 : G a = some (.tup vs)) (h2 : Reps K G ds vs) : IterOf K (Itt K a) G ds := by
  refine ⟨fun H i s hi => ?_, fun G2 H i x H' d s0 s1 hd hy => ?_, fun H s => ⟨vs, SqT.of (s _ _ h1), by rw [h2.len]; exact Nat.le_refl _⟩⟩
  · have : i < vs.length := by rw [← h2.len]; exact hi
    exact ⟨vs, vs[i], SqT.of (s _ _ h1), List.getElem?_eq_getElem this⟩
  · obtain ⟨e, y⟩ := hy
    obtain ⟨v, q1, q2⟩ := h2.get hd
    have := y vs (SqT.of (s1 _ _ (s0 _ _ h1)))
    rw [q1] at this
    cases this
    subst e
    exact ⟨G2, Ext.refl s1, q2.mono s0⟩
def iSeq (f : FD) : FI := fun ω => (f ω).bind itemsOf
theorem xi_seq {f : FD} (h : XD X e f) : XI X tg e (iSeq f) := by
  obtain ⟨t, h1, h2⟩ := h
  refine ⟨fun σ H R => iList X.K t σ H R ∨ iTup X.K t σ H R, fun pins s σ H R I q => ?_, fun G0 H0 G ω σ H ds R o e k => ?_⟩
  · rcases q with q | q
    · exact pi_list h1 pins s σ H R I q
    · exact pi_tup h1 pins s σ H R I q
  · obtain ⟨d, q, e⟩ := bnd e
    cases d with
    | lst es =>
      cases e
      refine .inl (h2 G0 H0 G ω σ H _ _ o q fun v G1 H1 x1 ⟨a, vs, e1, e2, e3⟩ => ⟨a, e1, ⟨vs, SqL.of (x1.gh _ _ e2)⟩, k _ G1 H1 x1 (iter_lst e2 e3)⟩)
    | tup es =>
      cases e
      refine .inr (h2 G0 H0 G ω σ H _ _ o q fun v G1 H1 x1 ⟨a, vs, e1, e2, e3⟩ => ⟨a, e1, ⟨vs, SqT.of (x1.gh _ _ e2)⟩, k _ G1 H1 x1 (iter_tup e2 e3)⟩)
    | _ => cases e
def upTo (lo : Int) (n : Nat) : List D := (List.range n).map fun (i : Nat) => D.int (lo + (i : Int))
theorem iter_rng {K : PySem.W.Frag} {G : Hp} (lo : Int) (n : Nat) : IterOf K (Itr lo n) G (upTo lo n) := by
  have hl : (upTo lo n).length = n := by unfold upTo; rw [List.length_map, List.length_range]
  refine ⟨fun H i s hi => by rw [hl] at hi; exact hi, fun G2 H i x H' d s0 s1 hd hy => ?_, fun H s => by rw [hl]; exact Nat.le_refl _⟩
  obtain ⟨e, y⟩ := hy
  subst e
  refine ⟨G2, Ext.refl s1, ?_⟩
  unfold upTo at hd
  rw [List.getElem?_map] at hd
  have hi : i < n := by
    rcases Nat.lt_or_ge i n with z | z
    · exact z
    · rw [List.getElem?_eq_none (by rw [List.length_range]; exact z)] at hd; cases hd
  rw [List.getElem?_range hi] at hd
  cases hd
  exact y
def iRg1 (g : FA) : FI := fun ω => (g ω).bind fun ds => match ds with
  | [.int j] => if -(2 ^ 62) ≤ j ∧ j < 2 ^ 62 then some (upTo 0 j.toNat) else none
  | _ => none
theorem xi_range1 {a : Expr} {g : FA} {p pos : Pos} (hg : Gl X "range") (hm : X.mg "range" = none) (ha : XVA X [a] g) (hs : starEach [a] X.env = [(false, eval a X.env)] := by rfl) : XI X tg (.Call (.Name "range" p) [a] [] pos) (iRg1 g) := by
  obtain ⟨t, h1, h2⟩ := ha
  refine ⟨_, pi_range1 hg hm h1 hs, fun G0 H0 G ω σ H ds R o e k => ?_⟩
  obtain ⟨vs, q, e⟩ := bnd e
  refine h2 G0 H0 G ω σ H vs _ o q fun us G1 H1 x1 y1 => ?_
  match vs, e with
  | [.int j], e =>
    dsimp only at e
    by_cases z : -(2 ^ 62) ≤ j ∧ j < 2 ^ 62
    · rw [if_pos z] at e
      cases e
      obtain ⟨v, rfl, y2⟩ := y1.one
      cases y2.int
      exact ⟨j, rfl, z.1, z.2, k _ G1 H1 x1 (iter_rng _ _)⟩
    · rw [if_neg z] at e; cases e
end
def forD (g : FG) (b : FS) : List D → FS
  | [], ω => some (.nx, ω)
  | d :: ds, ω => (g d ω).bind fun w => (b w).bind fun p => match p.1 with
    | .nx => forD g b ds p.2
    | .ct => forD g b ds p.2
    | .bk => some (.nx, p.2)
    | .rt r => some (.rt r, p.2)
def sFor (fi : FI) (g : FG) (b : FS) : FS := fun ω => (fi ω).bind fun ds => forD g b ds ω
section
variable {X : Cx} {tg iter : Expr} {body : List Stmt} {pos : Pos} {fi : FI} {fg : FG} {fb : FS}
theorem xs_for (hp : PassesOwn (model X.prog X.w) X.A X.env X.xe) (hc : X.calm = true) (hi : XI X tg iter fi) (hg : XG X tg fg) (hb : XSs X body fb) (hs : ∀ x, foldedSetIterable iter X.env x = pure x := by intro _; rfl) : XS X (.For tg iter body [] pos) (sFor fi fg fb) := by
  obtain ⟨wi, h1, h2⟩ := hi
  obtain ⟨g, h3, h4⟩ := hg
  obtain ⟨tb, h5, h6⟩ := hb
  refine ⟨_, ps_for hp hc h1 h3 h5 hs, fun G0 H0 G ω σ H out ω' E o e k => ?_⟩
  obtain ⟨ds, q, e⟩ := bnd e
  refine h2 G0 H0 G ω σ H ds _ o q fun J G1 H1 x1 it => ?_
  refine ⟨fun i m σ2 H2 => ∃ G2 ω2, Own X.K G0 H0 G2 ω2 σ2 H2 ∧ Same G1 G2 ∧ forD fg fb (ds.drop i) ω2 = some (out, ω') ∧ i ≤ ds.length ∧ m = ds.length - i, ⟨_, G1, ω, o.keep x1, Same.refl _, e, Nat.zero_le _, rfl⟩, ?_⟩
  rintro i m σ2 H2 ⟨G2, ω2, o2, s2, f2, hi2, rfl⟩
  by_cases hlt : i < ds.length
  · refine .inr ⟨it.go H2 i (s2.trans o2.gh) hlt, fun σ3 H3 => ∃ G3 ω3, Own X.K G0 H0 G3 ω3 σ3 H3 ∧ Same G1 G3 ∧ forD fg fb (ds.drop (i + 1)) ω3 = some (out, ω'), fun σ3 H3 ⟨G3, ω3, a1, a2, a3⟩ => ⟨ds.length - (i + 1), by omega, G3, ω3, a1, a2, a3, hlt, rfl⟩, fun x H3 hy => ?_⟩
    have hd : ds[i]? = some ds[i] := List.getElem?_eq_getElem hlt
    obtain ⟨G4, x4, rx⟩ := it.yld G2 H2 i x H3 ds[i] s2 o2.gh hd hy
    have o2 := o2.keep x4
    have s2 := s2.trans x4.gg
    rw [List.drop_eq_getElem_cons hlt] at f2
    obtain ⟨w, q1, f2⟩ := bnd f2
    obtain ⟨⟨o3, ω3⟩, q2, f2⟩ := bnd f2
    refine h4 G0 H0 G4 ω2 σ2 H3 ds[i] x w _ o2 q1 rx fun σ4 o4 => ?_
    refine h6 G0 H0 G4 w σ4 H3 o3 ω3 _ o4 q2 fun G5 σ5 H5 o5 s5 => ?_
    cases o3 with
    | nx => exact ⟨G5, ω3, o5, s2.trans s5, f2⟩
    | ct => exact ⟨G5, ω3, o5, s2.trans s5, f2⟩
    | bk => cases f2; exact k G5 σ5 H5 o5 (x1.gg.trans (s2.trans s5))
    | rt r => cases f2; exact k G5 σ5 H5 o5 (x1.gg.trans (s2.trans s5))
  · have ei : i = ds.length := by omega
    subst ei
    rw [List.drop_length] at f2
    cases f2
    exact .inl ⟨it.stop H2 (s2.trans o2.gh), k G2 σ2 H2 o2 (x1.gg.trans s2)⟩
end
def compD (g : FG) (c : FT) (f : FD) : List D → WSt → Option (List D)
  | [], _ => some []
  | d :: ds, ω => (g d ω).bind fun w => (c w).bind fun b => if b = true then (f w).bind fun x => (compD g c f ds w).map fun r => x :: r else compD g c f ds w
def shOf : Option (Option W) → Option W
  | some (some (.sh d)) => some (.sh d)
  | _ => none
def inW (M : Nat) (frees : List Nat) (ω : WSt) : WSt := List.replicate M none ++ frees.map fun j => shOf ω[j]?
def fComp (M : Nat) (frees : List Nat) (fi : FI) (g : FG) (c : FT) (f : FD) : FE := fun ω => (fi ω).bind fun ds => if ds.length ≤ 1000000 then (compD g c f ds (inW M frees ω)).map R.fr else none
def XTs (X : Cx) (ifs : List Expr) (f : FT) : Prop := ∃ t, PTs X ifs t ∧ SimT X.K t f
def tTrue : FT := fun _ => some true
theorem xts_nil {X : Cx} : XTs X [] tTrue := ⟨_, pts_nil, fun G0 H0 G ω σ H b Q o e k => by cases e; exact k G H (Ext.refl o.gh)⟩
section
variable {X : Cx} {N : List Str} {M : Nat} {frees : List Nat} {scope : Scope} {tg iter elt : Expr} {ifs : List Expr} {pos : Pos} {fi : FI} {fg : FG} {fc : FT} {fe : FD}
def NoOw (ω : WSt) : Prop := ∀ (i : Nat) w, ω[i]? = some (some w) → ∃ d, w = .sh d
theorem NoOw.ow {ω : WSt} (h : NoOw ω) (i : Nat) (ds : List D) : ω[i]? ≠ some (some (.ow ds)) := fun z => by obtain ⟨d, e⟩ := h i _ z; cases e
theorem NoOw.od {ω : WSt} (h : NoOw ω) (i : Nat) (ks : List Int) (ds : List D) : ω[i]? ≠ some (some (.od ks ds)) := fun z => by obtain ⟨d, e⟩ := h i _ z; cases e
theorem NoOw.pw {ω : WSt} (h : NoOw ω) (i : Nat) (ds : List D) : ω[i]? ≠ some (some (.pw ds)) := fun z => by obtain ⟨d, e⟩ := h i _ z; cases e
theorem sim_comp {wi : TI} {g : TG} {tc : TT} {te : TE} (h2 : SimI X.K wi fi) (h4 : SimG X.K g fg) (h6 : SimT X.K tc fc) (h8 : SimD X.K te fe) (hg : ∀ d ω ω', NoOw ω → fg d ω = some ω' → NoOw ω') : SimE X.K (tComp M frees wi g tc te) (fComp M frees fi fg fc fe) := by
  intro G0 H0 G ω σ H r Q o e k
  obtain ⟨ds, q, e⟩ := bnd e
  by_cases hz : ds.length ≤ 1000000
  · rw [if_pos hz] at e
    obtain ⟨rs, q2, e⟩ := mpd e
    subst e
    refine h2 G0 H0 G ω σ H ds _ o q fun J G1 H1 x1 it => ?_
    intro A hA
    have ow0 : NoOw (inW M frees ω) := by
      intro i es z
      unfold inW at z
      rcases Nat.lt_or_ge i M with y | y
      · rw [List.getElem?_append_left (by simpa using y), List.getElem?_replicate, if_pos y] at z; cases z
      · rw [List.getElem?_append_right (by simpa using y), List.length_replicate, List.getElem?_map] at z
        cases e1 : frees[i - M]? with
        | none => rw [e1] at z; cases z
        | some j =>
          rw [e1] at z
          have z' : shOf ω[j]? = some es := Option.some.inj z
          generalize ω[j]? = u at z'
          unfold shOf at z'
          split at z'
          · cases z'; exact ⟨_, rfl⟩
          · cases z'
    have own0 : ∀ G2 H2, Same G1 G2 → Same G2 H2 → Own X.K G2 (fr H2) G2 (inW M frees ω) (sgIn M frees σ) H2 := fun G2 H2 s1 s2 => by
      have o1 := o.keep x1
      refine ⟨Ext.refl s2, by unfold inW sgIn; simp, fun i d hi => ?_, fun i ds' hi => absurd hi (ow0.ow i ds'), fun i j ds' es l hi => absurd hi (ow0.ow i ds'), fun i ks ds' hi => absurd hi (ow0.od i ks ds'), PwOk.no ow0.pw⟩
      unfold inW at hi
      unfold sgIn
      rcases Nat.lt_or_ge i M with y | y
      · rw [List.getElem?_append_left (by simpa using y), List.getElem?_replicate, if_pos y] at hi; cases hi
      · rw [List.getElem?_append_right (by simpa using y), List.length_replicate, List.getElem?_map] at hi ⊢
        cases e1 : frees[i - M]? with
        | none => rw [e1] at hi; cases hi
        | some j =>
          rw [e1] at hi
          have hi' : shOf ω[j]? = some (.sh d) := Option.some.inj hi
          cases e2 : ω[j]? with
          | none => rw [e2] at hi'; cases hi'
          | some w =>
            rw [e2] at hi'
            cases w with
            | none => cases hi'
            | some w =>
              cases w with
              | ow _ => cases hi'
              | od _ _ => cases hi'
              | pw _ => cases hi'
              | sh d' =>
                cases hi'
                obtain ⟨v, q3, q4⟩ := o1.sh j _ e2
                exact ⟨v, by rw [Option.map_some, q3]; rfl, q4.mono s1⟩
    refine ⟨fun i m σ2 H2 => ∃ G2 ω2 accd accv, Own X.K G2 (fr H2) G2 ω2 σ2 H2 ∧ NoOw ω2 ∧ Ext G1 H1 G2 H2 ∧ G2 A = none ∧ H2 A = some (.lst accv) ∧ Reps X.K G2 accd accv ∧ accd.length ≤ i ∧ i ≤ ds.length ∧ m = ds.length - i ∧
      ∃ rest, compD fg fc fe (ds.drop i) ω2 = some rest ∧ accd ++ rest = rs, ⟨_, G1, inW M frees ω, [], [], own0 _ _ (Same.refl _) (same_updR x1.gh (x1.gh.free hA) _), ow0, Ext.hide x1.gh hA _, x1.gh.free hA, upd_same, Reps.nil, Nat.le_refl _, Nat.zero_le _, rfl, rs, q2, rfl⟩, ?_⟩
    rintro i m σ2 H2 ⟨G2, ω2, accd, accv, o2, no2, x2, gA, hA2, ra, la, li, rfl, rest, cd, er⟩
    by_cases hlt : i < ds.length
    · refine .inr ⟨it.go H2 i (x2.gg.trans x2.gh) hlt, fun x H3 hy => ?_⟩
      have hd : ds[i]? = some ds[i] := List.getElem?_eq_getElem hlt
      obtain ⟨G4, x4, rx⟩ := it.yld G2 H2 i x H3 ds[i] x2.gg x2.gh hd hy
      have o2' := o2.keep x4
      have o2 : Own X.K G4 (fr H3) G4 ω2 σ2 H3 := ⟨Ext.refl x4.gh, o2'.len, o2'.sh, fun i ds' hi => absurd hi (no2.ow i ds'), fun i j ds' es l hi => absurd hi (no2.ow i ds'), fun i ks ds' hi => absurd hi (no2.od i ks ds'), PwOk.no no2.pw⟩
      have gA : G4 A = none := x4.new A gA (by rw [hA2]; exact fun z => by cases z)
      have hA2 : H3 A = some (.lst accv) := x4.hh _ _ hA2
      have x2 := x2.trans x4
      have ra := ra.mono x4.gg
      rw [List.drop_eq_getElem_cons hlt] at cd
      obtain ⟨w, q1, cd⟩ := bnd cd
      obtain ⟨b, q3, cd⟩ := bnd cd
      have now := hg _ _ _ no2 q1
      refine h4 G4 (fr H3) G4 ω2 σ2 H3 ds[i] x w _ o2 q1 rx fun σ4 o4 => ?_
      refine h6 G4 (fr H3) G4 w σ4 H3 b _ o4 q3 fun G5 H5 x5 => ?_
      have o5 := o4.keep x5
      have gA5 : G5 A = none := x5.new A gA (by rw [hA2]; exact fun z => by cases z)
      have hA5 : H5 A = some (.lst accv) := x5.hh _ _ hA2
      cases b with
      | false =>
        rw [if_neg Bool.false_ne_true]
        rw [if_neg Bool.false_ne_true] at cd
        have o6 : Own X.K G5 (fr H5) G5 w σ4 H5 := ⟨Ext.refl x5.gh, o5.len, o5.sh, fun i ds' hi => absurd hi (now.ow i ds'), fun i j ds' es l hi => absurd hi (now.ow i ds'), fun i ks ds' hi => absurd hi (now.od i ks ds'), PwOk.no now.pw⟩
        exact ⟨ds.length - (i + 1), by omega, G5, w, accd, accv, o6, now, x2.trans x5, gA5, hA5, ra.mono x5.gg, by omega, hlt, rfl, rest, cd, er⟩
      | true =>
        rw [if_pos rfl] at cd ⊢
        obtain ⟨d, q4, cd⟩ := bnd cd
        obtain ⟨rest', q5, cd⟩ := mpd cd
        subst cd
        refine h8 G4 (fr H3) G5 w σ4 H5 d _ o5 q4 fun v G6 H6 x6 y6 => ?_
        have gA6 : G6 A = none := x6.new A gA5 (by rw [hA5]; exact fun z => by cases z)
        have hA6 : H6 A = some (.lst accv) := x6.hh _ _ hA5
        have x26 := (x2.trans x5).trans x6
        have raa := ra.mono (x5.gg.trans x6.gg)
        have hl : accv.length < sizeLine := by rw [← raa.len, sizeLine_eq]; omega
        refine ⟨accv, hA6, hl, ds.length - (i + 1), by omega, G6, w, accd ++ [d], accv ++ [v], ?_, now, ⟨x26.gg, same_updR x26.gh gA6 _, same_updR x26.hh hA _, x26.new⟩, gA6, upd_same, raa.app (Reps.cons y6 Reps.nil), by rw [List.length_append, List.length_singleton]; omega, hlt, rfl, rest', q5, by rw [List.append_assoc]; exact er⟩
        have o6 := o5.keep x6
        exact ⟨Ext.refl (same_updR x6.gh gA6 _), o6.len, o6.sh, fun i ds' hi => absurd hi (now.ow i ds'), fun i j ds' es l hi => absurd hi (now.ow i ds'), fun i ks ds' hi => absurd hi (now.od i ks ds'), PwOk.no now.pw⟩
    · have ei : i = ds.length := by omega
      subst ei
      rw [List.drop_length] at cd
      cases cd
      rw [List.append_nil] at er
      subst er
      refine .inl ⟨it.stop H2 (x2.gg.trans x2.gh), k _ G2 H2 (x1.trans x2) ⟨A, accv, rfl, x1.hh.free hA, gA, hA2, ra⟩⟩
  · rw [if_neg hz] at e; cases e
theorem noOw_set {ω : WSt} {i : Nat} {d : D} (h : NoOw ω) : NoOw (ω.set i (some (.sh d))) := by
  intro j ds z
  rcases get_set z with ⟨_, _, y⟩ | ⟨_, y⟩
  · cases y; exact ⟨d, rfl⟩
  · exact h j ds y
def Tame (fg : FG) : Prop := ∀ d ω ω', NoOw ω → fg d ω = some ω' → NoOw ω'
theorem tame_n (i : Nat) : Tame (gN i) := fun d ω ω' h e => by cases e; exact noOw_set h
def canD (K : PySem.W.Frag) (f : FD) : TE := fun σ H Q => ∃ G0 H0 G ω d, Own K G0 H0 G ω σ H ∧ f ω = some d ∧ ∀ v G' H', Ext G H G' H' → Rep K G' d v → Q v H'
def canT (K : PySem.W.Frag) (f : FT) : TT := fun σ H Q => ∃ G0 H0 G ω b, Own K G0 H0 G ω σ H ∧ f ω = some b ∧ ∀ G' H', Ext G H G' H' → Q b H'
def canG (K : PySem.W.Frag) (f : FG) : TG := fun v σ H Q => ∃ G0 H0 G ω d ω', Own K G0 H0 G ω σ H ∧ f d ω = some ω' ∧ Rep K G d v ∧ ∀ σ', Own K G0 H0 G ω' σ' H → Q σ' H
theorem XD.can {X : Cx} {e : Expr} {f : FD} (h : XD X e f) : PE X e (canD X.K f) := fun pins s σ H Q I ⟨G0, H0, G, ω, d, o, e, k⟩ => let ⟨_, h1, h2⟩ := h; h1 pins s σ H Q I (h2 G0 H0 G ω σ H d Q o e k)
theorem XTs.can {X : Cx} {e : List Expr} {f : FT} (h : XTs X e f) : PTs X e (canT X.K f) := fun pins s σ H Q I ⟨G0, H0, G, ω, d, o, e, k⟩ => let ⟨_, h1, h2⟩ := h; h1 pins s σ H Q I (h2 G0 H0 G ω σ H d Q o e k)
theorem XG.can {X : Cx} {e : Expr} {f : FG} (h : XG X e f) : PG X e (canG X.K f) := fun pins s σ H v u Q I r ⟨G0, H0, G, ω, d, ω', o, e, y, k⟩ => let ⟨_, h1, h2⟩ := h; h1 pins s σ H v u Q I r (h2 G0 H0 G ω σ H d v ω' Q o e y k)
theorem sim_canD {K : PySem.W.Frag} {f : FD} : SimD K (canD K f) f := fun G0 H0 G ω σ H d Q o e k => ⟨G0, H0, G, ω, d, o, e, k⟩
theorem sim_canT {K : PySem.W.Frag} {f : FT} : SimT K (canT K f) f := fun G0 H0 G ω σ H d Q o e k => ⟨G0, H0, G, ω, d, o, e, k⟩
theorem sim_canG {K : PySem.W.Frag} {f : FG} : SimG K (canG K f) f := fun G0 H0 G ω σ H d v ω' Q o e y k => ⟨G0, H0, G, ω, d, ω', o, e, y, k⟩
theorem xe_comp (hc : X.calm = true) (B : BlkOk X N M frees scope) (hi : XI X tg iter fi) (ht : Tame fg)
    (hb : ∀ C s H fp, XG (cxIn X N scope C s H fp) tg fg ∧ XTs (cxIn X N scope C s H fp) ifs fc ∧ XD (cxIn X N scope C s H fp) elt fe)
    (hs : ∀ x, foldedSetIterable iter X.env x = pure x := by intro _; rfl) : XE X (.ListComp elt [⟨tg, iter, ifs, 0⟩] scope pos) (fComp M frees fi fg fc fe) := by
  obtain ⟨wi, h1, h2⟩ := hi
  have b4 : ∀ C s H fp, PG (cxIn X N scope C s H fp) tg (canG X.K fg) ∧ PTs (cxIn X N scope C s H fp) ifs (canT X.K fc) ∧ PE (cxIn X N scope C s H fp) elt (canD X.K fe) := fun C s H fp => ⟨(hb C s H fp).1.can, (hb C s H fp).2.1.can, (hb C s H fp).2.2.can⟩
  exact ⟨_, pe_comp hc B h1 b4 hs, sim_comp h2 sim_canG sim_canT sim_canD ht⟩
theorem xs_setc {i : Nat} {x : Str} {pos' spos : Pos} (hc : X.calm = true) (hN : X.N.Nodup) (hi' : X.N[i]? = some x) (hx : X.env.scope.names.lookup x = some .local) (B : BlkOk X N M frees scope) (hi : XI X tg iter fi) (ht : Tame fg)
    (hb : ∀ C s H fp, XG (cxIn X N scope C s H fp) tg fg ∧ XTs (cxIn X N scope C s H fp) ifs fc ∧ XD (cxIn X N scope C s H fp) elt fe)
    (hsw : swapsWith (.ListComp elt [⟨tg, iter, ifs, 0⟩] scope pos) (some (.Name x pos')) spos.line X.env = pure true := by rfl)
    (hs : ∀ x, foldedSetIterable iter X.env x = pure x := by intro _; rfl) : XS X (.Assign [.Name x pos'] (.ListComp elt [⟨tg, iter, ifs, 0⟩] scope pos) spos) (sSet i (fComp M frees fi fg fc fe)) := by
  obtain ⟨wi, h1, h2⟩ := hi
  have b4 : ∀ C s H fp, PG (cxIn X N scope C s H fp) tg (canG X.K fg) ∧ PTs (cxIn X N scope C s H fp) ifs (canT X.K fc) ∧ PE (cxIn X N scope C s H fp) elt (canD X.K fe) := fun C s H fp => ⟨(hb C s H fp).1.can, (hb C s H fp).2.1.can, (hb C s H fp).2.2.can⟩
  exact ⟨_, ps_setc hc hN hi' hx B h1 b4 hsw hs, sim_set (sim_comp h2 sim_canG sim_canT sim_canD ht)⟩
def FreesOk (X : Cx) (scope : Scope) : List Str → List Nat → Prop
  | [], [] => True
  | x :: xs, j :: js => (X.N[j]? = some x ∧ (X.env.kindOf x = some .cell ∨ X.env.kindOf x = some .free) ∧ scope.names.lookup x = some .free) ∧ FreesOk X scope xs js
  | _, _ => False
theorem freesOk_at {X : Cx} {scope : Scope} : ∀ {xs : List Str} {js : List Nat}, FreesOk X scope xs js → ∀ (k : Nat) (x : Str), xs[k]? = some x → ∃ j, js[k]? = some j ∧ X.N[j]? = some x ∧ (X.env.kindOf x = some .cell ∨ X.env.kindOf x = some .free) ∧ scope.names.lookup x = some .free
  | [], _, _, _, _, e => by simp at e
  | _ :: _, [], h, _, _, _ => h.elim
  | y :: ys, i :: is, ⟨h1, h2⟩, 0, x, e => by
    have : y = x := by simpa using e
    subst this
    exact ⟨i, rfl, h1⟩
  | y :: ys, i :: is, ⟨h1, h2⟩, k + 1, x, e => by
    obtain ⟨j, q⟩ := freesOk_at h2 k x (by simpa using e)
    exact ⟨j, by simpa using q.1, q.2⟩
theorem freesOk_len {X : Cx} {scope : Scope} : ∀ {xs : List Str} {js : List Nat}, FreesOk X scope xs js → xs.length = js.length
  | [], [], _ => rfl
  | [], _ :: _, h => h.elim
  | _ :: _, [], h => h.elim
  | _ :: ys, _ :: is, ⟨_, h2⟩ => by rw [List.length_cons, List.length_cons, freesOk_len h2]
theorem blk {X : Cx} {scope : Scope} (own free : List Str) (frees : List Nat) (h1 : scope.kind = .function) (h2 : ∀ y ∈ scope.names, y.2 ≠ .cell) (h3 : ∀ y ∈ scope.names, y.2 = .local → scope.names.lookup y.1 = some .local)
    (h4 : (scope.names.all fun p => p.2 != .free || (X.env.cells.lookup p.1).isSome) = true) (h5 : FreesOk X scope free frees) : BlkOk X (own ++ free) own.length frees scope := by
  refine ⟨h1, h2, h3, fun p hp hf => ?_, fun k x e => ?_, by rw [List.length_append, freesOk_len h5]⟩
  · have := List.all_eq_true.mp h4 p hp
    rw [hf] at this
    simpa using this
  · rw [List.getElem?_append_right (Nat.le_add_right _ _), Nat.add_sub_cancel_left] at e
    exact freesOk_at h5 k x e
end
def entry (n : Nat) (ds : List D) : WSt := ds.map (fun d => some (.sh d)) ++ List.replicate (n - ds.length) none
def mir (n : Nat) (body : FS) (ds : List D) : Option O := match body (entry n ds) with
  | some (.rt r, _) => some r
  | some (.nx, _) => some (.sh .non)
  | _ => none
theorem reps_start {K : PySem.W.Frag} {H : Hp} {N : List Str} {ds : List D} {vs : List V} (h : Reps K H ds vs) (i : Nat) (d : D) (e : (entry N.length ds)[i]? = some (some (.sh d))) : ∃ v, (L2.start N vs)[i]? = some (some v) ∧ Rep K H d v := by
  unfold entry at e
  unfold L2.start
  have hl := h.len
  rcases Nat.lt_or_ge i ds.length with y | y
  · rw [List.getElem?_append_left (by simpa using y), List.getElem?_map] at e
    have e1 : ds[i]? = some d := by
      cases q : ds[i]? with
      | none => rw [q] at e; cases e
      | some d' => rw [q] at e; cases e; rfl
    obtain ⟨v, q1, q2⟩ := h.get e1
    refine ⟨v, ?_, q2⟩
    rw [List.getElem?_append_left (by simpa using (by omega : i < vs.length)), List.getElem?_map, q1]; rfl
  · rw [List.getElem?_append_right (by simpa using y), List.getElem?_replicate] at e
    split at e <;> cases e
theorem entry_noOw {n : Nat} {ds : List D} : NoOw (entry n ds) := by
  intro i es z
  unfold entry at z
  rcases Nat.lt_or_ge i ds.length with y | y
  · rw [List.getElem?_append_left (by simpa using y), List.getElem?_map] at z
    cases q : ds[i]? with
    | none => rw [q] at z; cases z
    | some d => rw [q] at z; cases z; exact ⟨d, rfl⟩
  · rw [List.getElem?_append_right (by simpa using y), List.getElem?_replicate] at z
    split at z <;> cases z
theorem fnD {P : Program} {w : World} {K : PySem.W.Frag} {mg : Str → Option Value} {base : Heap} {x qual : Str} {st : Stmt} {f : Addr} {fd : FuncData} {N ps : List Str} {k : Nat} {body : FS} (F : Fun K x qual st f fd) (S : FnScope N ps (defScope st))
    (hb : ∀ (cdv : Value) (A : Around) (outer : List Env) (s : Shared) (H : Hp) (E : XK), Room k (A.deeper (PyProof.Rows.envOfC qual (defScope st) s.heap.objs.size f cdv)) → XSs (cxOf CX0 P w K mg base N qual (defScope st) f cdv A outer s H E).nox (defBody st) body) :
    FnOk P w K mg base CX0 (k + 1) f fd ps (spD K ps.length (mir N.length body)) := by
  refine F.ok S (fun vs H Q E h => ?_) (fun cdv A outer s H vs Q E hr h => ?_)
  · obtain ⟨G, ds, r, _, h2, _, h4, _⟩ := h
    rw [← h4.len]; exact h2
  · obtain ⟨G, ds, r, h1, h2, h3, h4, h5⟩ := h
    obtain ⟨t, p1, p2⟩ := hb cdv A outer s H E hr
    refine ⟨t, p1, ?_⟩
    unfold mir at h1
    have hl := h4.len
    have hpl : ps.length ≤ N.length := by have := congrArg List.length S.pre; rw [List.length_take] at this; omega
    have o0 : Own K G (fr H) G (entry N.length ds) (L2.start N vs) H := by
      refine ⟨Ext.refl h3, ?_, fun i d e => reps_start h4 i d e, fun i es e => absurd e (entry_noOw.ow i es), fun i j es fs l e => absurd e (entry_noOw.ow i es), fun i ks es e => absurd e (entry_noOw.od i ks es), PwOk.no entry_noOw.pw⟩
      unfold entry L2.start
      simp only [List.length_append, List.length_map, List.length_replicate]
      omega
    cases q : body (entry N.length ds) with
    | none => rw [q] at h1; cases h1
    | some p =>
      obtain ⟨out, ω'⟩ := p
      rw [q] at h1
      refine p2 G (fr H) G _ _ H out ω' _ o0 q fun G' σ' H' o' s' => ?_
      cases out with
      | nx => cases h1; exact h5 _ G' H' o'.ext rfl
      | bk => cases h1
      | ct => cases h1
      | rt r' => cases h1; exact fun v y => h5 v G' H' o'.ext y
end Hk
set_option maxRecDepth 100000
namespace Hk
open PySem L2
theorem bt_len : bootBuiltins "len" = some (.builtin "len") := by decide +kernel
theorem bt_all : bootBuiltins "all" = some (.builtin "all") := by decide +kernel
theorem bt_min : bootBuiltins "min" = some (.builtin "min") := by decide +kernel
theorem bt_int : bootBuiltins "int" = some (.type "int") := by decide +kernel
theorem bt_bool : bootBuiltins "bool" = some (.type "bool") := by decide +kernel
theorem bt_str : bootBuiltins "str" = some (.type "str") := by decide +kernel
theorem bt_list : bootBuiltins "list" = some (.type "list") := by decide +kernel
theorem bt_tuple : bootBuiltins "tuple" = some (.type "tuple") := by decide +kernel
end Hk
set_option maxRecDepth 100000
namespace Hk
open PySem L2
def bindS (o : Option (Out × WSt)) (g : FS) : Option (Out × WSt) := o.bind fun p => match p.1 with
  | .nx => g p.2
  | o => some (o, p.2)
def setS (i : Nat) (ω : WSt) (o : Option R) : Option (Out × WSt) := o.bind fun r => (setR i r ω).map fun w => (.nx, w)
def ifS (c : Option Bool) (f g : FS) (ω : WSt) : Option (Out × WSt) := c.bind fun b => if b = true then f ω else g ω
def retS (ω : WSt) (o : Option R) : Option (Out × WSt) := o.bind fun r => match r with
  | .sh d => some (.rt (.sh d), ω)
  | .fr ds => some (.rt (.fr ds), ω)
  | .vw _ => none
def appS (i : Nat) (ω : WSt) (o : Option D) (l : Option (Option W)) : Option (Out × WSt) := o.bind fun d => match l with
  | some (some (.ow ds)) => if ds.length < 1000000 then some (.nx, ω.set i (some (.ow (ds ++ [d])))) else none
  | _ => none
def shrS (i : Nat) (ω : WSt) (o : Option (Option W)) : WSt := match o with
  | some (some (.ow ds)) => ω.set i (some (.sh (.lst ds)))
  | some (some (.od ks ds)) => ω.set i (some (.sh (.dic ks ds)))
  | _ => ω
def forS (o : Option (List D)) (g : FG) (b : FS) (ω : WSt) : Option (Out × WSt) := o.bind fun ds => forD g b ds ω
def varR (o : Option (Option W)) : Option R := match o with
  | some (some (.sh d)) => some (.sh d)
  | some (some (.ow ds)) => some (.vw ds)
  | some (some (.pw ds)) => some (.vw ds)
  | _ => none
def eD (o : Option D) : Option R := o.map R.sh
def dR (o : Option R) : Option D := match o with
  | some (.sh d) => some d
  | some (.fr ds) => some (.lst ds)
  | _ => none
def vR (o : Option R) : Option D := o.map R.d
def op2 (op : D → D → Option R) (x y : Option D) : Option R := x.bind fun x => y.bind fun y => op x y
def callR (m : List D → Option O) (o : Option (List D)) : Option R := o.bind fun ds => (m ds).map O.r
def consA (o : Option D) (r : Option (List D)) : Option (List D) := o.bind fun d => r.map fun ds => d :: ds
def bltR (op : List D → Option R) (o : Option (List D)) : Option R := o.bind op
def atP (o : Option D) : Option (Option Int) := o.bind fun d => match d with | .int i => some (some i) | _ => none
def iteR (c : Option Bool) (f g : FE) (ω : WSt) : Option R := c.bind fun k => if k = true then f ω else g ω
def isiR (c : Ty) (o : Option D) : Option R := o.bind fun d => match d with
  | .scr _ => none
  | .exc _ => none
  | .dic _ _ => none
  | d => some (.sh (.bl (subT (tyD d) c)))
def tR (o : Option R) : Option Bool := match o with
  | some (.sh (.bl k)) => some k
  | _ => none
def andT (o : Option Bool) (g : FT) (ω : WSt) : Option Bool := o.bind fun c => if c = true then g ω else some false
def orT (o : Option Bool) (g : FT) (ω : WSt) : Option Bool := o.bind fun c => if c = true then some true else g ω
def notT (o : Option Bool) : Option Bool := o.map (!·)
def truT (o : Option D) : Option Bool := o.bind truD
def andV (o : Option D) (g : FD) (ω : WSt) : Option D := o.bind fun d => (blOf d).bind fun c => if c = true then g ω else some (.bl false)
def orV (o : Option D) (g : FD) (ω : WSt) : Option D := o.bind fun d => (blOf d).bind fun c => if c = true then some (.bl true) else g ω
def notV (o : Option D) : Option D := o.bind fun d => (blOf d).map fun c => .bl (!c)
def rg1I (o : Option (List D)) : Option (List D) := o.bind fun ds => match ds with
  | [.int j] => if -(2 ^ 62) ≤ j ∧ j < 2 ^ 62 then some (upTo 0 j.toNat) else none
  | _ => none
def compR (M : Nat) (fr : List Nat) (o : Option (List D)) (g : FG) (c : FT) (f : FD) (ω : WSt) : Option R := o.bind fun ds => if ds.length ≤ 1000000 then (compD g c f ds (inW M fr ω)).map R.fr else none
def outM (o : Option (Out × WSt)) : Option O := match o with
  | some (.rt r, _) => some r
  | some (.nx, _) => some (.sh .non)
  | _ => none
section
variable {f g : FS} {ω w : WSt} {i : Nat} {fe fe' : FE} {fd fd' : FD} {ft ft' : FT} {r : O} {d d' : D} {ds ds' : List D} {a b : Int} {p q : Bool} {fa : FA} {fg : FG} {fi : FI} {n : Nat}
theorem e_mir : mir n f ds = outM (f (entry n ds)) := rfl
theorem e_om_rt : outM (some (.rt r, w)) = some r := rfl
theorem e_seq : sSeq f g ω = bindS (f ω) g := rfl
theorem e_bs_nx : bindS (some (.nx, w)) g = g w := rfl
theorem e_bs_rt : bindS (some (.rt r, w)) g = some (.rt r, w) := rfl
theorem e_nil : sNil ω = some (.nx, ω) := rfl
theorem e_set : sSet i fe ω = setS i ω (fe ω) := rfl
theorem e_ss_sh : setS i ω (some (.sh d)) = some (.nx, ω.set i (some (.sh d))) := rfl
theorem e_ss_fr : setS i ω (some (.fr ds)) = some (.nx, ω.set i (some (.ow ds))) := rfl
theorem e_if : sIf ft f g ω = ifS (ft ω) f g ω := rfl
theorem e_if_t : ifS (some true) f g ω = f ω := rfl
theorem e_if_f : ifS (some false) f g ω = g ω := rfl
theorem e_ret : sRet fe ω = retS ω (fe ω) := rfl
theorem e_rs_sh : retS ω (some (.sh d)) = some (.rt (.sh d), ω) := rfl
theorem e_rs_fr : retS ω (some (.fr ds)) = some (.rt (.fr ds), ω) := rfl
theorem e_app : sApp i fd ω = appS i ω (fd ω) ω[i]? := rfl
theorem e_as (h : ds.length < 1000000) : appS i ω (some d) (some (some (.ow ds))) = some (.nx, ω.set i (some (.ow (ds ++ [d])))) := if_pos h
theorem e_share : sShare i f ω = f (shrS i ω ω[i]?) := rfl
theorem e_sh_ow : shrS i ω (some (some (.ow ds))) = ω.set i (some (.sh (.lst ds))) := rfl
theorem e_for : sFor fi fg f ω = forS (fi ω) fg f ω := rfl
theorem e_fs : forS (some ds) fg f ω = forD fg f ds ω := rfl
theorem e_var : fVar i ω = varR ω[i]? := rfl
theorem e_vr_sh : varR (some (some (.sh d))) = some (.sh d) := rfl
theorem e_vr_ow : varR (some (some (.ow ds))) = some (.vw ds) := rfl
theorem e_c : fC d ω = some d := rfl
theorem e_e : eOf fd ω = eD (fd ω) := rfl
theorem e_ed : eD (some d) = some (.sh d) := rfl
theorem e_d : dOf fe ω = dR (fe ω) := rfl
theorem e_dr_sh : dR (some (.sh d)) = some d := rfl
theorem e_dr_fr : dR (some (.fr ds)) = some (.lst ds) := rfl
theorem e_v : vOf fe ω = vR (fe ω) := rfl
theorem e_vv_sh : vR (some (.sh d)) = some d := rfl
theorem e_vv_fr : vR (some (.fr ds)) = some (.lst ds) := rfl
theorem e_vv_vw : vR (some (.vw ds)) = some (.lst ds) := rfl
theorem e_op {op} : fOpE op fd fd' ω = op2 op (fd ω) (fd' ω) := rfl
theorem e_o2 {op} : op2 op (some d) (some d') = op d d' := rfl
theorem e_call {m} : fCall m fa ω = callR m (fa ω) := rfl
theorem e_cl {m} : callR m (some ds) = (m ds).map O.r := rfl
theorem e_or_sh : (O.sh d).r = .sh d := rfl
theorem e_or_fr : (O.fr ds).r = .fr ds := rfl
theorem e_ac : aCons fd fa ω = consA (fd ω) (fa ω) := rfl
theorem e_ca : consA (some d) (some ds) = some (d :: ds) := rfl
theorem e_an : aNil ω = some [] := rfl
theorem e_lst : fLst fa ω = (fa ω).map R.fr := rfl
theorem e_tup : fTup fa ω = (fa ω).map D.tup := rfl
theorem e_blt {op} : fBlt op fa ω = bltR op (fa ω) := rfl
theorem e_bl {op} : bltR op (some ds) = op ds := rfl
theorem e_po : pNo ω = some none := rfl
theorem e_pa : pAt fd ω = atP (fd ω) := rfl
theorem e_ap : atP (some (.int a)) = some (some a) := rfl
theorem e_ite : fIte ft fe fe' ω = iteR (ft ω) fe fe' ω := rfl
theorem e_it_t : iteR (some true) fe fe' ω = fe ω := rfl
theorem e_it_f : iteR (some false) fe fe' ω = fe' ω := rfl
theorem e_isi {c} : fIsi c fd ω = isiR c (fd ω) := rfl
theorem e_isi_str {c x} : isiR c (some (.str x)) = some (.sh (.bl (subT .str c))) := rfl
theorem e_isi_lst {c} : isiR c (some (.lst ds)) = some (.sh (.bl (subT .lst c))) := rfl
theorem e_isi_tup {c} : isiR c (some (.tup ds)) = some (.sh (.bl (subT .tup c))) := rfl
theorem e_t : tOf fe ω = tR (fe ω) := rfl
theorem e_tr : tR (some (.sh (.bl p))) = some p := rfl
theorem e_tand : tAndF ft ft' ω = andT (ft ω) ft' ω := rfl
theorem e_ta : andT (some p) ft ω = if p = true then ft ω else some false := rfl
theorem e_ta2 : (if p = true then some q else some false) = some (p && q) := by cases p <;> rfl
theorem e_tor : tOrF ft ft' ω = orT (ft ω) ft' ω := rfl
theorem e_to : orT (some p) ft ω = if p = true then some true else ft ω := rfl
theorem e_tnot : tNotF ft ω = notT (ft ω) := rfl
theorem e_tn : notT (some p) = some (!p) := rfl
theorem e_ttru : tTru fd ω = truT (fd ω) := rfl
theorem e_tt_bl : truT (some (.bl p)) = some p := rfl
theorem e_vand : vAnd fd fd' ω = andV (fd ω) fd' ω := rfl
theorem e_va : andV (some (.bl p)) fd ω = if p = true then fd ω else some (.bl false) := rfl
theorem e_va2 : (if p = true then some (D.bl q) else some (D.bl false)) = some (.bl (p && q)) := by cases p <;> rfl
theorem e_vor : vOr fd fd' ω = orV (fd ω) fd' ω := rfl
theorem e_vo : orV (some (.bl p)) fd ω = if p = true then some (.bl true) else fd ω := rfl
theorem e_vo2 : (if p = true then some (D.bl true) else some (D.bl q)) = some (.bl (p || q)) := by cases p <;> rfl
theorem e_vnot : vNot fd ω = notV (fd ω) := rfl
theorem e_vn : notV (some (.bl p)) = some (.bl (!p)) := rfl
theorem e_rg1 : iRg1 fa ω = rg1I (fa ω) := rfl
theorem e_comp {M fr} : fComp M fr fi fg ft fd ω = compR M fr (fi ω) fg ft fd ω := rfl
theorem e_cp {M fr} (h : ds.length ≤ 1000000) : compR M fr (some ds) fg ft fd ω = (compD fg ft fd ds (inW M fr ω)).map R.fr := if_pos h
theorem e_neg : fNeg fd ω = (fd ω).bind oNeg := rfl
theorem e_ng : oNeg (.int a) = some (.sh (.int (-a))) := rfl
theorem e_tuple_l : bTuple [.lst ds] = some (.sh (.tup ds)) := rfl
theorem oEq_ii : oEq false (.int a) (.int b) = some (.sh (.bl (a == b))) := rfl
theorem oNe_ii : oEq true (.int a) (.int b) = some (.sh (.bl (!(a == b)))) := rfl
theorem oSub_ii : oSub (.int a) (.int b) = some (.sh (.int (a - b))) := rfl
theorem oLt_ii : oLt (.int a) (.int b) = some (.sh (.bl (decide (a < b)))) := rfl
theorem oLe_ii : oLe (.int a) (.int b) = some (.sh (.bl (decide (a ≤ b)))) := rfl
theorem oGt_ii : oGt (.int a) (.int b) = some (.sh (.bl (decide (b < a)))) := rfl
theorem oGe_ii : oGe (.int a) (.int b) = some (.sh (.bl (decide (b ≤ a)))) := rfl
theorem atI_nn {α : Type} {xs : List α} {i : Int} (h0 : 0 ≤ i) (h1 : i < xs.length) : atI xs i = some (xs[i.toNat]'(by omega)) := by
  unfold atI ixN
  rw [if_pos h0, if_pos h1]
  show xs[i.toNat]? = _
  rw [List.getElem?_eq_getElem (by omega)]
theorem at0 {α : Type} {x : α} {xs : List α} : atI (x :: xs) 0 = some x := by
  rw [atI_nn (by decide) (by rw [List.length_cons]; omega)]; rfl
theorem at1 {α : Type} {x y : α} {xs : List α} : atI (x :: y :: xs) 1 = some y := by
  rw [atI_nn (by decide) (by rw [List.length_cons, List.length_cons]; omega)]; rfl
theorem at2 {α : Type} {x y z : α} {xs : List α} : atI (x :: y :: z :: xs) 2 = some z := by
  rw [atI_nn (by decide) (by rw [List.length_cons, List.length_cons, List.length_cons]; omega)]; rfl
theorem cDiv_ok {i j : Int} (h0 : 0 < j) (h1 : j < 1073741824) : cDiv i j = true := by unfold cDiv; rw [decide_eq_true h0, decide_eq_true h1]; rfl
theorem cMod_ok {i j : Int} (h0 : 0 < j) : cMod i j = true := by unfold cMod; rw [decide_eq_true h0]
theorem cMulR_ok {i j : Int} (h0 : -(2 ^ 64) < j) (h1 : j < 2 ^ 64) : cMul i j = true := by unfold cMul; rw [decide_eq_true h0, decide_eq_true h1]; simp
theorem cMulL_ok {i j : Int} (h0 : -(2 ^ 64) < i) (h1 : i < 2 ^ 64) : cMul i j = true := by unfold cMul; rw [decide_eq_true h0, decide_eq_true h1]; simp
theorem oMod_ii (h : 0 < b) : oMod (.int a) (.int b) = some (.sh (.int (a % b))) := if_pos (cMod_ok h)
theorem oDiv_ii (h : 0 < b) (h' : b < 1073741824) : oDiv (.int a) (.int b) = some (.sh (.int (a / b))) := if_pos (cDiv_ok h h')
theorem oMulR_ii (h : -(2 ^ 64) < b) (h' : b < 2 ^ 64) : oMul (.int a) (.int b) = some (.sh (.int (a * b))) := if_pos (cMulR_ok h h')
theorem oMulL_ii (h : -(2 ^ 64) < a) (h' : a < 2 ^ 64) : oMul (.int a) (.int b) = some (.sh (.int (a * b))) := if_pos (cMulL_ok h h')
end
def stepS (o : Option (Out × WSt)) (P : WSt → Prop) : Prop := match o with
  | some (.nx, ω) => P ω
  | some (.ct, ω) => P ω
  | _ => False
theorem e_st_nx {ω : WSt} {P : WSt → Prop} : stepS (some (.nx, ω)) P = P ω := rfl
theorem forD_map {α : Type} {g : FG} {b : FS} (F : α → D) (xs : List α) (I : List α → WSt → Prop)
    (turn : ∀ pre x post ω, xs = pre ++ x :: post → I pre ω → ∃ w, g (F x) ω = some w ∧ stepS (b w) (I (pre ++ [x])))
    {ω : WSt} (h0 : I [] ω) : ∃ ω', forD g b (xs.map F) ω = some (.nx, ω') ∧ I xs ω' := by
  have key : ∀ (post pre : List α) (ω : WSt), xs = pre ++ post → I pre ω → ∃ ω', forD g b (post.map F) ω = some (.nx, ω') ∧ I xs ω' := by
    intro post
    induction post with
    | nil => intro pre ω e h; exact ⟨ω, rfl, by rw [e, List.append_nil]; exact h⟩
    | cons d post ih =>
      intro pre ω e h
      obtain ⟨w, h1, h2⟩ := turn pre d post ω e h
      rw [List.map_cons, forD, h1, Option.bind_some]
      match hb : b w, h2 with
      | some (.nx, ω2), h2 => exact ih (pre ++ [d]) ω2 (by rw [e, List.append_assoc]; rfl) h2
      | some (.ct, ω2), h2 => exact ih (pre ++ [d]) ω2 (by rw [e, List.append_assoc]; rfl) h2
  exact key xs [] ω rfl h0
theorem forD_upTo {g : FG} {b : FS} (lo : Int) (n : Nat) (I : Nat → WSt → Prop) (turn : ∀ i ω, i < n → I i ω → ∃ w, g (.int (lo + i)) ω = some w ∧ stepS (b w) (I (i + 1)))
    {ω : WSt} (h0 : I 0 ω) : ∃ ω', forD g b (Hk.upTo lo n) ω = some (.nx, ω') ∧ I n ω' := by
  unfold Hk.upTo
  obtain ⟨ω', e, h⟩ := forD_map (g := g) (b := b) (fun (i : Nat) => D.int (lo + (i : Int))) (List.range n) (fun pre ω => I pre.length ω) (fun pre x post ω e h => by
    have hx : x = pre.length := by
      have := congrArg (fun l => l[pre.length]?) e
      rw [List.getElem?_append_right (Nat.le_refl _), Nat.sub_self] at this
      rcases Nat.lt_or_ge pre.length n with z | z
      · rw [List.getElem?_range z] at this; simpa using this.symm
      · rw [List.getElem?_eq_none (by rw [List.length_range]; exact z)] at this; cases this
    have hlt : pre.length < n := by
      have := congrArg List.length e
      rw [List.length_range, List.length_append, List.length_cons] at this
      omega
    subst hx
    obtain ⟨w, h1, h2⟩ := turn pre.length ω hlt h
    refine ⟨w, h1, ?_⟩
    rw [List.length_append]; exact h2) h0
  rw [List.length_range] at h
  exact ⟨ω', e, h⟩
theorem cut_len {α : Type} {xs : List α} {lo hi : Option Int} : (cutD xs lo hi).length ≤ xs.length := by
  unfold cutD
  rw [List.length_take, List.length_drop]; omega
theorem eqD_refl {d : D} (h : shp d = true) : eqD d d = true := SeqAt.eqv_refl d.py (SeqAt.canLay_of_shaped h)
theorem oEq_self {d : D} (h : shp d = true) : oEq false d d = some (.sh (.bl true)) := by
  unfold oEq; rw [h]; show some (R.sh (D.bl (eqD d d))) = _; rw [eqD_refl h]
theorem oNe_self {d : D} (h : shp d = true) : oEq true d d = some (.sh (.bl false)) := by
  unfold oEq; rw [h]; show some (R.sh (D.bl (!eqD d d))) = _; rw [eqD_refl h]; rfl
end Hk
set_option maxRecDepth 100000
namespace Hk
open PySem L2
def insU (x : Int) : List Int → List Int
  | [] => [x]
  | y :: r => if x < y then x :: y :: r else if x = y then y :: r else y :: insU x r
def sortU (ns : List Int) : List Int := ns.foldr insU []
def fewS (ns : List Int) : Prop := (sortU ns).length < 64 ∧ ns.length < 4000
instance (ns : List Int) : Decidable (fewS ns) := inferInstanceAs (Decidable (_ ∧ _))
section
variable {X : Cx}
def intsOf : List D → Option (List Int)
  | [] => some []
  | .int i :: r => (intsOf r).map fun l => i :: l
  | _ => none
theorem intsOf_of : ∀ {ds : List D} {ns : List Int}, intsOf ds = some ns → ds = ns.map D.int
  | [], _, e => by cases e; rfl
  | .int c :: r, b, e => by
    obtain ⟨k, q, e⟩ := mpd e
    subst e
    rw [intsOf_of q]; rfl
  | .non :: _, _, e => by cases e
  | .bl _ :: _, _, e => by cases e
  | .str _ :: _, _, e => by cases e
  | .lst _ :: _, _, e => by cases e
  | .tup _ :: _, _, e => by cases e
  | .scr _ :: _, _, e => by cases e
  | .exc _ :: _, _, e => by cases e
  | .dic _ _ :: _, _, e => by cases e
theorem intsOf_map : ∀ (ns : List Int), intsOf (ns.map D.int) = some ns
  | [] => rfl
  | n :: r => by show (intsOf (r.map D.int)).map _ = _; rw [intsOf_map r]; rfl
end
end Hk
set_option maxRecDepth 100000
namespace PySem.F
end PySem.F
namespace Hk
open PySem PySem.Spec PyProof.Rows
section
variable {prog : Program} {w : World} {A : Around} {E : Value → Shared → Prop} {s : Shared}
end
end Hk
set_option maxRecDepth 100000
namespace Hk
open PySem PySem.Spec PySem.W PyProof.Rows
section
variable {prog : Program} {w : World} {A : Around} {E : Value → Shared → Prop} {R : Result → Shared → Prop} {s : Shared}
end
end Hk
set_option maxRecDepth 100000
namespace Hk
open PySem L2
section
variable {X : Cx} {pins : List (Addr × Obj)} {σ : St} {H H' : Hp} {s : Shared}
end
end Hk
set_option maxRecDepth 100000
namespace Hk
open PySem L2
def minL : List Int → Int
  | [] => 0
  | [x] => x
  | x :: y :: r => if minL (y :: r) ≤ x then minL (y :: r) else x
theorem minL_ok : ∀ {ns : List Int}, ns ≠ [] → minL ns ∈ ns ∧ ∀ a ∈ ns, minL ns ≤ a
  | [x], _ => ⟨by simp [minL], fun a h => by simp at h; subst h; exact Int.le_refl _⟩
  | x :: y :: r, _ => by
    obtain ⟨h1, h2⟩ := minL_ok (ns := y :: r) (by simp)
    unfold minL
    split
    · rename_i h
      refine ⟨List.mem_cons_of_mem _ h1, fun a ha => ?_⟩
      rcases List.mem_cons.mp ha with rfl | ha
      · exact h
      · exact h2 a ha
    · rename_i h
      refine ⟨List.mem_cons_self, fun a ha => ?_⟩
      rcases List.mem_cons.mp ha with rfl | ha
      · exact Int.le_refl _
      · have := h2 a ha; omega
section
variable {X : Cx}
end
end Hk
set_option maxRecDepth 100000
namespace Hk
open PySem L2
section
variable {X : Cx} {c : Expr} {body : List Stmt} {fc : FT} {fb : FS} {pos : Pos} {n : Nat}
end
section
variable {fc : FT} {fb : FS}
end
end Hk
namespace Hk
open PySem L2
section
variable {X : Cx} {pos : Pos} {o : Expr} {apos cpos : Pos} {i : Nat}
end
end Hk
set_option maxRecDepth 100000
namespace Hk
open PySem L2
abbrev FM := WSt → Option (D × WSt)
section
variable {X : Cx} {pos : Pos} {o e : Expr} {apos cpos pos' : Pos} {i : Nat} {fd : FD} {f : FM}
end
end Hk
set_option maxRecDepth 100000
namespace Hk
open PySem L2
section
variable {X : Cx} {a b c : Expr} {pos : Pos} {fa fb fc : FD} {op op' : CmpOp} {p p' : Int → Int → Bool}
end
end Hk
set_option maxRecDepth 100000
namespace Hk
open PySem L2
section
variable {X : Cx}
end
end Hk
set_option maxRecDepth 100000
namespace Hk
open PySem PySem.Spec PyProof.Rows
section
variable {prog : Program} {w : World} {A : Around} {E : Value → Shared → Prop} {s : Shared}
end
open L2
section
variable {X : Cx}
end
end Hk
set_option maxRecDepth 100000
namespace L2
open PySem PySem.Spec PyProof.Rows
end L2
namespace Hk
open PySem L2
section
open PySem.Spec PyProof.Rows
variable {X : Cx}
end
end Hk
set_option maxRecDepth 100000
namespace Hk
open PySem L2 PyProof.Rows
section
variable {X : Cx} {pos : Pos} {o e : Expr} {apos cpos : Pos} {i : Nat} {fd : FD}
end
end Hk
set_option maxRecDepth 100000
namespace Hk
open PySem L2
section
variable {X : Cx} {o c : Expr} {body : List Stmt} {pos ipos npos : Pos} {i j : Nat} {fc : FT} {fb : FS}
end
end Hk
set_option maxRecDepth 100000
namespace Hk
open PySem L2
section
variable {ω : WSt} {fe : FE} {fd : FD} {fa : FA} {r : R} {ds as bs : List D} {i j : Nat} {f : FS} {ft : FT} {m : List D → List D}
end
end Hk
set_option maxRecDepth 100000
namespace L2
open PySem PySem.Spec PyProof.Rows
section
variable {κ : Type} [DecidableEq κ]
end
section
variable {P : Program} {w : World} {H : Hp} {h : Heap} {a : Addr}
end
section
variable {X : Cx} {pins : List (Addr × Obj)} {σ : St} {H : Hp} {s : Shared} {a : Addr} {y v : V} {u r : Value} {o : Option V} {A : Around} {E : Value → Shared → Prop}
end
section
variable {X : Cx} {pins : List (Addr × Obj)} {σ : St} {H : Hp} {s : Shared} {a : Addr} {kvs : List (Key × V)} {k : Key} {u : Value} {A : Around} {E : Value → Shared → Prop}
end
section
variable {X : Cx} {o i e value : Expr} {pos pos' tpos : Pos} {td ty tv : TE}
end
section
variable {X : Cx} {pos : Pos}
end
section
variable {X : Cx} {pins : List (Addr × Obj)} {σ : St} {H : Hp} {s : Shared} {a : Addr} {y d : V} {u r : Value} {o : Option V} {A : Around} {E : Value → Shared → Prop}
end
section
variable {X : Cx} {o e f : Expr} {apos cpos : Pos} {td ty tx : TE}
end
section
variable {X : Cx} {pins : List (Addr × Obj)} {σ : St} {H : Hp} {s : Shared} {a : Addr} {kvs : List (Key × V)} {A : Around} {E : Value → Shared → Prop}
end
section
variable {X : Cx} {pins : List (Addr × Obj)} {σ : St} {H : Hp} {s : Shared} {a : Addr} {y : V} {u : Value} {A : Around} {E : Value → Shared → Prop}
end
end L2
set_option maxRecDepth 100000
namespace Hk
open PySem L2
section
variable {K : PySem.W.Frag} {G : Hp}
end
section
variable {X : Cx} {o k e : Expr} {pos pos' dpos : Pos} {i : Nat} {fk fv : FD}
end
end Hk
set_option maxRecDepth 100000
namespace Hk
open PySem L2
section
variable {X : Cx} {o k e : Expr} {pos pos' dpos : Pos} {i : Nat} {fk fv : FD}
end
section
open PySem.Spec PyProof.Rows PySem.W
variable {prog : Program} {w : World} {A : Around} {E : Value → Shared → Prop} {s : Shared}
end
section
variable {X : Cx} {o : Expr} {i : Nat}
end
end Hk
set_option maxRecDepth 100000
namespace Hk
open PySem L2
section
variable {X : Cx}
end
end Hk
set_option maxRecDepth 100000
namespace Hk
open PySem L2
section
variable {ω : WSt} {fk fv : FD} {i j : Nat} {ks : List Int} {ds : List D} {k : Int} {d : D} {neg : Bool}
end
end Hk
set_option maxRecDepth 100000
namespace Hk
open PySem L2
section
variable {X : Cx} {o k e : Expr} {pos pos' : Pos} {i : Nat} {fk fv : FD}
end
end Hk
set_option maxRecDepth 100000
namespace Hk
open PySem L2
section
variable {X : Cx} {e : Expr} {pos pos' : Pos} {i : Nat} {fe : FD}
end
section
open PySem.Spec PyProof.Rows
variable {X : Cx}
end
end Hk
namespace L2
open PySem PySem.Spec PyProof.Rows
end L2
namespace Hk
open PySem L2
end Hk
set_option maxRecDepth 100000
namespace Hk
open PySem L2
section
variable {ω : WSt} {fk fv : FD} {fa : FA} {i j : Nat} {ds : List D} {a b c : Int} {d : D} {g : Int → Int → Int}
end
end Hk
set_option maxRecDepth 100000
namespace Hk
open PySem L2
end Hk
set_option maxRecDepth 100000
namespace L2
open PySem PySem.Spec PyProof.Rows
end L2
namespace Hk
open PySem L2
end Hk
namespace Hk
open PySem L2
end Hk
namespace Hk
open PySem L2
section
open PyProof.Rows PySem.Spec
variable {prog : Program} {w : World} {A : Around} {E : Value → Shared → Prop} {s : Shared} {l : Addr} {xs : Array (Int × Tok)}
theorem iter_intTup {Q : Value → Shared → Prop} (hl : s.heap.IsTuple l (intItems xs))
    (h : ∀ s₂ : Shared, s₂ = { s with heap := s.heap.push { cls := .type "tuple_iterator", data := .fields #[.ref l, .int 0 0] } } →
      (s₂.heap.IsTupleIter s.heap.objs.size l 0 ∧ s₂.heap.IsTuple l (intItems xs)) → (∀ b ∈ [s.heap.objs.size, l], b < s₂.heap.objs.size) → l ≠ s.heap.objs.size → Q (.ref s.heap.objs.size) s₂) :
    wpAny (model prog w) A (pyIter (.ref l)) Q E s := by
  have hlt : l < s.heap.objs.size := by obtain ⟨_, e, _⟩ := hl; exact Heap.lt_size e
  refine wpAny_pyIter_tuple hl (h _ rfl ⟨⟨_, Heap.get?_push_size _ rfl, rfl, rfl⟩, hl.at fun o e => Heap.get?_push_of_some _ e⟩ (fun b hb => ?_) (Nat.ne_of_lt hlt))
  show b < (s.heap.push _).objs.size
  rw [Heap.size_push]
  rcases List.mem_cons.mp hb with rfl | hb
  · exact Nat.lt_succ_self _
  · rcases List.mem_cons.mp hb with rfl | hb
    · exact Nat.lt_succ_of_lt hlt
    · cases hb
theorem kept_tup {h' : Heap} (hk : ∀ b o, b ∉ [s.heap.objs.size] → (s.heap.push { cls := .type "tuple_iterator", data := .fields #[.ref l, .int 0 0] }).get? b = some o → h'.get? b = some o) :
    ∀ b o, s.heap.get? b = some o → h'.get? b = some o := fun b o e => by
  refine hk b o (fun hm => ?_) (Heap.get?_push_of_some _ e)
  rcases List.mem_cons.mp hm with e1 | hm
  · exact absurd (e1 ▸ Heap.lt_size e) (Nat.lt_irrefl _)
  · cases hm
theorem min_intTup {Q : Value → Shared → Prop} (hh : A.handled = none) (hl : s.heap.IsTuple l (intItems xs)) (hne : 0 < xs.size)
    (h : ∀ v h' tk, (intItems xs)[argBest (fun i j => decide (numAt xs i < numAt xs j)) (xs.size - 1)]? = some v → (∀ b o, s.heap.get? b = some o → h'.get? b = some o) → Q v { s with heap := h', toks := tk }) :
    wpAny (model prog w) A (call (.builtin "min") [.ref l]) Q E s := by
  refine call_min_walk (iter_intTup hl fun s₂ e st hfp hlI => ?_)
  subst e
  refine ⟨_, _, _, _, _, _, _, rfl, Walks.tuple (A := A.in1) hh _ l hlI (intItems xs), st, hfp, by simpa [intItems] using hne, CmpOf.ints_lt (numAt xs) (fun _ _ => intItems_at), fun v h' tk hP hk => ?_⟩
  exact h v h' tk (by simpa [intItems] using hP) (kept_tup hk)
end
def rMinT (K : PySem.W.Frag) : List V → Hp → VK → Prop := fun xs H Q => ∃ (p : Addr) (ns : List Int), xs = [.ref p] ∧ SqT K H p (ns.map V.int) ∧ ns ≠ [] ∧ Q (.int (minL ns)) H
section
variable {X : Cx}
open PyProof.Rows PySem.Spec
theorem call_minT (hc : X.calm = true) : CallR X (.builtin "min") (rMinT X.K) := by
  intro pins s σ H xs us Q I r h
  obtain ⟨p, ns, rfl, hp, hne, q⟩ := h
  obtain ⟨u, rfl, rx⟩ := vals1 r
  cases rx
  obtain ⟨its, rv, e, hz⟩ := I.tuple hp
  have hi := intsAre_of rv
  obtain ⟨ys, ey⟩ := hi.allInts.items
  have hns : ns = ys.toList.map (·.1) := by rw [← hi.numsOf, ← nums_intItems, ← ey]
  have hl : s.heap.IsTuple p its.toArray := e
  rw [ey] at hl
  have hsz : 0 < ys.size := by
    have h3 := List.length_pos_iff.mpr hne; rw [hns, List.length_map, Array.length_toList] at h3; exact h3
  refine min_intTup (I.ok.hd hc) hl hsz fun v h' tk hv hk => ?_
  obtain ⟨t, rfl⟩ := intItems_at hv
  obtain ⟨h1, h2⟩ := argBest_lt (numAt ys) (ys.size - 1)
  have em : numAt ys (argBest (fun i j => decide (numAt ys i < numAt ys j)) (ys.size - 1)) = minL ns := by
    obtain ⟨m1, m2⟩ := minL_ok hne
    apply Int.le_antisymm
    · rw [hns] at m1
      obtain ⟨j, hj, ej⟩ := mem_getD m1
      rw [List.length_map, Array.length_toList] at hj
      rw [← hns] at ej
      rw [← ej, hns, ← numAt_eq]; exact h2 j (by omega)
    · apply m2
      rw [hns, numAt_eq]; exact getD_mem (by rw [List.length_map, Array.length_toList]; omega)
  rw [em]
  exact ⟨.int _, H, I.kept (t' := tk) hk, ⟨_, rfl⟩, q⟩
def bMinT : List D → Option R
  | [.tup ds] => (intsOf ds).bind fun ns => if ns = [] then none else some (.sh (.int (minL ns)))
  | _ => none
theorem cd_minT {K : PySem.W.Frag} : CallD K (rMinT K) bMinT := by
  intro G H ds vs d Q s e hv k
  match ds, e with
  | [.tup ds], e =>
    obtain ⟨ns, e1, e2⟩ := bnd (show (intsOf ds).bind _ = some d from e)
    have hds := intsOf_of e1
    subst hds
    by_cases hz : ns = []
    · rw [if_pos hz] at e2; cases e2
    · rw [if_neg hz] at e2
      cases e2
      obtain ⟨v, rfl, h⟩ := hv.one
      rcases h with ⟨p, us, rfl, h1, h2⟩ | ⟨ds', l, vs, e3, _⟩
      · exact ⟨p, ns, rfl, by rw [← h2.of_ints]; exact SqT.of (s _ _ h1), hz, k _ G H (Ext.refl s) rfl⟩
      · cases e3
theorem bMinT_i {ns : List Int} (h : ns ≠ []) : bMinT [.tup (ns.map D.int)] = some (.sh (.int (minL ns))) := by
  show (intsOf (ns.map D.int)).bind _ = _
  rw [intsOf_map]; exact if_neg h
end
end Hk
set_option maxRecDepth 100000
namespace Hk
open PySem PySem.Spec PyProof.Rows L2
section
variable {prog : Program} {w : World} {A : Around} {E : Value → Shared → Prop} {s : Shared}
end
end Hk
namespace L2
open PySem PySem.Spec PyProof.Rows Hk
end L2
namespace Hk
open PySem L2
end Hk
set_option maxRecDepth 100000
namespace Hk
open PySem PySem.Spec L2 PyProof.Rows
section
variable {P : Program} {w : World} {H : Hp} {h : Heap} {a : Addr} {o : HO}
theorem objOk_there (x : ObjOk P w H h a o) : ∃ u, h.get? a = some u := by
  cases o with
  | lst xs => obtain ⟨_, _, _, _, e⟩ := x; exact ⟨_, e⟩
  | tup xs => obtain ⟨_, _, _, ob, e, _⟩ := x; exact ⟨_, e⟩
  | dK kvs => obtain ⟨_, _, _, _, o, _, _, e, _⟩ := x; exact ⟨_, e⟩
  | dT kvs => obtain ⟨_, _, _, _, o, _, _, e, _⟩ := x; exact ⟨_, e⟩
  | set S n => obtain ⟨o, _, _, _, e, _⟩ := x; exact ⟨_, e⟩
  | ins C dx fs => obtain ⟨_, _, _, e, _⟩ := x; exact ⟨_, e⟩
  | own y => exact x
  | xd fs => obtain ⟨_, ⟨_, _, _, e, _⟩, _⟩ := x; exact ⟨_, e⟩
  | rng lo hi => obtain ⟨_, _, _, e⟩ := x; exact ⟨_, e⟩
  | frz ob u => obtain ⟨e, _⟩ := x; exact ⟨_, e⟩
  | tbl ps => exact ⟨_, (show h.get? a = some _ from x)⟩
  | met f y => exact ⟨_, (show h.get? a = some _ from x)⟩
  | ext φ => obtain ⟨_, e, _⟩ := x; exact e
end
def Fly (l : List Env) (H0 : Hp) (s0 : Shared) (H : Hp) (ea : Addr) (cls : Value) (h : Heap) : Prop :=
  ∃ B t, Heap.FlyingW B l ea cls (.ref t) h ∧ (∀ b o, H b = some o → ∃ u, B.get? b = some u) ∧ ∀ b o, s0.heap.get? b = some o → b ∉ frs l → ∃ u, B.get? b = some u ∧ (H0 b = none → u = o)
def CXe (P : Program) (w : World) : CXT := fun outer H s E e s' => ∃ ea cls H', e = .ref ea ∧ s'.os = s.os ∧ AllBare s'.gens ∧ Un (frs outer) [] H H' s.heap s'.heap ∧ HOk P w H' s'.heap ∧ Fly outer H s H' ea cls s'.heap ∧ H' ea = none ∧ s.heap.get? ea = none ∧ E cls none H'
section
variable {X : Cx} {pins : List (Addr × Obj)} {σ : L2.St} {H : Hp} {s : Shared} {h' : Heap}
theorem not_stk (I : L2.Inv X pins σ H s) {b : Addr} {o : Obj} (e : X.s₀.heap.get? b = some o) (n : b ∉ X.fs) : b ∉ frs X.stack := fun z => by
  rcases List.mem_cons.mp (I.stkSub b z) with y | y
  · rw [y] at e; exact absurd (Nat.lt_of_lt_of_le (Heap.lt_size e) I.ok.above) (Nat.lt_irrefl _)
  · exact n y
theorem un_left (I : L2.Inv X pins σ H s) (hex : X.ex = []) (big : ∀ b o, X.s₀.heap.get? b = some o → b ∉ X.fs → ∃ u, h'.get? b = some u ∧ (X.H₀ b = none → u = o)) (sl : s.heap.UpToSlots h') : Un X.fs [] X.H₀ H X.s₀.heap h' := by
  have no : ∀ b : Addr, b ∉ X.ex := fun b z => by rw [hex] at z; cases z
  have frame : ∀ b o, b ∈ X.fs → s.heap.get? b = some o → ∃ sl, h'.get? b = some { o with slots := sl } := fun b o hb e => by
    have hs : b ∈ frs X.stack := by
      rcases I.ok.stk with q | ⟨q, _⟩
      · rw [q]; exact hb
      · rw [q]
        unfold frs
        rw [List.filterMap_cons]
        split
        · exact hb
        · exact List.mem_cons_of_mem _ hb
    obtain ⟨_, o', ho', hd⟩ := I.stack.mem hs
    rw [e] at ho'
    cases ho'
    exact sl b o e hd
  refine ⟨fun b o e n hb _ => ?_, fun b o e n hb _ => ?_, fun b o e n _ => I.base.free b o e n (no b), fun b o e _ => ?_, I.base.tups, I.base.frzs, I.base.tbls⟩
  · obtain ⟨u, e1, e2⟩ := big b o e hb
    rw [e1, e2 n]
  · obtain ⟨sl1, e1⟩ := I.base.slot b o e n hb (no b)
    obtain ⟨sl2, e2⟩ := frame b _ hb e1
    exact ⟨sl2, e2⟩
  · by_cases hb : b ∈ X.fs
    · obtain ⟨o', e1⟩ := I.base.there b o e (no b)
      obtain ⟨sl2, e2⟩ := frame b _ hb e1
      exact ⟨_, e2⟩
    · obtain ⟨u, e1, _⟩ := big b o e hb
      exact ⟨u, e1⟩
theorem hok_left (I : L2.Inv X pins σ H s) (big : ∀ b o, H b = some o → ∃ u, s.heap.get? b = some u ∧ h'.get? b = some u) : HOk X.prog X.w H h' := fun b o e => by
  refine (I.hok b o e).stay (fun c u hc q => ?_) (fun _ q => q) fun _ _ q => q
  have : ∃ o', H c = some o' := by
    rcases hc with rfl | hc
    · exact ⟨o, e⟩
    · exact ⟨_, hc⟩
  obtain ⟨o', e'⟩ := this
  obtain ⟨u', q1, q2⟩ := big c o' e'
  rw [q] at q1
  cases q1
  exact q2
theorem leave_made {E : XK} {cls : Value} {vs : List Value} {ea L : Addr} {A : Around} {h : Heap} {Er : Value → Shared → Prop} (hst : X.stack = X.env :: X.outer) (hf : X.env.frame = some L) (hex : X.ex = []) (I : L2.Inv X pins σ H { s with heap := h }) (hx : Heap.MadeExcOf h s.heap ea cls vs) (hfr : A.frames = some X.stack) (hE : E cls none H) :
    wpAny (model X.prog X.w) A (leaving X.env (.ref ea)) (fun _ s' => CXe X.prog X.w X.outer X.H₀ X.s₀ E (.ref ea) s') Er s := by
  have hin : ∀ env ∈ X.stack, ∀ b, env.frame = some b → b ∈ frs X.stack := fun env he b hb => List.mem_filterMap.mpr ⟨env, he, hb⟩
  have hl := PySem.W.funFrames_hide I.stack hin
  rw [hst] at hl hfr
  refine wpAny_leaves_madeW hfr hf (fun b o q => PySem.W.of_hideAll _ q) hl hx fun h' t x1 x2 x3 x4 => ?_
  have keep : ∀ b o, h.get? b = some o → b ∉ frs X.stack → h'.get? b = some o := fun b o e n => x1.1 b o (PySem.W.hideAll_get _ e (by rw [← hst]; exact n))
  have up : Heap.UpToSlots h h' := fun b o e d => x4 b o (hx.keeps b o e) d
  have big : ∀ b o, X.s₀.heap.get? b = some o → b ∉ X.fs → ∃ u, h.get? b = some u ∧ b ∉ frs X.stack ∧ (X.H₀ b = none → u = o) := fun b o e n => by
    obtain ⟨u, e1⟩ := I.base.there b o e (by rw [hex]; simp)
    refine ⟨u, e1, not_stk I e n, fun z => ?_⟩
    have := I.base.keep b o e z n (by rw [hex]; simp)
    rw [e1] at this; exact Option.some.inj this
  have trk : ∀ b o, H b = some o → ∃ u, h.get? b = some u ∧ b ∉ frs X.stack := fun b o e => by
    obtain ⟨u, e1⟩ := objOk_there (I.hok b o e)
    exact ⟨u, e1, fun z => by rw [I.stkFree b z] at e; cases e⟩
  have ne : H ea = none := by
    cases q : H ea with
    | none => rfl
    | some o => obtain ⟨u, e1, _⟩ := trk ea o q; rw [hx.new] at e1; cases e1
  have n0 : X.s₀.heap.get? ea = none := by
    cases q : X.s₀.heap.get? ea with
    | none => rfl
    | some o => obtain ⟨u, e1⟩ := I.base.there ea o q (by rw [hex]; simp); rw [show h.get? ea = none from hx.new] at e1; cases e1
  refine ⟨ea, cls, H, rfl, I.os, I.bare, un_left I hex (fun b o e n => ?_) up, hok_left I fun b o e => ?_, ⟨_, t, x1, fun b o e => ?_, fun b o e n => ?_⟩, ne, n0, hE⟩
  · obtain ⟨u, e1, e2, e3⟩ := big b o e n
    exact ⟨u, keep b u e1 e2, e3⟩
  · obtain ⟨u, e1, e2⟩ := trk b o e
    exact ⟨u, e1, keep b u e1 e2⟩
  · obtain ⟨u, e1, e2⟩ := trk b o e
    exact ⟨u, PySem.W.hideAll_get _ e1 (by rw [← hst]; exact e2)⟩
  · obtain ⟨u, e1, e2, e3⟩ := big b o e n
    exact ⟨u, PySem.W.hideAll_get _ e1 (by rw [← hst]; exact e2), e3⟩
theorem inv_raised {E : XK} {e : Value} {s' : Shared} (I : L2.Inv X pins σ H s) (c : CXe X.prog X.w X.stack H s E e s') : ∃ ea cls H', e = .ref ea ∧ L2.Inv X pins σ H' s' ∧ Fly X.stack H s H' ea cls s'.heap ∧ H' ea = none ∧ s.heap.get? ea = none ∧ E cls none H' := by
  obtain ⟨ea, cls, H', he, os, bare, un, hok, fl, ne, n0, q⟩ := c
  exact ⟨ea, cls, H', he, I.call' (ch := []) os un hok bare (fun b z => absurd z (by simp)), fl, ne, n0, q⟩
theorem leave_fly {E E' : XK} {e : Value} {s' : Shared} {L : Addr} {A : Around} {Er : Value → Shared → Prop} (hst : X.stack = X.env :: X.outer) (hf : X.env.frame = some L) (hex : X.ex = []) (I : L2.Inv X pins σ H s) (c : CXe X.prog X.w X.stack H s E e s') (hfr : A.frames = some X.stack) (hE : ∀ cls H', E cls none H' → E' cls none H') :
    wpAny (model X.prog X.w) A (leaving X.env e) (fun _ s'' => CXe X.prog X.w X.outer X.H₀ X.s₀ E' e s'') Er s' := by
  obtain ⟨ea, cls, H', rfl, I', ⟨B, t, fl, b1, b2⟩, ne, n0, q⟩ := inv_raised I c
  rw [hst] at hfr fl
  refine wpAny_leaves_onW hfr hf fl fun h' x1 x4 => ?_
  have no : ∀ b : Addr, b ∉ X.ex := fun b z => by rw [hex] at z; cases z
  have big : ∀ b o, X.s₀.heap.get? b = some o → b ∉ X.fs → ∃ u, B.get? b = some u ∧ (X.H₀ b = none → u = o) := fun b o e n => by
    obtain ⟨o1, e1⟩ := I.base.there b o e (no b)
    obtain ⟨u, e2, e3⟩ := b2 b o1 e1 (not_stk I e n)
    refine ⟨u, e2, fun z => ?_⟩
    have k := I.base.keep b o e z n (no b)
    rw [e1] at k
    cases k
    exact e3 (I.base.free b o e z (no b))
  have n00 : X.s₀.heap.get? ea = none := by
    cases q : X.s₀.heap.get? ea with
    | none => rfl
    | some o => obtain ⟨u, e1⟩ := I.base.there ea o q (no ea); rw [n0] at e1; cases e1
  refine ⟨ea, cls, H', rfl, I'.os, I'.bare, un_left I' hex (fun b o e n => ?_) x4, hok_left I' fun b o e => ?_, ⟨B, t, x1, b1, fun b o e n => big b o e n⟩, ne, n00, hE _ _ q⟩
  · obtain ⟨u, e1, e2⟩ := big b o e n
    exact ⟨u, x1.1 b u e1, e2⟩
  · obtain ⟨u, e1⟩ := b1 b o e
    exact ⟨u, fl.1 b u e1, x1.1 b u e1⟩
end
end Hk
set_option maxRecDepth 100000
namespace Hk
open PySem PySem.Spec L2 PyProof.Rows
abbrev vErr : List Value := [.type "ValueError", .type "Exception", .type "BaseException", .type "object"]
structure ECls (K : PySem.W.Frag) (x : Str) (C : Addr) : Prop where
  nm : PySem.W.nsIn K mainGlobals x = some (some (.ref C))
  cl : PySem.W.excIn K C vErr "ValueError.__new__" = true
theorem ecls_obj {K : PySem.W.Frag} {h : Heap} {C : Addr} {bmB : List Value} {newId : String} (KI : K.In h) (q : PySem.W.excIn K C bmB newId = true) :
    ∃ tl N nm qn bs hdct sn sub ab col dd k0 k1 k2 k3 k5, ∃ mN : Str → Option Value, h.get? C = some (excClassObj nm qn C N bs tl hdct sn sub ab col dd k0 k1 k2 k3 k5 newId) ∧ h.Ns N mN ∧ mN "__init__" = none ∧ OwnTail h bmB tl := by
  unfold PySem.W.excIn at q
  split at q
  case h_2 => cases q
  case h_1 dd cd sl look =>
    split at q
    case h_2 => cases q
    case h_1 C1 bm j0 j1 j2 j3 n1 j5 em es =>
      obtain ⟨nm, bs, mro, N, qn, hd, sn, sub, ab, col, del⟩ := cd
      obtain ⟨sll⟩ := sl
      simp only [Bool.and_eq_true, beq_iff_eq, Bool.not_eq_true'] at q em es
      obtain ⟨⟨⟨⟨⟨c1, c2⟩, c3⟩, c4⟩, c5⟩, c6⟩ := q
      subst em es c1 c2 c3
      exact ⟨bm, N, nm, qn, bs, hd, sn, sub, ab, col, dd, j0, j1, j2, j3, j5, _, KI _ _ look, .of_isNs (PySem.W.isNs_of_in KI c5), PySem.W.nsMap_none_of_in KI c5 c6, PySem.W.tail_of_in KI c4⟩
section
variable {X : Cx} {E : XK}
def PassesMade (X : Cx) (C : Addr) (E : XK) : Prop := ∀ (pins : List (Addr × Obj)) (σ : L2.St) (H : Hp) (h : Heap) (ea : Addr) (vs : List Value) (s' : Shared), L2.Inv X pins σ H { s' with heap := h } → Heap.MadeExcOf h s'.heap ea (.ref C) vs → E (.ref C) none H → X.xe (.ref ea) s'
def tRaise (t : TA) (C : Addr) (E : XK) : TS := fun _ σ H => t σ H fun vs H1 => vs.length ≤ sizeLine ∧ E (.ref C) none H1
theorem ps_raise {x : Str} {C : Addr} {e0 : Expr} {t : TA} {np cpos pos : Pos} (hg : Gl X x) (hm : X.mg x = some (.ref C)) (hc : X.calm = true) (ec : ECls X.K x C) (ha : PA X [e0] t) (hx : PassesMade X C E) (hdb : (x == ("__debug__" : Str)) = false := by decide)
    (he : starEach [e0] X.env = [(false, eval e0 X.env)] := by rfl) : PS X (.Raise (some (.Call (.Name x np) [e0] [] cpos)) none pos) (tRaise t C E) := by
  intro pins s σ H D I h
  obtain ⟨tl, N, nm, qn, bs, hdct, sn, sub, ab, col, dd, k0, k1, k2, k3, k5, mN, hC, hN, hni, T⟩ := ecls_obj I.ok.mod.kin ec.cl
  have FB := PySem.F.excBase_ValueError
  refine wpAny_Raise_call_subT (C := C) (nm := nm) (q := qn) (N := N) (bs := bs) (bm := tl) (hdct := hdct) (sn := sn) (sub := sub) (ab := ab) (col := col) (dd := dd) (k0 := k0) (k1 := k1) (k2 := k2) (k3 := k3) (k5 := k5)
    FB (mN := mN) (T.hasType FB.hasBase) (I.ok.hd hc) (by rw [he]; rfl) hni (ld_glob I hg hm ⟨rfl, ?_⟩ hdb)
  have ha' := ha cpos pins s σ H _ I h
  rw [he] at ha' ⊢
  refine Calls.evalArgs_plain (wpAny_mono ha' (fun vs s2 h2 => ?_) fun _ _ y => y)
  obtain ⟨ws, H2, I2, r, hz, hE⟩ := h2
  exact ⟨rfl, by rw [← r.length]; exact hz, I2.bk _ _ hC, hN.keeps I2.bk, T.keeps I2.bk, fun h' ea hm' => hx pins σ H2 s2.heap ea vs { s2 with heap := h' } I2 hm' hE⟩
end
abbrev FX := WSt → Option Str
def clsIn (K : PySem.W.Frag) (c : Str) (C : Addr) : Prop := PySem.W.nsIn K mainGlobals c = some (some (.ref C))
def SimXS (K : PySem.W.Frag) (E : XK) (t : TS) (g : FX) : Prop := ∀ G0 H0 G ω σ H (D : Ends) c C, Own K G0 H0 G ω σ H → g ω = some c → clsIn K c C → (∀ G' H', Ext G0 H0 G' H' → E (.ref C) none H') → t D σ H
def YS (X : Cx) (E : XK) (st : Stmt) (g : FX) : Prop := ∃ t, PS X st t ∧ SimXS X.K E t g
def YSs (X : Cx) (E : XK) (st : List Stmt) (g : FX) : Prop := ∃ t, PSs X st t ∧ SimXS X.K E t g
def spX (K : PySem.W.Frag) (n : Nat) (g : List D → Option Str) : Sp := fun vs H _ E => ∃ G ds c C, g ds = some c ∧ clsIn K c C ∧ ds.length = n ∧ Same G H ∧ Reps K G ds vs ∧ ∀ G' H', Ext G H G' H' → E (.ref C) none H'
def yNo : FX := fun _ => none
def yRaise (x : Str) : FX := fun _ => some x
def yIf (c : FT) (g g' : FX) : FX := fun ω => (c ω).bind fun b => if b = true then g ω else g' ω
def ySeq (g : FX) (f : FS) (g' : FX) : FX := fun ω => match g ω with
  | some c => some c
  | none => (f ω).bind fun p => match p.1 with
    | .nx => g' p.2
    | _ => none
section
variable {X : Cx} {E : XK} {st : Stmt} {rest : List Stmt} {e : Expr} {es : List Expr} {pos : Pos} {g g' : FX}
theorem PS.lift {t : TS} (h : PS X.nox st t) : PS X st t := fun pins s σ H D I k => wpAny_mono (h pins s σ H D (I.wish _) k) (fun _ _ q => q.unwish) fun _ _ z => False.elim z
theorem XS.lift {f : FS} (h : XS X.nox st f) : XS X st f := let ⟨t, h1, h2⟩ := h; ⟨t, PS.lift h1, h2⟩
theorem ys_no : YS X E st yNo := ⟨_, ps_never, fun G0 H0 G ω σ H D c C o e => by cases e⟩
theorem yss_cons {f : FS} (h : YS X E st g) (hn : XS X st f) (h' : YSs X E rest g') : YSs X E (st :: rest) (ySeq g f g') := by
  obtain ⟨t1, a1, a2⟩ := h
  obtain ⟨t2, b1, b2⟩ := hn
  obtain ⟨t3, c1, c2⟩ := h'
  refine ⟨tSeq (fun D σ H => t1 D σ H ∨ t2 D σ H) t3, pss_cons (fun pins s σ H D I q => ?_) c1, fun G0 H0 G ω σ H D c C o e hc hw => ?_⟩
  · rcases q with q | q
    · exact a1 pins s σ H D I q
    · exact b1 pins s σ H D I q
  · unfold ySeq at e
    cases q : g ω with
    | some c' => rw [q] at e; cases e; exact .inl (a2 G0 H0 G ω σ H _ c C o q hc hw)
    | none =>
      rw [q] at e
      obtain ⟨⟨out, ω1⟩, q2, e⟩ := bnd e
      cases out with
      | nx => exact .inr (b2 G0 H0 G ω σ H .nx ω1 _ o q2 fun G1 σ1 H1 o1 s1 => c2 G0 H0 G1 ω1 σ1 H1 D c C o1 e hc hw)
      | _ => cases e
theorem ys_raise {x : Str} {C : Addr} {e0 : Expr} {np cpos : Pos} {ga : FA} (hg : Gl X x) (hm : X.mg x = some (.ref C)) (hc : X.calm = true) (ec : ECls X.K x C) (ha : XA X [e0] ga) (hga : ∀ ω, ∃ ds, ga ω = some ds) (hx : PassesMade X C E) (hdb : (x == ("__debug__" : Str)) = false := by decide)
    (he : starEach [e0] X.env = [(false, eval e0 X.env)] := by rfl) : YS X E (.Raise (some (.Call (.Name x np) [e0] [] cpos)) none pos) (yRaise x) := by
  obtain ⟨⟨t, h1, h2⟩, h5⟩ := ha
  refine ⟨_, ps_raise hg hm hc ec h1 hx hdb he, fun G0 H0 G ω σ H D c C' o e hcl hw => ?_⟩
  cases e
  have : C' = C := by
    have q := ec.nm
    unfold clsIn at hcl
    rw [hcl] at q
    cases q; rfl
  subst this
  obtain ⟨ds, q⟩ := hga ω
  refine h2 G0 H0 G ω σ H ds _ o q fun vs G1 H1 x1 y1 => ⟨?_, hw G1 H1 (o.ext.trans x1)⟩
  rw [← y1.len, h5 ω ds q]; exact le_line (show 1 ≤ 1000 by decide)
theorem ys_if {c : Expr} {a b : List Stmt} {fc : FT} (hc : XT X c fc) (ha : YSs X E a g) (hb : YSs X E b g') : YS X E (.If c a b pos) (yIf fc g g') := by
  obtain ⟨t, h1, h2⟩ := hc
  obtain ⟨u, h3, h4⟩ := ha
  obtain ⟨w, h5, h6⟩ := hb
  refine ⟨_, ps_if h1 h3 h5, fun G0 H0 G ω σ H D c C o e hcl hw => ?_⟩
  obtain ⟨z, q, e⟩ := bnd e
  refine h2 G0 H0 G ω σ H z _ o q fun G1 H1 x1 => ?_
  cases z with
  | true => rw [if_pos rfl] at e ⊢; exact h4 G0 H0 G1 ω σ H1 D c C (o.keep x1) e hcl hw
  | false => exact h6 G0 H0 G1 ω σ H1 D c C (o.keep x1) e hcl hw
theorem fnX {P : Program} {w : World} {K : PySem.W.Frag} {mg : Str → Option Value} {base : Heap} {x qual : Str} {st : Stmt} {f : Addr} {fd : FuncData} {N ps : List Str} {k : Nat} {gb : FX} (F : Fun K x qual st f fd) (S : FnScope N ps (defScope st))
    (hb : ∀ (cdv : Value) (A : Around) (outer : List Env) (s : Shared) (H : Hp) (E : XK), Room k (A.deeper (PyProof.Rows.envOfC qual (defScope st) s.heap.objs.size f cdv)) → YSs (cxOf (CXe P w) P w K mg base N qual (defScope st) f cdv A outer s H E) E (defBody st) gb) :
    FnOk P w K mg base (CXe P w) (k + 1) f fd ps (spX K ps.length fun ds => gb (entry N.length ds)) := by
  obtain ⟨_, _, _, _, _, _, cdv, _, _, rfl, lk, hcd⟩ := F.ex
  refine fn_of lk hcd S (fun vs H Q E h => ?_) fun A outer s H vs Q E hr hsp => ?_
  · obtain ⟨G, ds, c, C, _, _, h2, _, h4, _⟩ := h
    rw [← h4.len]; exact h2
  · obtain ⟨G, ds, c, C, h1, hcl, h2, h3, h4, h5⟩ := hsp
    obtain ⟨t, p1, p2⟩ := hb cdv A outer s H E hr
    refine ⟨t, p1, ?_⟩
    have hl := h4.len
    have short : ps.length ≤ N.length := by
      have z := congrArg List.length S.pre
      rw [List.length_take] at z; omega
    have o0 : Own K G (fr H) G (entry N.length ds) (L2.start N vs) H := by
      refine ⟨Ext.refl h3, ?_, fun i d e => reps_start h4 i d e, fun i es e => absurd e (entry_noOw.ow i es), fun i j es fs l e => absurd e (entry_noOw.ow i es), fun i ks es e => absurd e (entry_noOw.od i ks es), PwOk.no entry_noOw.pw⟩
      unfold entry L2.start
      simp only [List.length_append, List.length_map, List.length_replicate]
      omega
    exact p2 G (fr H) G _ _ H _ c C o0 h1 hcl h5
theorem passX {P : Program} {w : World} {K : PySem.W.Frag} {mg : Str → Option Value} {base : Heap} {N : List Str} {qual : Str} {scope : Scope} {f : Addr} {cdv : Value} {A : Around} {outer : List Env} {s : Shared} {H : Hp} :
    Passes (CXe P w) (cxOf (CXe P w) P w K mg base N qual scope f cdv A outer s H E) E := fun pins σ H1 s1 e s' I c =>
  leave_fly (X := cxOf (CXe P w) P w K mg base N qual scope f cdv A outer s H E) rfl rfl rfl I c I.ok.frames (fun _ _ q => q)
theorem passMade {P : Program} {w : World} {K : PySem.W.Frag} {mg : Str → Option Value} {base : Heap} {N : List Str} {qual : Str} {scope : Scope} {f : Addr} {cdv : Value} {A : Around} {outer : List Env} {s : Shared} {H : Hp} {C : Addr} :
    PassesMade (cxOf (CXe P w) P w K mg base N qual scope f cdv A outer s H E) C E := fun pins σ H1 h ea vs s' I hm hE =>
  leave_made (X := cxOf (CXe P w) P w K mg base N qual scope f cdv A outer s H E) (s := s') rfl rfl rfl I hm I.ok.frames hE
end
end Hk
set_option maxRecDepth 100000
namespace PySem
section
variable {M : Model} {A : Around} {E : Value → Shared → Prop} {nm q : Str} {C N : Addr} {bs bm : List Value} {hdct : Bool} {sn : List Str} {sub : List Value} {ab : Bool} {col : Option Bool} {dd : Option Addr} {k0 k1 k2 k3 k5 : Option Value} {newId : String}
variable {nm' q' : Str} {C' N' : Addr} {bs' bm' : List Value} {hdct' : Bool} {sn' : List Str} {sub' : List Value} {ab' : Bool} {col' : Option Bool} {dd' : Option Addr} {j0 j1 j2 j3 j5 : Option Value} {newId' : String}
theorem wpAny_excMatches_own {h : Heap} {g : Array GenState} {d : Drawn} {t : Nat} {os : OsState} {e : Addr} {oe : Obj} {Q : Bool → Shared → Prop}
    (hC : h.get? C = some (excClassObj nm q C N bs bm hdct sn sub ab col dd k0 k1 k2 k3 k5 newId)) (hC' : h.get? C' = some (excClassObj nm' q' C' N' bs' bm' hdct' sn' sub' ab' col' dd' j0 j1 j2 j3 j5 newId'))
    (he : h.get? e = some oe) (hcls : oe.cls = .ref C) (hb' : bm'.contains (.type "BaseException") = true) (hq : Q ((Value.ref C :: bm).contains (.ref C')) ⟨h, g, d, t, os⟩) : wpAny M A (excMatches (.ref e) (.ref C')) Q E ⟨h, g, d, t, os⟩ := by
  have cB : (Value.ref C' :: bm').contains (.type "BaseException") = true := by rw [List.contains_cons, hb', Bool.or_true]
  have f := tc_notTuple
  generalize hz : (Value.ref C :: bm).contains (.ref C') = z at hq
  unfold excMatches
  repeat (first | (with_reducible refine wpAny_loadPart_at he ?_; rw [hcls]) | with_reducible refine wpAny_loadPart_at hC' ?_ | (with_reducible refine wpAny_isSubtype_exc hC' ?_; rw [cB]) | (with_reducible refine wpAny_isSubtype_exc hC ?_; rw [hz]) | wp_step)
  cases z <;> (wp_walk; exact hq)
end
end PySem
namespace Hk
open PySem PySem.Spec L2 PyProof.Rows
section
variable {X : Cx} {pins : List (Addr × Obj)} {σ : L2.St} {H : Hp} {s : Shared}
theorem unbind_ok {M : Model} {A : Around} {Er : Value → Shared → Prop} {i : Nat} {x : Str} {v : V} {Q : Unit → Shared → Prop} (I : L2.Inv X pins σ H s) (hN : X.N.Nodup) (hi : X.N[i]? = some x) (hk : X.env.scope.names.lookup x = some .local) (hv : σ[i]? = some (some v))
    (h : ∀ s', L2.Inv X pins (σ.set i none) H s' → Q () s') : wpAny M A (unbindName X.env x) Q Er s := by
  have cne := I.cne; obtain ⟨m, hn, hl⟩ := id I.loc
  have hk' : X.env.kindOf x = some .local := hk
  obtain ⟨u, ru, lk⟩ := hl i x v hi hv (.inl hk)
  have hmx : m x = some u := by
    rcases lk with ⟨_, e⟩ | ⟨k, _⟩
    · exact e
    · rw [hk'] at k; rcases k with k | k <;> cases k
  refine wpAny_unbindName_local hk' hn hmx (by rw [I.ok.kind]; rfl) fun h' w hn' hs => ?_
  have old : ∀ b o, X.s₀.heap.get? b = some o → h'.get? b = s.heap.get? b := fun b o e => hs.2 b (Nat.ne_of_lt (Nat.lt_of_lt_of_le (Heap.lt_size e) I.ok.above))
  refine h _ ⟨I.ok, I.os, I.bare, ⟨fun b o e n hb hx => (old b o e).trans (I.base.keep b o e n hb hx), fun b o e n hb hx => ?_, I.base.free, fun b o e hx => ?_, I.base.tups, I.base.frzs, I.base.tbls⟩, ⟨_, hn', fun j y v' e1 e2 e3 => ?_⟩, fun y c e => ?_, I.free, I.freeC, fun p hp => ?_, fun b ob e => ?_, by simpa using I.len⟩
  · obtain ⟨sl, e1⟩ := I.base.slot b o e n hb hx; exact ⟨sl, (old b o e).trans e1⟩
  · obtain ⟨o', e1⟩ := I.base.there b o e hx; exact ⟨o', (old b o e).trans e1⟩
  · have hj : j ≠ i := fun q => by
      subst q
      rcases Nat.lt_or_ge j σ.length with z | z
      · rw [List.getElem?_set_self z] at e2; cases e2
      · rw [List.getElem?_eq_none (by simpa using z)] at e2; cases e2
    rw [List.getElem?_set_ne (Ne.symm hj)] at e2
    have other : y ≠ x := fun e => hj (nodup_ix hN e1 (e ▸ hi))
    obtain ⟨u', r', ⟨k, e⟩ | ⟨k, c, e, z⟩⟩ := hl j y v' e1 e2 e3
    · exact ⟨u', r', .inl ⟨k, by simp [other, e]⟩⟩
    · exact ⟨u', r', .inr ⟨k, c, e, z.sameBut hs (cne y c e)⟩⟩
  · obtain ⟨w', z⟩ := I.cell y c e; exact ⟨w', z.sameBut hs (cne y c e)⟩
  · obtain ⟨e, n, ne, nf, d⟩ := I.pin p hp; exact ⟨(hs.2 p.1 ne).trans e, n, ne, nf, d⟩
  · refine (I.hok b ob e).stay (fun c w' hc q => (hs.2 c ?_).trans q) (fun _ q => q) fun _ _ q => q
    intro z
    rcases hc with hc | hc
    · rw [← hc, z, I.free] at e; cases e
    · rw [z, I.free] at hc; cases hc
theorem inv_caught {E : XK} {e : Value} {s' : Shared} (I : L2.Inv X pins σ H s) (c : CXe X.prog X.w X.stack H s E e s') :
    ∃ ea cls H' B t, e = .ref ea ∧ Heap.FlyingW B X.stack ea cls (.ref t) s'.heap ∧ H' ea = none ∧ E cls none H' ∧
      ∀ (C : Addr) (h' : Heap), cls = .ref C → Heap.FlyingW B X.stack ea cls (.ref t) h' → s'.heap.UpToSlots h' → L2.Inv X pins σ (upd H' ea (.ext (excP ea C))) { s' with heap := h' } := by
  obtain ⟨ea, cls, H', he, os, bare, un, hok, ⟨B, t, fl, b1, b2⟩, ne, n0, q⟩ := c
  refine ⟨ea, cls, H', B, t, he, fl, ne, q, fun C h' hc fl' up => ?_⟩
  have frame : ∀ b o, b ∈ frs X.stack → s'.heap.get? b = some o → ∃ sl, h'.get? b = some { o with slots := sl } := fun b o hb e => by
    obtain ⟨_, o', ho', hd⟩ := fl.2.2.1.mem hb
    rw [e] at ho'
    cases ho'
    exact up b o e hd
  have nea : ∀ b o, s.heap.get? b = some o → b ≠ ea := fun b o e z => by rw [z, n0] at e; cases e
  refine I.call' (s' := { s' with heap := h' }) (ch := []) os ⟨fun b o e n hb _ => ?_, fun b o e n hb _ => ?_, fun b o e n hx => ?_, fun b o e hx => ?_, fun b xs e => ?_, fun b o u e => ?_, fun b ps e => ?_⟩ (fun b o e => ?_) bare fun b z => absurd z (by simp)
  · obtain ⟨u, e1, e2⟩ := b2 b o e hb
    rw [e2 n] at e1
    exact fl'.1 b o e1
  · obtain ⟨sl, e1⟩ := un.slot b o e n hb (by simp)
    obtain ⟨sl2, e2⟩ := frame b _ hb e1
    exact ⟨sl2, e2⟩
  · rw [upd_ne (nea b o e)]; exact un.free b o e n (by simp)
  · by_cases hb : b ∈ frs X.stack
    · obtain ⟨o', e1⟩ := un.there b o e (by simp)
      obtain ⟨sl2, e2⟩ := frame b _ hb e1
      exact ⟨_, e2⟩
    · obtain ⟨u, e1, _⟩ := b2 b o e hb
      exact ⟨u, fl'.1 b u e1⟩
  · have := un.tups b xs e
    rw [upd_ne (fun z => by rw [z, ne] at this; cases this)]; exact this
  · have := un.frzs b o u e
    rw [upd_ne (fun z => by rw [z, ne] at this; cases this)]; exact this
  · obtain ⟨more, this⟩ := un.tbls b ps e
    exact ⟨more, by rw [upd_ne (fun z => by rw [z, ne] at this; cases this)]; exact this⟩
  · by_cases hb : b = ea
    · subst hb
      rw [upd_same] at e
      cases e
      obtain ⟨ob, e1, e2⟩ := fl'.there
      refine ⟨⟨ob, e1, by rw [e2, hc]⟩, ⟨ob, e1⟩, fun h1 h2 ⟨o1, p1, p2⟩ k => ⟨o1, k o1 p1, p2⟩⟩
    · rw [upd_ne hb] at e
      have ne2 : ∀ c o', H' c = some o' → c ≠ ea := fun c o' z y => by rw [y, ne] at z; cases z
      refine (hok b o e).stay (fun c u hc q => ?_) (fun c q => by rw [upd_ne (ne2 c _ q)]; exact q) fun c xs q => by rw [upd_ne (ne2 c _ q)]; exact q
      have : ∃ o', H' c = some o' := by
        rcases hc with rfl | hc
        · exact ⟨o, e⟩
        · exact ⟨_, hc⟩
      obtain ⟨o', e'⟩ := this
      obtain ⟨u', q1⟩ := b1 c o' e'
      have q2 := fl.1 c u' q1
      rw [q] at q2
      cases q2
      exact fl'.1 c u q1
end
end Hk
set_option maxRecDepth 100000
namespace Hk
open PySem PySem.Spec L2 PyProof.Rows
theorem mro_tl {K : PySem.W.Frag} {h : Heap} {nm q : Str} {C N : Addr} {bs tl : List Value} {hdct : Bool} {sn : List Str} {sub : List Value} {ab : Bool} {col : Option Bool} {dd : Option Addr} {k0 k1 k2 k3 k5 : Option Value} {newId : String} {b : Value} {r : Bool}
    (KI : K.In h) (e : PySem.W.mroIn K C b = some r) (hC : h.get? C = some (excClassObj nm q C N bs tl hdct sn sub ab col dd k0 k1 k2 k3 k5 newId)) : (Value.ref C :: tl).contains b = r := by
  unfold PySem.W.mroIn at e
  obtain ⟨cd, a, e⟩ := bnd e
  unfold PySem.W.clsIn at a
  split at a
  · rename_i look
    cases a
    have := KI _ _ look
    rw [hC] at this
    cases this
    split at e
    · cases e
    · cases e; rfl
  · cases a
def ZC (X : Cx) (xx : Value → Shared → Prop) (pins : List (Addr × Obj)) (σ : L2.St) (E' : XK) : Prop := ∀ H1 s1 e s', L2.Inv (X.wish xx) pins σ H1 s1 → CXe X.prog X.w X.stack H1 s1 E' e s' → xx e s'
section
variable {X : Cx} {st : Stmt} {rest : List Stmt} {e : Expr} {es : List Expr} {pos : Pos} {g g' : FX}
end
abbrev Cx.marked (X : Cx) (v : Value) : Cx := { X with A := X.A.mark (some v), calm := false }
section
variable {X : Cx} {pins : List (Addr × Obj)} {σ : L2.St} {H : Hp} {s : Shared}
theorem inv_mark (I : L2.Inv X pins σ H s) (v : Value) : L2.Inv (Cx.marked X v) pins σ H s :=
  ⟨⟨I.ok.mod, I.ok.kind, I.ok.glob, I.ok.blt, I.ok.above, I.ok.inj, I.ok.has, I.ok.cab, (fun z => Bool.noConfusion (show false = true from z)), I.ok.frames, I.ok.stk, I.ok.exf, I.ok.bs, I.ok.bsz, I.ok.noex, I.ok.exfs, I.ok.funs, I.ok.frf⟩, I.os, I.bare, I.base, I.loc, I.cell, I.free, I.freeC, I.pin, I.hok, I.len⟩
theorem inv_unmark {v : Value} (hd : X.calm = true → X.A.handled = none) (I : L2.Inv (Cx.marked X v) pins σ H s) : L2.Inv X pins σ H s :=
  ⟨⟨I.ok.mod, I.ok.kind, I.ok.glob, I.ok.blt, I.ok.above, I.ok.inj, I.ok.has, I.ok.cab, hd, I.ok.frames, I.ok.stk, I.ok.exf, I.ok.bs, I.ok.bsz, I.ok.noex, I.ok.exfs, I.ok.funs, I.ok.frf⟩, I.os, I.bare, I.base, I.loc, I.cell, I.free, I.freeC, I.pin, I.hok, I.len⟩
end
end Hk
set_option maxRecDepth 100000
namespace Hk
open PySem PySem.Spec L2 PyProof.Rows
section
variable {K : PySem.W.Frag} {G0 : Hp} {H0 : Fr} {G : Hp} {ω : WSt} {σ : L2.St} {H : Hp}
end
def Takes (K : PySem.W.Frag) (CR : Addr) (cs : List Str) : Prop := ∀ c ∈ cs, ∃ C, clsIn K c C ∧ PySem.W.excIn K C vErr "ValueError.__new__" = true ∧ PySem.W.mroIn K C (.ref CR) = some true
theorem takes_nil {K : PySem.W.Frag} {CR : Addr} : Takes K CR [] := fun _ h => by cases h
theorem takes_cons {K : PySem.W.Frag} {CR C : Addr} {c : Str} {cs : List Str} (h1 : clsIn K c C) (h2 : PySem.W.excIn K C vErr "ValueError.__new__" = true) (h3 : PySem.W.mroIn K C (.ref CR) = some true) (h : Takes K CR cs) : Takes K CR (c :: cs) := fun d hd => by
  cases hd with
  | head => exact ⟨C, h1, h2, h3⟩
  | tail _ hd => exact h d hd
section
variable {X : Cx}
theorem name_goes {M : Model} {A : Around} {Er : Value → Shared → Prop} {pins : List (Addr × Obj)} {σ : L2.St} {H : Hp} {s : Shared} {i : Nat} {n : Str} {pos : Pos} {Q : Unit → Shared → Prop} (I : L2.Inv X pins σ H s) (hN : X.N.Nodup) (hi : X.N[i]? = some n) (hl : X.env.scope.names.lookup n = some .local)
    (h : ∀ s', L2.Inv X pins (σ.set i none) H s' → Q () s') : wpAny M A (do bindName X.env n .none; unbindBehindTheSuite X.env n pos) Q Er s := by
  have hlt : i < σ.length := by
    rw [I.len]; exact (List.getElem?_eq_some_iff.mp hi).1
  refine wpAny_bind (wpAny_bindName (store_ok (v := .non) (u := .none) I hN hi (.inl hl) rfl (fun s1 I1 => ?_) (.inr hl)))
  unfold unbindBehindTheSuite
  refine wpAny_onRaise (unbind_ok I1 hN hi hl (List.getElem?_set_self hlt) fun s2 I2 => ?_)
  rw [List.set_set] at I2
  exact h s2 I2
def dOut (D : Ends) (i : Nat) : Ends := { nx := fun σ H => D.nx (σ.set i none) H, rt := D.rt, bk := fun σ H => D.bk (σ.set i none) H, ct := fun σ H => D.ct (σ.set i none) H }
end
end Hk
set_option maxRecDepth 100000
namespace PySem.W
open PySem PySem.Calls PyProof.Rows
open Builtin Builtin.ObjectAttr Builtin.Getset_descriptor
structure XCl (K : Frag) (C : Addr) : Prop where
  ga : findIn K (.ref C) "__getattribute__" = some (some (.builtin "BaseException.__getattribute__"))
  gt : findIn K (.ref C) "__getattr__" = some none
  cl : findIn K (.ref C) "__class__" = some (some (.builtin "object.__class__"))
  mo : mroIn K C (.type "object") = some true
  mb : mroIn K C (.type "BaseException") = some true
section
variable {prog : Program} {w : World} {A : Around} {E : Value → Shared → Prop} {K : Frag} {x C : Addr} {h : Heap} {g : Array GenState} {d : Drawn} {t : Nat} {os : OsState} {ob : Obj}
def Ex (h : Heap) (x C : Addr) (ob : Obj) : Prop := h.get? x = some ob ∧ ob.cls = .ref C
theorem Ex.ty (M : Model) (e : Ex h x C ob) : Looks M h (typeOf (.ref x)) (.ref C) := e.2 ▸ (Looks.ld e.1).andThen .now
theorem exc_get {R : Result → Shared → Prop} {tp : Value} (X : K.In h) (Y : XCl K C) (e : Ex h x C ob) (hq : R (.ok (.ret (.ref C))) ⟨h, g, d, t, os⟩) :
    codeAny (model prog w) A (.call (.builtin "getset_descriptor.__get__") ⟨[.builtin "object.__class__", .ref x, tp], []⟩) R ⟨h, g, d, t, os⟩ := by
  have T := e.ty (model prog w); have U := looks_mroIn (M := model prog w) X Y.mo
  have ty : (⟨h, g, d, t, os⟩ : Shared).TypeIs (.builtin "object.__class__") "getset_descriptor" := KF.type_class
  refine codeAny_call_builtin KF.slot_gs.plain KF.entry_gs (KF.slot_gs.check _ _ _ _ _ _ _ _ ty (KF.args_gs _ _ _) ?_)
  (unfold Builtin.«getset_descriptor.__get__» descrGet; rw [dga_obj]; refine wpAny_bind (wpAny_pure ?_))
  (unfold descrGetter descrCheckInstance descrNameAndClass isInstance; simp only [KF.owner_class]; repeat lk)
  refine ⟨Code.quiet_builtin _ (by decide +kernel), codeAny_builtin KF.entry_class ?_⟩; (unfold Builtin.«object.__class__» shownTypeOf; repeat lk); exact hq
theorem exc_may {M : Model} {nv : Value} {Q : Unit → Shared → Prop} (X : K.In h) (Y : XCl K C) (e : Ex h x C ob) (hq : Q () ⟨h, g, d, t, os⟩) :
    wpAny M A (checkBuiltinCall "BaseException.__getattribute__" ⟨[.ref x, nv], []⟩) Q E ⟨h, g, d, t, os⟩ := by
  have T := e.ty M; have U := looks_mroIn (M := M) X Y.mb; have z := F.args_bexc_ga (.ref x) nv
  simp only [checkBuiltinCall, show builtinKind "BaseException.__getattribute__" = some .slot by decide +kernel, show splitId "BaseException.__getattribute__" = some ("BaseException", "__getattribute__") by decide +kernel]
  apply wpAny_bind; unfold isInstance; (repeat (first | with_reducible refine T.at ?_ | with_reducible refine U.at ?_ | wp_step))
  exact hq
theorem exc_ga {tk : Tok} {Q : Fin → Shared → Prop} (X : K.In h) (Y : XCl K C) (e : Ex h x C ob) (hq : Q (.done (.ret (.ref C))) ⟨h, g, d, t, os⟩) :
    wpAny (model prog w) A (Builtin.«object.__getattribute__» ⟨[.ref x, .str "__class__" tk], []⟩) Q E ⟨h, g, d, t, os⟩ := by
  have z1 : (⟨h, g, d, t, os⟩ : Shared).TypeIs (.builtin "object.__class__") "getset_descriptor" := F.typeOf_object_class; have z2 := F.typeOf_object_class; have z3 := F.slot_gs_get.lookup; have z4 := F.slot_gs_set.lookup
  have U := looks_findIn (M := model prog w) X Y.cl; obtain ⟨e1, e2⟩ := id e
  (repeat (any_goals (first | assumption | (with_reducible refine wpAny_loadPart_at e1 ?_; rw [e2]) | with_reducible refine U.at ?_ | wp_step)))
  apply exc_get X Y e; (repeat (any_goals (first | assumption | wp_step)))
theorem exc_by {tk : Tok} {fill expr : Bool} {Q : Value → Shared → Prop} (X : K.In h) (Y : XCl K C) (e : Ex h x C ob) (hq : Q (.ref C) ⟨h, g, d, t, os⟩) :
    wpAny (model prog w) A (getAttrBy (.ref x) (.str "__class__" tk) fill expr) Q E ⟨h, g, d, t, os⟩ := by
  have z1 := F.attr_ValueError.ga.bind (.ref x); have z2 : (expr && onTheHeap (Value.builtin "BaseException.__getattribute__")) = false := by cases expr <;> rfl
  have z3 : (onTheHeap (Value.ref C) && Value.builtin "BaseException.__getattribute__" == Value.builtin "object.__getattribute__") = false := by rw [show (Value.builtin "BaseException.__getattribute__" == Value.builtin "object.__getattribute__") = false by decide +kernel]; rfl
  have U := looks_findIn (M := model prog w) X Y.ga; have V := looks_findIn (M := model prog w) X Y.gt; obtain ⟨e1, e2⟩ := id e
  (repeat (any_goals (first | assumption | (with_reducible refine wpAny_loadPart_at e1 ?_; rw [e2]) | with_reducible refine U.at ?_ | with_reducible refine V.at ?_ | wp_step)))
  apply codeAny_call_builtin F.attr_ValueError.ga.plain F.entry_bexc_ga; apply exc_may X Y e; apply exc_ga X Y e; (repeat (any_goals (first | assumption | wp_step)))
theorem exc_attr {Q : Option Value → Shared → Prop} (X : K.In h) (Y : XCl K C) (e : Ex h x C ob) (hq : Q (some (.ref C)) ⟨h, g, d, t + 1, os⟩) : wpAny (model prog w) A (getAttr? (.ref x) "__class__") Q E ⟨h, g, d, t, os⟩ := by
  (unfold getAttr? getAttrBy?; (repeat (any_goals (first | assumption | with_reducible apply exc_by X Y e | wp_step))))
theorem kitx_exc (hcl : (clsIn K C).isSome = true) (Y : XCl K C) : KitX K (.ref x) (.ref C) (Hk.excP x C) := by
  obtain ⟨cd, hcD⟩ := Option.isSome_iff_exists.mp hcl
  have obj : ∃ a b c, K.lookup C = some ⟨a, b, .cls cd, c⟩ := by
    unfold clsIn at hcD; split at hcD
    · rename_i q; cases hcD; exact ⟨_, _, _, q⟩
    · cases hcD
  obtain ⟨a, b, c, lk⟩ := obj
  refine ⟨fun M h _ ⟨ob, p⟩ => Ex.ty M p, fun M h X _ A' Q' E' s' k q => ?_, fun h tp dd its n sl X htp => Bool.eq_false_iff.mpr fun q => ?_, fun {prog w A E Q s} X ⟨ob, p⟩ k => ?_⟩
  · (unfold isType loadHead; exact wpAny_bind (wpAny_loadPart (k _ _ (X _ _ lk)) (wpAny_pure q)))
  · cases Value.ref.inj (beq_iff_eq.mp q); cases (X _ _ lk).symm.trans htp
  · obtain ⟨h, g, d, t, os⟩ := s; exact exc_attr X Y p k
end
end PySem.W
set_option maxRecDepth 100000
namespace Hk
open PySem PySem.Spec L2 PyProof.Rows
def fIsx (tab : List (Str × Bool)) (f : FD) : FE := fun ω => (f ω).bind fun d => match d with
  | .exc c => (tab.lookup c).map fun b => .sh (.bl b)
  | _ => none
def IsX (K : PySem.W.Frag) (tv : Value) (tab : List (Str × Bool)) : Prop := ∀ c b, tab.lookup c = some b → ∃ C, clsIn K c C ∧ (PySem.W.clsIn K C).isSome = true ∧ PySem.W.XCl K C ∧ PySem.W.kitOne K (.ref C) tv = some b
theorem isX_nil {K : PySem.W.Frag} {tv : Value} : IsX K tv [] := fun _ _ h => by cases h
theorem isX_cons {K : PySem.W.Frag} {tv : Value} {c : Str} {b : Bool} {tab : List (Str × Bool)} {C : Addr} (h1 : clsIn K c C) (h2 : (PySem.W.clsIn K C).isSome = true) (h3 : PySem.W.XCl K C) (h4 : PySem.W.kitOne K (.ref C) tv = some b) (h : IsX K tv tab) : IsX K tv ((c, b) :: tab) := fun d e hd => by
  rw [List.lookup_cons] at hd
  by_cases q : d = c
  · subst q
    rw [beq_self_eq_true] at hd
    cases hd
    exact ⟨C, h1, h2, h3, h4⟩
  · rw [beq_false_of_ne q] at hd
    exact h d e hd
def rIsx (K : PySem.W.Frag) (tgt : V) (tv : Value) : List V → Hp → VK → Prop := fun xs H Q => ∃ a C b, xs = [.ref a, tgt] ∧ H a = some (.ext (excP a C)) ∧ (PySem.W.clsIn K C).isSome = true ∧ PySem.W.XCl K C ∧ PySem.W.kitOne K (.ref C) tv = some b ∧ Q (.bl b) H
section
variable {X : Cx} {a : Expr} {f : FD}
theorem call_isx {tgt : V} {tv : Value} (ht : ∀ u, RelV tgt u → u = tv) : CallR X (.builtin "isinstance") (rIsx X.K tgt tv) := by
  intro pins s σ H xs us Q I r z
  obtain ⟨p, C, b, rfl, e1, e2, e3, e4, q⟩ := z
  obtain ⟨u1, u2, rfl, r2, r3⟩ := vals2 r
  cases ht u2 r3
  cases (show u1 = Value.ref p from r2)
  have P := I.hok p _ e1
  obtain ⟨P, _⟩ := P
  exact PySem.W.kia_one (PySem.W.kitx_exc e2 e3) I.kIn P e4 (fun z => nomatch z) fun tk => ⟨.bl b, H, I.tok tk, rfl, q⟩
theorem xe_isx {tgt : V} {tv : Value} {tab : List (Str × Bool)} {x : Str} {p q pos : Pos} (ht : ∀ u, RelV tgt u → u = tv) (hT : PE X (.Name x q) (tC tgt)) (ha : XV X a f) (hk : IsX X.K tv tab) (hg : Gl X "isinstance") (hm : X.mg "isinstance" = none)
    (he : starEach [a, .Name x q] X.env = (false, eval a X.env) :: starEach [.Name x q] X.env := by rfl) (he2 : starEach [.Name x q] X.env = (false, eval (.Name x q) X.env) :: starEach [] X.env := by rfl) (hpl : (backTo pos (starEach [.Name x q] X.env)).any (·.1) = false := by rfl) :
    XE X (.Call (.Name "isinstance" p) [a, .Name x q] [] pos) (fIsx tab f) := by
  obtain ⟨t, h1, h2⟩ := ha
  refine ⟨_, pe_callB (call_isx ht) hg hm PyProof.Rows.boot_isinstance (pa_cons h1 (pa_cons hT pa_nil he2) he) (by decide) (by decide) he hpl, fun G0 H0 G ω σ H r Q o e k => ?_⟩
  obtain ⟨d, q, e⟩ := bnd e
  refine h2 G0 H0 G ω σ H d _ o q fun v G1 H1 x1 y1 => ?_
  cases d with
  | exc c =>
    cases z : tab.lookup c with
    | none => rw [show (match D.exc c with | .exc c => (tab.lookup c).map fun b => R.sh (.bl b) | _ => none) = (tab.lookup c).map fun b => R.sh (.bl b) from rfl, z] at e; cases e
    | some b =>
      rw [show (match D.exc c with | .exc c => (tab.lookup c).map fun b => R.sh (.bl b) | _ => none) = (tab.lookup c).map fun b => R.sh (.bl b) from rfl, z] at e
      cases e
      obtain ⟨p, C, rfl, hc, hp⟩ := (show Rep X.K G1 (.exc c) v from y1.of_ne fun _ z => by cases z)
      obtain ⟨C', c1, c2, c3, c4⟩ := hk c b z
      have : C' = C := by
        unfold clsIn at c1
        rw [hc] at c1
        cases c1; rfl
      subst this
      exact ⟨p, C', b, rfl, x1.gh _ _ hp, c2, c3, c4, k _ G1 H1 x1 rfl⟩
  | _ => cases e
theorem xe_isxo {T : Addr} {tab : List (Str × Bool)} {x : Str} {p q pos : Pos} (ha : XV X a f) (hgx : Gl X x) (hmx : X.mg x = some (.ref T)) (hk : IsX X.K (.ref T) tab) (hg : Gl X "isinstance") (hm : X.mg "isinstance" = none) (hdx : (x == ("__debug__" : Str)) = false := by decide)
    (he : starEach [a, .Name x q] X.env = (false, eval a X.env) :: starEach [.Name x q] X.env := by rfl) (he2 : starEach [.Name x q] X.env = (false, eval (.Name x q) X.env) :: starEach [] X.env := by rfl) (hpl : (backTo pos (starEach [.Name x q] X.env)).any (·.1) = false := by rfl) :
    XE X (.Call (.Name "isinstance" p) [a, .Name x q] [] pos) (fIsx tab f) :=
  xe_isx (tgt := .ref T) (tv := .ref T) (fun _ h => h) (pe_glob hgx hmx rfl hdx) ha hk hg hm he he2 hpl
theorem xe_isxb {T : String} {tab : List (Str × Bool)} {x : Str} {p q pos : Pos} (ha : XV X a f) (hgx : Gl X x) (hmx : X.mg x = none) (hv : bootBuiltins x = some (.type T)) (hk : IsX X.K (.type T) tab) (hg : Gl X "isinstance") (hm : X.mg "isinstance" = none) (hnx : x ≠ "__name__" := by decide) (hdx : (x == ("__debug__" : Str)) = false := by decide)
    (he : starEach [a, .Name x q] X.env = (false, eval a X.env) :: starEach [.Name x q] X.env := by rfl) (he2 : starEach [.Name x q] X.env = (false, eval (.Name x q) X.env) :: starEach [] X.env := by rfl) (hpl : (backTo pos (starEach [.Name x q] X.env)).any (·.1) = false := by rfl) :
    XE X (.Call (.Name "isinstance" p) [a, .Name x q] [] pos) (fIsx tab f) :=
  xe_isx (tgt := .ty T) (tv := .type T) (fun _ h => h) (pe_bltn hgx hmx hv rfl hnx hdx) ha hk hg hm he he2 hpl
end
end Hk
set_option maxRecDepth 100000
namespace Hk
open PySem PySem.Spec L2 PyProof.Rows
section
variable {X : Cx} {E : XK} {st : Stmt} {rest : List Stmt} {g : FX}
theorem yss_no : YSs X E rest yNo := ⟨_, pss_never, fun G0 H0 G ω σ H D c C o e => by cases e⟩
theorem yss_head (h : YS X E st g) : YSs X E (st :: rest) g := by
  obtain ⟨t, h1, h2⟩ := h
  exact ⟨_, pss_cons h1 pss_never, fun G0 H0 G ω σ H D c C o e hc hw => h2 G0 H0 G ω σ H _ c C o e hc hw⟩
end
theorem isSome_mro {K : PySem.W.Frag} {C : Addr} {b : Value} {r : Bool} (e : PySem.W.mroIn K C b = some r) : (PySem.W.clsIn K C).isSome = true := by
  unfold PySem.W.mroIn at e
  obtain ⟨cd, a, _⟩ := bnd e
  rw [a]; rfl
section
variable {f fh : FS} {g g' : FX} {cs : List Str} {i : Nat} {ω w : WSt} {c : Str} {ft : FT} {fa : FA} {ds : List D} {fd : FD} {fe : FE} {o : Out} {r : R}
end
end Hk
set_option maxRecDepth 100000
namespace Hk
open PySem PySem.Spec L2 PyProof.Rows
section
variable {X : Cx}
end
section
variable {f fh : FS} {g : FX} {cs : List Str} {ω : WSt} {c : Str}
end
end Hk
set_option maxRecDepth 100000
namespace Hk
open PySem L2
abbrev Cal (P : Program) (w : World) (K : PySem.W.Frag) (mg : Str → Option Value) (base : Heap) (k : Nat) (f : Addr) (d : FuncData) (x : Str) (ps : List Str) (n : Nat) (m : List D → Option O) : Prop :=
  FnOk P w K mg base CX0 k f d ps (spD K n m) ∧ mg x = some (.ref f) ∧ PySem.W.keepIn K (.ref f) = true ∧ Binds K d ps []
section
variable {X : Cx} {x : Str} {pos : Pos}
theorem xc {e : Expr} {es : List Expr} {k k0 : Nat} {f : Addr} {fd : FuncData} {ps : List Str} {m : List D → Option O} {p : Pos} {g : FA} (c : Cal X.prog X.w X.K X.mg X.base k f fd x ps (e :: es).length m) (hr : Room k0 X.A) (ha : XA X (e :: es) g)
    (hk : k ≤ k0 := by decide) (hg : Gl X x := by exact rfl) (hdb : (x == ("__debug__" : Str)) = false := by decide) (he : starEach (e :: es) X.env = (false, eval e X.env) :: starEach es X.env := by rfl) (hpl : (backTo pos (starEach es X.env)).any (·.1) = false := by rfl) :
    XE X (.Call (.Name x p) (e :: es) [] pos) (fCall m g) := xe_call c.1 (hr.mono hk) hg c.2.1 c.2.2.1 c.2.2.2 pass0 ha hdb he hpl
theorem vE (i : Nat) (hN : X.N[i]? = some x := by rfl) (hv : Vis X.env.scope x := by first | exact Or.inl rfl | exact Or.inr (Or.inl rfl) | exact Or.inr (Or.inr rfl)) (hd : (x == ("__debug__" : Str)) = false := by decide) (hcd : (x == ("__classdict__" : Str)) = false := by decide) : XE X (.Name x pos) (fVar i) := xe_var i (pv i hN hv hd hcd)
theorem vV (i : Nat) (hN : X.N[i]? = some x := by rfl) (hv : Vis X.env.scope x := by first | exact Or.inl rfl | exact Or.inr (Or.inl rfl) | exact Or.inr (Or.inr rfl)) (hd : (x == ("__debug__" : Str)) = false := by decide) (hcd : (x == ("__classdict__" : Str)) = false := by decide) : XV X (.Name x pos) (vOf (fVar i)) := XE.toV (xe_var i (pv i hN hv hd hcd))
theorem vD (i : Nat) (hN : X.N[i]? = some x := by rfl) (hv : Vis X.env.scope x := by first | exact Or.inl rfl | exact Or.inr (Or.inl rfl) | exact Or.inr (Or.inr rfl)) (hd : (x == ("__debug__" : Str)) = false := by decide) (hcd : (x == ("__classdict__" : Str)) = false := by decide) : XD X (.Name x pos) (dOf (fVar i)) := XE.toD (xe_var i (pv i hN hv hd hcd))
end
end Hk
set_option maxRecDepth 100000
namespace Hk
open PySem L2
def oAddS : D → D → Option R
  | .str i, .str j => if i.length + j.length ≤ 1000000 then some (.sh (.str (i ++ j))) else none
  | x, y => oAdd x y
def rAddS : R2 := fun x y H Q => ∃ i j, x = .str i ∧ y = .str j ∧ i.length + j.length ≤ sizeLine ∧ Q (.str (i ++ j)) H
theorem opv_addS {K : PySem.W.Frag} : OpV K (fun x y H Q => rAddS x y H Q ∨ rAddAll K x y H Q) oAddS := by
  intro G H x y d v u Q s e hx hy k
  by_cases z : ∃ i j, x = .str i ∧ y = .str j
  · obtain ⟨i, j, rfl, rfl⟩ := z
    cases hx.str
    cases hy.str
    unfold oAddS at e
    dsimp only at e
    by_cases z : i.length + j.length ≤ 1000000
    · rw [if_pos z] at e
      cases e
      exact .inl ⟨i, j, rfl, rfl, le_line6 z, k _ G H (Ext.refl s) rfl⟩
    · rw [if_neg z] at e; cases e
  · have e' : oAdd x y = some d := by
      unfold oAddS at e
      split at e
      · exact absurd ⟨_, _, rfl, rfl⟩ z
      · exact e
    exact .inr (opv_add G H x y d v u Q s e' hx hy k)
def oIxS : D → D → Option R
  | .str z, .int i => if z.length ≤ 1000000 then (atI z.cps.toList i).map fun c => .sh (.str ⟨#[c]⟩) else none
  | x, y => oIx x y
theorem opv_ixS {K : PySem.W.Frag} : OpV K (rIx K) oIxS := by
  intro G H x y d v u Q s e hx hy k
  by_cases z : ∃ z i, x = .str z ∧ y = .int i
  · obtain ⟨z, i, rfl, rfl⟩ := z
    cases hx.str
    cases hy.int
    unfold oIxS at e
    dsimp only at e
    by_cases w : z.length ≤ 1000000
    · rw [if_pos w] at e
      obtain ⟨c, q, e'⟩ := mpd e
      subst e'
      exact .inr (.inr ⟨z, i, c, rfl, rfl, le_line6 w, q, k _ G H (Ext.refl s) rfl⟩)
    · rw [if_neg w] at e; cases e
  · have e' : oIx x y = some d := by
      unfold oIxS at e
      split at e
      · exact absurd ⟨_, _, rfl, rfl⟩ z
      · exact e
    exact opv_ix G H x y d v u Q s e' hx hy k
def inS (i j : Str) : Bool := !(Builtin.Str.occurrences j i 0 j.length 1).isEmpty
def oInT (neg : Bool) : D → D → Option R
  | .str i, .str j => some (.sh (.bl (if neg then !inS i j else inS i j)))
  | x, y => oIn neg x y
def rInS (neg : Bool) : R2 := fun x y H Q => ∃ i j, x = .str i ∧ y = .str j ∧ Q (.bl (if neg then !inS i j else inS i j)) H
theorem opv_inT {K : PySem.W.Frag} {neg : Bool} : OpV K (fun x y H Q => rInS neg x y H Q ∨ rIn K neg x y H Q) (oInT neg) := by
  intro G H x y d v u Q s e hx hy k
  by_cases z : ∃ i j, x = .str i ∧ y = .str j
  · obtain ⟨i, j, rfl, rfl⟩ := z
    cases hx.str
    cases hy.str
    cases e
    exact .inl ⟨i, j, rfl, rfl, k _ G H (Ext.refl s) rfl⟩
  · have e' : oIn neg x y = some d := by
      unfold oInT at e
      split at e
      · exact absurd ⟨_, _, rfl, rfl⟩ z
      · exact e
    exact .inr (opv_in G H x y d v u Q s e' hx hy k)
section
variable {X : Cx} {a b : Expr} {f g : FD} {pos : Pos}
theorem op_inS : OpR X (compareOp .In) (rInS false) := fun pins s σ H x y v u Q I rx ry h => op_in_str pins s σ H x y v u Q I rx ry h
theorem xe_addS (ha : XV X a f) (hb : XV X b g) : XE X (.BinOp a .Add b pos) (fOpE oAddS f g) := xe_bin (op_add_str.or op_addAll) opv_addS ha hb
theorem xe_itemS (ha : XV X a f) (hb : XV X b g) (hs : PlainIx b := by exact fun _ _ => rfl) : XE X (.Subscript a b pos) (fOpE oIxS f g) := xe_ix ix_seq opv_ixS ha hb hs
theorem xe_inT (ha : XV X a f) (hb : XV X b g) (hm : behindInMarks .In b = false := by with_unfolding_all rfl) : XE X (.Compare a [.In] [b] pos) (fOpE (oInT false) f g) := xe_cmp (op_inS.or op_in_seq) opv_inT ha hb hm
end
def bLenS : List D → Option R
  | [.str z] => if z.length ≤ 1000000 then some (.sh (.int z.length)) else none
  | ds => bLen ds
theorem cd_lenS {K : PySem.W.Frag} : CallD K (fun xs H Q => (∃ z : Str, xs = [.str z] ∧ z.length ≤ sizeLine ∧ Q (.int z.length) H) ∨ ∃ p ys, xs = [.ref p] ∧ (SqL K H p ys ∨ SqT K H p ys) ∧ Q (.int ys.length) H) bLenS := by
  intro G H ds vs d Q s e hv k
  by_cases z : ∃ x, ds = [.str x]
  · obtain ⟨x, rfl⟩ := z
    unfold bLenS at e
    dsimp only at e
    by_cases w : x.length ≤ 1000000
    · rw [if_pos w] at e
      cases e
      obtain ⟨v, rfl, h⟩ := hv.one
      cases h.str
      exact .inl ⟨x, rfl, le_line6 w, k _ G H (Ext.refl s) rfl⟩
    · rw [if_neg w] at e; cases e
  · have e' : bLen ds = some d := by
      unfold bLenS at e
      split at e
      · exact absurd ⟨_, rfl⟩ z
      · exact e
    exact .inr (cd_len G H ds vs d Q s e' hv k)
def bStr : List D → Option R
  | [.int i] => if i.natAbs.log2 < 1920 then some (.sh (.str (toString i))) else none
  | _ => none
theorem cd_str {K : PySem.W.Frag} : CallD K (fun xs H Q => ∃ i : Int, xs = [.int i] ∧ i.natAbs.log2 < 1920 ∧ Q (.str (toString i)) H) bStr := by
  intro G H ds vs d Q s e hv k
  match ds, e with
  | [.int i], e =>
    unfold bStr at e
    dsimp only at e
    by_cases w : i.natAbs.log2 < 1920
    · rw [if_pos w] at e
      cases e
      obtain ⟨v, rfl, h⟩ := hv.one
      cases h.int
      exact ⟨i, rfl, w, k _ G H (Ext.refl s) rfl⟩
    · rw [if_neg w] at e; cases e
theorem call_intS {X : Cx} : CallR X (.type "int") (fun xs H Q => ∃ (x : Str) (n : Int), xs = [.str x] ∧ x.length ≤ 640 ∧ PySem.intText? x = some n ∧ Q (.int n) H) := by
  intro pins s σ H xs us Q I r h
  obtain ⟨x, n, rfl, hz, hn, q⟩ := h
  obtain ⟨u, rfl, t, rfl⟩ := vals1 r
  exact PySem.W.KIN.call_text hn hz ⟨.int n, H, I.tok _, ⟨_, rfl⟩, q⟩
def bIntS : List D → Option R
  | [.str x] => if x.length ≤ 640 then (PySem.intText? x).map fun n => .sh (.int n) else none
  | ds => bInt ds
theorem cd_intS {K : PySem.W.Frag} : CallD K (fun xs H Q => (∃ (x : Str) (n : Int), xs = [.str x] ∧ x.length ≤ 640 ∧ PySem.intText? x = some n ∧ Q (.int n) H) ∨ ((∃ i, xs = [.int i] ∧ Q (.int i) H) ∨ ∃ k, xs = [.bl k] ∧ Q (.int (if k then 1 else 0)) H)) bIntS := by
  intro G H ds vs d Q s e hv k
  by_cases z : ∃ x, ds = [.str x]
  · obtain ⟨x, rfl⟩ := z
    unfold bIntS at e
    dsimp only at e
    by_cases w : x.length ≤ 640
    · rw [if_pos w] at e
      obtain ⟨n, q, e'⟩ := mpd e
      subst e'
      obtain ⟨v, rfl, h⟩ := hv.one
      cases h.str
      exact .inl ⟨x, n, rfl, w, q, k _ G H (Ext.refl s) rfl⟩
    · rw [if_neg w] at e; cases e
  · have e' : bInt ds = some d := by
      unfold bIntS at e
      split at e
      · exact absurd ⟨_, rfl⟩ z
      · exact e
    exact .inr (cd_int G H ds vs d Q s e' hv k)
end Hk
set_option maxRecDepth 100000
namespace Hk
open PySem L2
def rSlS : V → Option Int → Option Int → Hp → VK → Prop := fun x lo hi H Q => ∃ z : Str, x = .str z ∧ z.length ≤ sizeLine ∧ Q (.str (Txt.slice z lo hi)) H
theorem part_of {v : Value} {o : Option Int} (h : IsPart v o) : ∃ l : Option (Int × Tok), v = partValue l ∧ l.map (·.1) = o := by
  cases h with
  | none => exact ⟨none, rfl, rfl⟩
  | int i t => exact ⟨some (i, t), rfl, rfl⟩
theorem sl_str {X : Cx} : SlR X rSlS := by
  intro pins s σ H x v vl vu lo hi sl Q I rx hs pl pu h
  obtain ⟨z, rfl, hz, q⟩ := h
  obtain ⟨t, rfl⟩ := rx
  obtain ⟨l, rfl, rfl⟩ := part_of pl
  obtain ⟨u, rfl, rfl⟩ := part_of pu
  refine ⟨"str", _, PySem.F.slot_str_getitem.lookup, typeIs_str s z t, ?_⟩
  refine wpAny_getItem_str_slice (l := l) (u := u) (st := none) hs rfl ?_
  unfold Txt.slice at q
  unfold sliceMade
  have e : slicePicked z l u none = Builtin.Str.strSliceIndices (l.map (·.1)) (u.map (·.1)) 1 z.length := rfl
  rw [e]
  simp only [Option.map_none, Option.getD_none]
  have hle := sliceIndices_le (l.map (·.1)) (u.map (·.1)) z.length
  by_cases w : ((1 : Int) == 1 && (Builtin.Str.strSliceIndices (l.map (·.1)) (u.map (·.1)) 1 z.length).length == z.length) = true
  · rw [if_pos w] at q
    rw [if_pos w]
    exact ⟨.str z, H, I, ⟨_, rfl⟩, q⟩
  · rw [if_neg w] at q
    rw [if_neg w]
    refine ⟨?_, .str _, H, I.tok _, ⟨_, rfl⟩, q⟩
    show (List.toArray _).size ≤ sizeLine
    rw [List.size_toArray]
    exact Nat.le_trans (List.length_filterMap_le _ _) (Nat.le_trans hle hz)
def oSlS : D → Option Int → Option Int → Option R
  | .str z, lo, hi => if z.length ≤ 1000000 then some (.sh (.str (Txt.slice z lo hi))) else none
  | d, lo, hi => oSl d lo hi
def fSlS (f : FD) (l h : FO) : FE := fun ω => (f ω).bind fun d => (l ω).bind fun lo => (h ω).bind fun hi => oSlS d lo hi
section
variable {X : Cx} {a b o e : Expr} {f g : FD} {pos apos cpos : Pos}
theorem xe_sliceS {lo hi : Option Expr} {l h : FO} {p2 : Pos} (ha : XV X a f) (hl : XO X lo l) (hh : XO X hi h) : XE X (.Subscript a (.Slice lo hi none p2) pos) (fSlS f l h) := by
  obtain ⟨t, h1, h2⟩ := ha
  obtain ⟨tl, h3, h4⟩ := hl
  obtain ⟨th, h5, h6⟩ := hh
  refine ⟨_, pe_slice (sl_str.or (sl_list.or (sl_tup.or sl_whole))) h1 h3 h5, fun G0 H0 G ω σ H r Q ow e k => ?_⟩
  obtain ⟨d, q, e⟩ := bnd e
  obtain ⟨lo', q2, e⟩ := bnd e
  obtain ⟨hi', q3, e⟩ := bnd e
  refine h2 G0 H0 G ω σ H d _ ow q fun v G1 H1 x1 y1 => ?_
  refine h4 G0 H0 G1 ω σ H1 lo' _ (ow.keep x1) q2 fun G2 H2 x2 => ?_
  refine h6 G0 H0 G2 ω σ H2 hi' _ ((ow.keep x1).keep x2) q3 fun G3 H3 x3 => ?_
  have y3 := (y1.keep x2).keep x3
  have x13 := (x1.trans x2).trans x3
  cases d with
  | str z =>
    cases y3.str
    unfold oSlS at e
    dsimp only at e
    by_cases w : z.length ≤ 1000000
    · rw [if_pos w] at e
      cases e
      exact .inl ⟨z, rfl, le_line6 w, k _ G3 H3 x13 rfl⟩
    · rw [if_neg w] at e; cases e
  | lst ds =>
    cases e
    obtain ⟨p, vs, rfl, h1, h2⟩ := y3.lst x3.gh
    refine .inr (.inl ⟨p, vs, rfl, SqL.of h1, fun n hn => ?_⟩)
    exact k _ G3 _ (x13.trans (Ext.hide x3.gh hn _)) ⟨n, _, rfl, x13.hh.free hn, x3.gh.free hn, upd_same, cut_reps h2 _ _⟩
  | scr ns =>
    cases e
    obtain ⟨p, rfl, h1⟩ := y3.scr
    refine .inr (.inl ⟨p, _, rfl, x3.gh.seq h1, fun n hn => ?_⟩)
    refine k _ G3 _ (x13.trans (Ext.hide x3.gh hn _)) ⟨n, _, rfl, x13.hh.free hn, x3.gh.free hn, upd_same, ?_⟩
    rw [cut_ints]
    exact Reps.ints _
  | tup ds =>
    unfold oSlS oSl at e
    dsimp only at e
    obtain ⟨p, vs, rfl, h1, h2⟩ := y3.tup
    by_cases z : HT.sIx ds.length 0 lo' = 0 ∧ HT.sIx ds.length ds.length hi' = ds.length
    · rw [if_pos z] at e
      cases e
      exact .inr (.inr (.inr ⟨p, vs, rfl, SqT.of (x3.gh _ _ h1), by rw [← h2.len]; exact z, k _ G3 H3 x13 ⟨p, vs, rfl, h1, h2⟩⟩))
    · rw [if_neg z] at e
      cases e
      refine .inr (.inr (.inl ⟨p, vs, rfl, SqT.of (x3.gh _ _ h1), by rw [← h2.len]; exact z, fun n hn => ?_⟩))
      have x4 := Ext.lay x3.gh hn (.tup (cutV vs lo' hi'))
      exact k _ _ _ (x13.trans x4) ⟨n, _, rfl, upd_same, (cut_reps h2 _ _).mono x4.gg⟩
  | _ => cases e
def r1M (r : R2) : V → List V → Hp → VK → Prop := fun x vs H Q => ∃ y, vs = [y] ∧ r x y H Q
def StrOp (op : D → D → Option R) : Prop := ∀ x y d, op x y = some d → ∃ z, x = .str z
theorem xe_strM {name : Str} {id : String} {r : R2} {op : D → D → Option R} (slot : Slot "str" name id) (hty : typeOf (.builtin id) = pure (.type "method_descriptor")) (hm : MtR X id (r1M r)) (hop : OpV X.K r op) (hst : StrOp op)
    (ho : XV X o f) (he : XV X e g) (hbase : attributeBase o name X.env (eval o X.env) = eval o X.env := by rfl)
    (hfew : ((backTo cpos (starEach [e] X.env)).all (fun x => !x.1) && (backToKw cpos (keywordEach [] X.env)).all (fun x => x.1.isSome)
      && decide (([e] : List Expr).length + ([] : List Keyword).length + (if ([] : List Keyword).isEmpty then 0 else 1) < 30)) = true := by rfl)
    (hline : (apos.endLine == cpos.line) = true := by rfl) (hs : starEach [e] X.env = (false, eval e X.env) :: starEach [] X.env := by rfl) (hplain : (backTo cpos (starEach [] X.env)).any (·.1) = false := by rfl) :
    XE X (.Call (.Attribute o name apos) [e] [] cpos) (fOpE op f g) := by
  obtain ⟨t, h1, h2⟩ := ho
  obtain ⟨u, h3, h4⟩ := he
  refine ⟨_, pe_bm PySem.F.plainAttrs_str slot hty hm h1 (pa_cons h3 pa_nil hs) hbase hfew hline hs hplain, fun G0 H0 G ω σ H r Q ow e kk => ?_⟩
  obtain ⟨d, q1, e⟩ := bnd e
  obtain ⟨c, q2, e⟩ := bnd e
  obtain ⟨z, rfl⟩ := hst _ _ _ e
  refine h2 G0 H0 G ω σ H _ _ ow q1 fun v G1 H1 x1 y1 => ?_
  cases y1.str
  refine ⟨rfl, h4 G0 H0 G1 ω σ H1 _ _ (ow.keep x1) q2 fun w G2 H2 x2 y2 => ?_⟩
  exact ⟨_, rfl, hop G2 H2 _ _ _ _ _ Q x2.gh e (y1.keep x2) y2 fun w G3 H3 x3 y3 => kk _ G3 H3 ((x1.trans x2).trans x3) (y3.after (x1.trans x2))⟩
end
def oStarts : D → D → Option R
  | .str i, .str j => some (.sh (.bl (Txt.startswith i j)))
  | _, _ => none
def rStarts : R2 := fun x y H Q => ∃ i j, x = .str i ∧ y = .str j ∧ Q (.bl (Txt.startswith i j)) H
theorem mt_starts {X : Cx} : MtR X "str.startswith" (r1M rStarts) := by
  intro pins s σ H x vs v us Q I rx rv h
  obtain ⟨y, rfl, i, j, rfl, rfl, q⟩ := h
  obtain ⟨u, rfl, ru⟩ := rv.one
  obtain ⟨t, rfl⟩ := rx
  obtain ⟨t', rfl⟩ := ru
  exact SC.startswith ⟨.bl _, H, I, rfl, q⟩
theorem opv_starts {K : PySem.W.Frag} : OpV K rStarts oStarts := by
  intro G H x y d v u Q s e hx hy k
  cases x with
  | str i =>
    cases y with
    | str j =>
      cases hx.str
      cases hy.str
      cases e
      exact ⟨i, j, rfl, rfl, k _ G H (Ext.refl s) rfl⟩
    | _ => cases e
  | _ => cases e
theorem st_starts : StrOp oStarts := by
  intro x y d e
  cases x with
  | str i => exact ⟨i, rfl⟩
  | _ => cases e
def oSplit : D → D → Option R
  | .str i, .str j => if (j.length == 0) = false ∧ i.length + 2 ≤ 1000000 then some (.fr ((Txt.split i j).map D.str)) else none
  | _, _ => none
def rSplit : R2 := fun x y H Q => ∃ i j, x = .str i ∧ y = .str j ∧ (j.length == 0) = false ∧ i.length + 2 ≤ sizeLine ∧ ∀ p, H p = none → Q (.ref p) (upd H p (.lst ((Txt.split i j).map V.str)))
theorem vals_strs : ∀ (l : List (Str × Tok)), Vals ((l.map (·.1)).map V.str) (strValues l)
  | [] => .nil
  | p :: r => .cons ⟨p.2, rfl⟩ (vals_strs r)
theorem mt_split {X : Cx} : MtR X "str.split" (r1M rSplit) := by
  intro pins s σ H x vs v us Q I rx rv h
  obtain ⟨y, rfl, i, j, rfl, rfl, hy, hz, q⟩ := h
  obtain ⟨u, rfl, ru⟩ := rv.one
  obtain ⟨t, rfl⟩ := rx
  obtain ⟨t', rfl⟩ := ru
  have hn : (Builtin.Str.partsBetween i (Builtin.Str.occurrences i j 0 i.length (i.length + 1)) j.length).length ≤ sizeLine := by
    have e1 := StrLaws.occ_length_le i j 0 i.length (i.length + 1)
    rw [length_partsBetween]; omega
  have fin : ∀ (l : List (Str × Tok)) (k : Nat), l.map (·.1) = Txt.split i j → EP X pins σ Q (.ref s.heap.objs.size) { s with heap := s.heap.push { cls := .type "list", data := .seq (strValues l).toArray }, toks := k } := by
    intro l k e
    refine ⟨.ref s.heap.objs.size, _, I.laid (t' := k) (o := .lst ((Txt.split i j).map V.str)) (fun b ob q => Heap.get?_push_of_some _ q) (Nat.le_refl _) ?_, rfl, q _ (I.hok.fresh (Nat.le_refl _))⟩
    refine ⟨?_, strValues l, 0, by rw [← e]; exact vals_strs l, Heap.get?_push_size _ rfl⟩
    rw [List.length_map]
    unfold Txt.split
    split
    · rw [sizeLine_eq]; simp
    · split
      · rw [sizeLine_eq]; simp
      · exact hn
  cases h1 : (decide (i.length < j.length) || decide (Builtin.Str.strKind i < Builtin.Str.strKind j))
  · cases hf : (Builtin.Str.occurrences i j 0 i.length (i.length + 1)).isEmpty
    · refine call_meets F.slot_str_split (typeIs_str _ _ _) F.entry_str_split (F.args_str_split_2 _ _) (meets_str_split_sep i j t t' h1 hy hf (by omega) hn) ?_
      show wants _ _ _ { s with toks := _, heap := s.heap.push { cls := .type "list", data := .seq (strsFrom s.toks (Builtin.Str.partsBetween i (Builtin.Str.occurrences i j 0 i.length (i.length + 1)) j.length)).toArray } }
      rw [strsFrom_eq]
      exact fin (numbered s.toks _) _ ((numbered_texts _ _).trans ((if_neg (ne_true_of_eq_false h1)).trans (if_neg (ne_true_of_eq_false hf))).symm)
    · exact call_meets F.slot_str_split (typeIs_str _ _ _) F.entry_str_split (F.args_str_split_2 _ _) (meets_str_split_not_found i j t t' h1 hy hf)
        (fin [(i, t)] s.toks ((if_neg (ne_true_of_eq_false h1)).trans (if_pos hf)).symm)
  · exact call_meets F.slot_str_split (typeIs_str _ _ _) F.entry_str_split (F.args_str_split_2 _ _) (meets_str_split_cannot_occur i j t t' h1)
      (fin [(i, t)] s.toks (if_pos h1).symm)
theorem reps_strs {K : PySem.W.Frag} {H : Hp} : ∀ (ss : List Str), Reps K H (ss.map D.str) (ss.map V.str)
  | [] => rfl
  | x :: r => ⟨_, _, rfl, rfl, reps_strs r⟩
theorem opv_split {K : PySem.W.Frag} : OpV K rSplit oSplit := by
  intro G H x y d v u Q s e hx hy k
  cases x with
  | str i =>
    cases y with
    | str j =>
      cases hx.str
      cases hy.str
      unfold oSplit at e
      dsimp only at e
      by_cases w : (j.length == 0) = false ∧ i.length + 2 ≤ 1000000
      · rw [if_pos w] at e
        cases e
        exact ⟨i, j, rfl, rfl, w.1, le_line6 w.2, fun p hp => k _ G _ (Ext.hide s hp _) ⟨p, _, rfl, hp, s.free hp, upd_same, reps_strs _⟩⟩
      · rw [if_neg w] at e; cases e
    | _ => cases e
  | _ => cases e
theorem st_split : StrOp oSplit := by
  intro x y d e
  cases x with
  | str i => exact ⟨i, rfl⟩
  | _ => cases e
def strsOf : List D → Option (List Str)
  | [] => some []
  | .str x :: r => (strsOf r).map fun l => x :: l
  | _ => none
theorem strsOf_of : ∀ {ds : List D} {ss : List Str}, strsOf ds = some ss → ds = ss.map D.str
  | [], _, h => by cases h; rfl
  | d :: r, ss, h => by
    cases d with
    | str x =>
      obtain ⟨l, q, e⟩ := mpd h
      subst e
      rw [strsOf_of q]; rfl
    | _ => cases h
theorem of_strs {K : PySem.W.Frag} {H : Hp} : ∀ {ss : List Str} {vs : List V}, Reps K H (ss.map D.str) vs → vs = ss.map V.str
  | [], _, h => h
  | x :: r, _, h => by
    obtain ⟨v, vs, rfl, h1, h2⟩ := h
    cases (show v = .str x from h1)
    rw [of_strs h2]; rfl
theorem strs_back : ∀ {ss : List Str} {us : List Value}, Vals (ss.map V.str) us → ∃ l : List (Str × Tok), us = strValues l ∧ l.map (·.1) = ss
  | [], _, .nil => ⟨[], rfl, rfl⟩
  | x :: r, _, .cons h1 h2 => by
    obtain ⟨t, rfl⟩ := h1
    obtain ⟨l, rfl, rfl⟩ := strs_back h2
    exact ⟨(x, t) :: l, rfl, rfl⟩
def oJoin : D → D → Option R
  | .str i, .lst ds => (strsOf ds).bind fun ss => if JoinOk i ss = true then some (.sh (.str (Txt.join i ss))) else none
  | _, _ => none
def rJoin : R2 := fun x y H Q => ∃ i l ss, x = .str i ∧ y = .ref l ∧ H l = some (.lst (ss.map V.str)) ∧ JoinOk i ss = true ∧ Q (.str (Txt.join i ss)) H
theorem mt_join {X : Cx} : MtR X "str.join" (r1M rJoin) := by
  intro pins s σ H x vs v us Q I rx rv h
  obtain ⟨y, rfl, i, l, ss, rfl, rfl, hl, hok, q⟩ := h
  obtain ⟨u, rfl, ru⟩ := rv.one
  obtain ⟨t, rfl⟩ := rx
  cases ru
  obtain ⟨z, its, n, r, _, e⟩ := I.lstM hl
  obtain ⟨ll, rfl, rfl⟩ := strs_back r
  exact SC.join ⟨_, e, rfl, n, rfl⟩ rfl hok fun t' k => ⟨.str _, H, I.tok _, ⟨_, rfl⟩, q⟩
theorem opv_join {K : PySem.W.Frag} : OpV K rJoin oJoin := by
  intro G H x y d v u Q s e hx hy k
  cases x with
  | str i =>
    cases y with
    | lst ds =>
      cases hx.str
      have e1 : ((strsOf ds).bind fun ss => if JoinOk i ss = true then some (R.sh (.str (Txt.join i ss))) else none) = some d := e
      clear e
      obtain ⟨ss, q1, e⟩ := bnd e1
      clear e1
      have hds := strsOf_of q1
      subst hds
      obtain ⟨p, us, rfl, h1, h2⟩ := hy.lst s
      have hus := of_strs h2
      subst hus
      by_cases w : JoinOk i ss = true
      · rw [if_pos w] at e
        cases e
        exact ⟨i, p, ss, rfl, rfl, h1, w, k _ G H (Ext.refl s) rfl⟩
      · rw [if_neg w] at e; cases e
    | _ => cases e
  | _ => cases e
theorem st_join : StrOp oJoin := by
  intro x y d e
  cases x with
  | str i => exact ⟨i, rfl⟩
  | _ => cases e
section
variable {X : Cx} {o e : Expr} {f g : FD} {apos cpos : Pos}
theorem xe_starts (ho : XV X o f) (he : XV X e g) (hbase : attributeBase o "startswith" X.env (eval o X.env) = eval o X.env := by rfl)
    (hfew : ((backTo cpos (starEach [e] X.env)).all (fun x => !x.1) && (backToKw cpos (keywordEach [] X.env)).all (fun x => x.1.isSome)
      && decide (([e] : List Expr).length + ([] : List Keyword).length + (if ([] : List Keyword).isEmpty then 0 else 1) < 30)) = true := by rfl)
    (hline : (apos.endLine == cpos.line) = true := by rfl) (hs : starEach [e] X.env = (false, eval e X.env) :: starEach [] X.env := by rfl) (hplain : (backTo cpos (starEach [] X.env)).any (·.1) = false := by rfl) :
    XE X (.Call (.Attribute o "startswith" apos) [e] [] cpos) (fOpE oStarts f g) := xe_strM F.slot_str_startswith F.type_str_startswith mt_starts opv_starts st_starts ho he hbase hfew hline hs hplain
theorem xe_split (ho : XV X o f) (he : XV X e g) (hbase : attributeBase o "split" X.env (eval o X.env) = eval o X.env := by rfl)
    (hfew : ((backTo cpos (starEach [e] X.env)).all (fun x => !x.1) && (backToKw cpos (keywordEach [] X.env)).all (fun x => x.1.isSome)
      && decide (([e] : List Expr).length + ([] : List Keyword).length + (if ([] : List Keyword).isEmpty then 0 else 1) < 30)) = true := by rfl)
    (hline : (apos.endLine == cpos.line) = true := by rfl) (hs : starEach [e] X.env = (false, eval e X.env) :: starEach [] X.env := by rfl) (hplain : (backTo cpos (starEach [] X.env)).any (·.1) = false := by rfl) :
    XE X (.Call (.Attribute o "split" apos) [e] [] cpos) (fOpE oSplit f g) := xe_strM F.slot_str_split F.type_str_split mt_split opv_split st_split ho he hbase hfew hline hs hplain
theorem xe_join (ho : XV X o f) (he : XV X e g) (hbase : attributeBase o "join" X.env (eval o X.env) = eval o X.env := by rfl)
    (hfew : ((backTo cpos (starEach [e] X.env)).all (fun x => !x.1) && (backToKw cpos (keywordEach [] X.env)).all (fun x => x.1.isSome)
      && decide (([e] : List Expr).length + ([] : List Keyword).length + (if ([] : List Keyword).isEmpty then 0 else 1) < 30)) = true := by rfl)
    (hline : (apos.endLine == cpos.line) = true := by rfl) (hs : starEach [e] X.env = (false, eval e X.env) :: starEach [] X.env := by rfl) (hplain : (backTo cpos (starEach [] X.env)).any (·.1) = false := by rfl) :
    XE X (.Call (.Attribute o "join" apos) [e] [] cpos) (fOpE oJoin f g) := xe_strM F.slot_str_join F.type_str_join mt_join opv_join st_join ho he hbase hfew hline hs hplain
end
end Hk
set_option maxRecDepth 100000
namespace Hk
open PySem L2
def Its (x : Str) : It := ⟨fun i _ => i < x.cps.size, fun i H v H' => H' = H ∧ ∃ c, x.cps[i]? = some c ∧ v = .str ⟨#[c]⟩, fun i _ => x.cps.size ≤ i⟩
theorem turn_str {P : Program} {w : World} {K : PySem.W.Frag} {tg : Expr} (it : Addr) (x : Str) (t : Tok) : Turn P w K tg (Its x) [it] it (fun i h => h.IsStrIter it "str_ascii_iterator" x t i) where
  mem := by simp
  obj := fun i h st b hb => by
    have e : b = it := by simpa using hb
    subst e
    obtain ⟨o, e, c, d⟩ := st
    exact ⟨o, e, fun v z => by rw [d] at z; cases z⟩
  keep := fun i h h' st k => by
    obtain ⟨o, e, r⟩ := st
    exact ⟨o, k it (by simp) o e, r⟩
  item := by
    intro X hP hw hK hc i pins s σ H E I hf st hg
    subst hP hw hK
    obtain ⟨f0, f1, f2, f3, f4, f5⟩ := hf it (by simp)
    have hx : x.cps[i]? = some x.cps[i] := Array.getElem?_eq_getElem hg
    refine wpAny_pyNext_ascii_item st hx fun h' st' sb => ?_
    have I1 : Inv X pins σ H { s with heap := h', toks := s.toks + 1 } := I.turned (t' := s.toks + 1) (fun b o hb e => (sb.2 b hb).trans e) f0 f1 f3 f4 f5
    obtain ⟨o, e, c, d⟩ := id st'
    exact ⟨_, rfl, go_of (s := { s with heap := h', toks := s.toks + 1 }) e c d (by decide) ⟨.str ⟨#[x.cps[i]]⟩, H, I1, ⟨_, rfl⟩, ⟨rfl, _, hx, rfl⟩, st', fun b hb => (hf b hb).1⟩⟩
  done := by
    intro X hP hw hK hc i pins s σ H E I hf st hg
    subst hP hw hK
    obtain ⟨f0, f1, f2, f3, f4, f5⟩ := hf it (by simp)
    exact wpAny_pyNext_ascii_end (I.ok.hd hc) st (Array.getElem?_eq_none hg) fun h' eb => ⟨rfl, I.turned (t' := s.toks) (fun b o hb e => eb b o hb e) f0 f1 f3 f4 f5⟩
  self := fun _ _ _ _ _ st h => wpAny_pyIter_striter_ascii st h
def iStr (tl : TE) : TI := fun σ H R => tl σ H fun x H1 => ∃ z : Str, x = .str z ∧ z.cps.all (· < 128) = true ∧ R (Its z) H1
section
variable {X : Cx} {tg : Expr}
theorem pi_str {l : Expr} {tl : TE} (hl : PE X l tl) : PI X tg l (iStr tl) := by
  intro pins s σ H R I h
  refine thn (hl pins s σ H _ I h) fun v s1 ⟨x, H1, I1, r1, q1⟩ => ?_
  obtain ⟨z, e, ha, q⟩ := q1
  subst e
  obtain ⟨t, rfl⟩ := r1
  refine wpAny_pyIter_ascii ha ?_
  refine ⟨s1.heap.objs.size, [s1.heap.objs.size], _, _, H1, rfl, I1.kept (t' := s1.toks) fun b o e => Heap.get?_push_of_some _ e, turn_str _ z t, ⟨_, Heap.get?_push_size _ rfl, rfl, rfl⟩, fun b hb => ?_, q⟩
  have e : b = s1.heap.objs.size := by simpa using hb
  subst e
  exact I1.fpOk (Nat.le_refl _) (I1.hok.fresh (Nat.le_refl _))
def signsOf (z : Str) : List D := z.cps.toList.map fun c => D.str ⟨#[c]⟩
theorem iter_str {K : PySem.W.Frag} {G : Hp} (z : Str) : IterOf K (Its z) G (signsOf z) := by
  have hl : (signsOf z).length = z.cps.size := by unfold signsOf; rw [List.length_map, Array.length_toList]
  refine ⟨fun H i s hi => by rw [hl] at hi; exact hi, fun G2 H i x H' d s0 s1 hd hy => ?_, fun H s => by rw [hl]; exact Nat.le_refl _⟩
  obtain ⟨e, c, hc, y⟩ := hy
  subst e
  refine ⟨G2, Ext.refl s1, ?_⟩
  unfold signsOf at hd
  rw [List.getElem?_map, Array.getElem?_toList, hc] at hd
  cases hd
  exact y
def itemsS : D → Option (List D)
  | .str z => if z.cps.all (· < 128) = true then some (signsOf z) else none
  | d => itemsOf d
def iSeqS (f : FD) : FI := fun ω => (f ω).bind itemsS
theorem xi_seqS {e : Expr} {f : FD} (h : XD X e f) : XI X tg e (iSeqS f) := by
  obtain ⟨t, h1, h2⟩ := h
  refine ⟨fun σ H R => iStr t σ H R ∨ iList X.K t σ H R ∨ iTup X.K t σ H R, fun pins s σ H R I q => ?_, fun G0 H0 G ω σ H ds R o e k => ?_⟩
  · rcases q with q | q | q
    · exact pi_str h1 pins s σ H R I q
    · exact pi_list h1 pins s σ H R I q
    · exact pi_tup h1 pins s σ H R I q
  · obtain ⟨d, q, e⟩ := bnd e
    cases d with
    | str z =>
      unfold itemsS at e
      dsimp only at e
      by_cases w : z.cps.all (· < 128) = true
      · rw [if_pos w] at e
        cases e
        exact .inl (h2 G0 H0 G ω σ H _ _ o q fun v G1 H1 x1 y1 => ⟨z, y1, w, k _ G1 H1 x1 (iter_str z)⟩)
      · rw [if_neg w] at e; cases e
    | lst es =>
      cases e
      exact .inr (.inl (h2 G0 H0 G ω σ H _ _ o q fun v G1 H1 x1 ⟨a, vs, e1, e2, e3⟩ => ⟨a, e1, ⟨vs, SqL.of (x1.gh _ _ e2)⟩, k _ G1 H1 x1 (iter_lst e2 e3)⟩))
    | tup es =>
      cases e
      exact .inr (.inr (h2 G0 H0 G ω σ H _ _ o q fun v G1 H1 x1 ⟨a, vs, e1, e2, e3⟩ => ⟨a, e1, ⟨vs, SqT.of (x1.gh _ _ e2)⟩, k _ G1 H1 x1 (iter_tup e2 e3)⟩))
    | _ => cases e
end
end Hk
set_option maxRecDepth 100000
namespace Hk
open PySem L2
def tField (te : TE) : TE := fun σ H Q => te σ H fun x H1 => (∃ z : Str, x = .str z ∧ z.length ≤ sizeLine ∧ Q (.str z) H1) ∨ ∃ i : Int, x = .int i ∧ i.natAbs.log2 < 1920 ∧ Q (.str (toString i)) H1
def tCat : List TE → Str → TE
  | [], acc, _, H, Q => acc.length ≤ sizeLine ∧ Q (.str acc) H
  | t :: r, acc, σ, H, Q => t σ H fun x H1 => ∃ z : Str, x = .str z ∧ (acc ++ z).length ≤ sizeLine ∧ tCat r (acc ++ z) σ H1 Q
section
variable {X : Cx} {e : Expr} {pos : Pos}
theorem pe_field {te : TE} (h : PE X e te) : PE X (.FormattedValue e (-1) none pos) (tField te) := by
  intro pins s σ H Q I q
  refine wpAny_FormattedValue_plain (thn (h pins s σ H _ I q) fun v s1 ⟨x, H1, I1, r1, q1⟩ => ?_)
  rcases q1 with ⟨z, rfl, hz, q1⟩ | ⟨i, rfl, hi, q1⟩
  · obtain ⟨t, rfl⟩ := r1
    exact wpAny_formatField_str ⟨.str z, H1, I1, ⟨_, rfl⟩, q1⟩ ⟨.str z, H1, I1.tok _, ⟨_, rfl⟩, q1⟩ hz
  · obtain ⟨t, rfl⟩ := r1
    exact wpAny_formatField_int hi ⟨.str _, H1, I1.tok _, ⟨_, rfl⟩, q1⟩
def PEs (X : Cx) : List Expr → List TE → Prop
  | [], [] => True
  | e :: es, t :: ts => PE X e t ∧ PEs X es ts
  | _, _ => False
theorem pe_cats : ∀ {es : List Expr} {ts : List TE}, PEs X es ts → ∀ (acc : Str) (pins : List (Addr × Obj)) (s : Shared) (σ : St) (H : Hp) (Q : VK), Inv X pins σ H s → tCat ts acc σ H Q →
    Joins (model X.prog X.w) X.A X.xe (evalEach es X.env) acc (fun out s1 => out.length ≤ sizeLine ∧ EP X pins σ Q (.str out s1.toks) { s1 with toks := s1.toks + 1 }) s
  | [], [], _, acc, pins, s, σ, H, Q, I, q => ⟨q.1, .str acc, H, I.tok _, ⟨_, rfl⟩, q.2⟩
  | e :: es, t :: ts, h, acc, pins, s, σ, H, Q, I, q => by
    refine thn (h.1 pins s σ H _ I q) fun v s1 ⟨x, H1, I1, r1, q1⟩ => ?_
    obtain ⟨z, rfl, hz, q1⟩ := q1
    obtain ⟨t, rfl⟩ := r1
    exact ⟨z, t, rfl, hz, pe_cats h.2 (acc ++ z) pins s1 σ H1 Q I1 q1⟩
theorem pe_fstr {e1 e2 : Expr} {es : List Expr} {ts : List TE} (h : PEs X (e1 :: e2 :: es) ts) : PE X (.JoinedStr (e1 :: e2 :: es) pos) (tCat ts Str.empty) := by
  intro pins s σ H Q I q
  exact wpAny_JoinedStr (pe_cats h Str.empty pins s σ H Q I q)
def partD : D → Option Str
  | .str z => if z.length ≤ 1000000 then some z else none
  | .int i => if i.natAbs.log2 < 1920 then some (toString i) else none
  | _ => none
abbrev FSs := WSt → Option (List Str)
def catS : Str → List Str → Str
  | acc, [] => acc
  | acc, z :: r => catS (acc ++ z) r
theorem catS_le : ∀ (r : List Str) (acc : Str), acc.length ≤ (catS acc r).length
  | [], acc => Nat.le_refl _
  | z :: r, acc => Nat.le_trans (by rw [strLen_append]; omega) (catS_le r (acc ++ z))
def SimC (K : PySem.W.Frag) (ts : List TE) (g : FSs) : Prop := ∀ G0 H0 G ω σ H ss acc (Q : VK), Own K G0 H0 G ω σ H → g ω = some ss → (catS acc ss).length ≤ 1000000 → (∀ G' H', Ext G H G' H' → Q (.str (catS acc ss)) H') → tCat ts acc σ H Q
def XFS (X : Cx) (es : List Expr) (g : FSs) : Prop := ∃ ts, PEs X es ts ∧ SimC X.K ts g
def cNil : FSs := fun _ => some []
def cCons (f : FD) (g : FSs) : FSs := fun ω => (f ω).bind fun d => (partD d).bind fun z => (g ω).map fun r => z :: r
theorem xf_nil : XFS X [] cNil := ⟨[], trivial, fun G0 H0 G ω σ H ss acc Q ow e l k => by cases e; exact ⟨le_line6 l, k G H (Ext.refl ow.gh)⟩⟩
theorem simC_cons {t : TE} {ts : List TE} {f : FD} {g : FSs} (h : ∀ G0 H0 G ω σ H d z (Q : VK), Own X.K G0 H0 G ω σ H → f ω = some d → partD d = some z → (∀ G' H', Ext G H G' H' → Q (.str z) H') → t σ H Q) (hg : SimC X.K ts g) : SimC X.K (t :: ts) (cCons f g) := by
  intro G0 H0 G ω σ H ss acc Q ow e l k
  obtain ⟨d, q1, e⟩ := bnd e
  obtain ⟨z, q2, e⟩ := bnd e
  obtain ⟨r, q3, e⟩ := mpd e
  subst e
  refine h G0 H0 G ω σ H d z _ ow q1 q2 fun G1 H1 x1 => ⟨z, rfl, le_line6 (Nat.le_trans (catS_le r (acc ++ z)) l), ?_⟩
  exact hg G0 H0 G1 ω σ H1 r (acc ++ z) Q (ow.keep x1) q3 l fun G2 H2 x2 => k G2 H2 (x1.trans x2)
theorem xf_field {es : List Expr} {f : FD} {g : FSs} (he : XD X e f) (hg : XFS X es g) : XFS X (.FormattedValue e (-1) none pos :: es) (cCons f g) := by
  obtain ⟨t, h1, h2⟩ := he
  obtain ⟨ts, h3, h4⟩ := hg
  refine ⟨tField t :: ts, ⟨pe_field h1, h3⟩, simC_cons (fun G0 H0 G ω σ H d z Q ow e1 e2 k => ?_) h4⟩
  refine h2 G0 H0 G ω σ H d _ ow e1 fun v G1 H1 x1 y1 => ?_
  cases d with
  | str x =>
    unfold partD at e2
    dsimp only at e2
    by_cases w : x.length ≤ 1000000
    · rw [if_pos w] at e2
      cases e2
      exact .inl ⟨_, y1, le_line6 w, k G1 H1 x1⟩
    · rw [if_neg w] at e2; cases e2
  | int i =>
    unfold partD at e2
    dsimp only at e2
    by_cases w : i.natAbs.log2 < 1920
    · rw [if_pos w] at e2
      cases e2
      exact .inr ⟨i, y1, w, k G1 H1 x1⟩
    · rw [if_neg w] at e2; cases e2
  | _ => cases e2
theorem xf_lit {es : List Expr} {z : Str} {j} {g : FSs} (hg : XFS X es g) : XFS X (.Constant (.str z) j pos :: es) (cCons (fC (.str z)) g) := by
  obtain ⟨ts, h3, h4⟩ := hg
  refine ⟨_ :: ts, ⟨pe_str, h3⟩, simC_cons (fun G0 H0 G ω σ H d y Q ow e1 e2 k => ?_) h4⟩
  cases e1
  unfold partD at e2
  dsimp only at e2
  by_cases w : z.length ≤ 1000000
  · rw [if_pos w] at e2
    cases e2
    exact k G H (Ext.refl ow.gh)
  · rw [if_neg w] at e2; cases e2
def fFstr (g : FSs) : FD := fun ω => (g ω).bind fun ss => if (catS Str.empty ss).length ≤ 1000000 then some (.str (catS Str.empty ss)) else none
theorem xd_fstr {e1 e2 : Expr} {es : List Expr} {g : FSs} (h : XFS X (e1 :: e2 :: es) g) : XD X (.JoinedStr (e1 :: e2 :: es) pos) (fFstr g) := by
  obtain ⟨ts, h1, h2⟩ := h
  refine ⟨_, pe_fstr h1, fun G0 H0 G ω σ H d Q ow e k => ?_⟩
  obtain ⟨ss, q, e⟩ := bnd e
  by_cases w : (catS Str.empty ss).length ≤ 1000000
  · rw [if_pos w] at e
    cases e
    exact h2 G0 H0 G ω σ H ss Str.empty Q ow q w fun G1 H1 x1 => k _ G1 H1 x1 rfl
  · rw [if_neg w] at e; cases e
end
end Hk
set_option maxRecDepth 100000
namespace Hk
open PySem L2
open PyProof.Rows (KTD.TextTab KTD.datumAt KTD.inKeys KTD.EachL KTD.Dat KTD.Here)
def TabK (K : PySem.W.Frag) (v : Value) (D : List (Str × Int)) : Prop :=
  ∃ a o es ep, v = .ref a ∧ (a == sysModules) = false ∧ K.lookup a = some o ∧ o.ExactDict ∧ o.data = .dict es ep ∧ PyProof.Rows.KTD.Rows (fun (d : Int) v => ∃ t, v = .int d t) es.toList D
def dats (D : List (Str × Int)) : List (Str × PyProof.Rows.KTD.Dat) := D.map fun p => (p.1, .flat (.int p.2))
theorem TabK.here {K : PySem.W.Frag} {v : Value} {D : List (Str × Int)} (T : TabK K v D) {h : Heap} (k : K.In h) : ∃ a, v = .ref a ∧ PyProof.Rows.KTD.Here h h a (dats D) := by
  obtain ⟨a, o, es, ep, rfl, h1, h2, h3, h4, h5⟩ := T
  exact ⟨a, rfl, ⟨h1, o, es, ep, k _ _ h2, h3, h4, PyProof.Rows.KTD.Rows.mono (R' := PyProof.Rows.KTD.Dat.At h) (f := fun i => .flat (.int i)) (fun d v ⟨t, e⟩ => by subst e; exact PyProof.V.Flat.int d t) h5⟩, fun _ _ e => e⟩
theorem keys_dats {k : Str} : ∀ {D : List (Str × Int)}, PyProof.Rows.KTD.inKeys k (dats D) = PyProof.Rows.KTD.inKeys k D
  | [] => rfl
  | p :: D => by
    show (decide (k = p.1) || PyProof.Rows.KTD.inKeys k (dats D)) = (decide (k = p.1) || PyProof.Rows.KTD.inKeys k D)
    rw [keys_dats]
theorem eachL_dats {h : Heap} {k : Str} {P : Value → Prop} {n : Int} (q : ∀ t, P (.int n t)) : ∀ {D : List (Str × Int)}, PyProof.Rows.KTD.datumAt k D = some n → PyProof.Rows.KTD.EachL h k P (dats D)
  | [], e => by cases e
  | [(x, d)], e => by
    intro hx
    have e : (if decide (k = x) = true then some d else none) = some n := e
    rw [if_pos (decide_eq_true hx)] at e
    cases e
    exact q
  | (x, d) :: p :: D, e => by
    have e : (if decide (k = x) = true then some d else PyProof.Rows.KTD.datumAt k (p :: D)) = some n := e
    show (if decide (k = x) = true then _ else PyProof.Rows.KTD.EachL h k P (dats (p :: D)))
    by_cases hx : decide (k = x) = true
    · rw [if_pos hx] at e ⊢
      cases e
      exact q
    · rw [if_neg hx] at e ⊢
      exact eachL_dats q e
theorem datum_keys {k : Str} {D : List (Str × Int)} {n : Int} (e : PyProof.Rows.KTD.datumAt k D = some n) : PyProof.Rows.KTD.inKeys k (dats D) = true := by
  rw [keys_dats, ← PyProof.Rows.KTD.isSome_datumAt, e]; rfl
section
variable {X : Cx} {e : Expr} {f : FD} {pos p : Pos} {x : Str} {D : List (Str × Int)} {u : Value}
def inG (neg : Bool) (D : List (Str × Int)) (f : FD) : FE := fun ω => (f ω).bind fun d => match d with
  | .str k => some (.sh (.bl (if neg then !PyProof.Rows.KTD.inKeys k D else PyProof.Rows.KTD.inKeys k D)))
  | _ => none
def rInG (u : Value) (D : List (Str × Int)) (neg : Bool) : R2 := fun x y H Q => ∃ k a, x = .str k ∧ y = .ref a ∧ u = .ref a ∧ Q (.bl (if neg then !PyProof.Rows.KTD.inKeys k D else PyProof.Rows.KTD.inKeys k D)) H
theorem op_notinG (T : TabK X.K u D) : OpR X (compareOp .NotIn) (rInG u D true) := by
  intro pins s σ H x y v w Q I rx ry h
  obtain ⟨k, a, rfl, rfl, rfl, q⟩ := h
  obtain ⟨t, rfl⟩ := rx
  cases ry
  obtain ⟨b, e, hh⟩ := T.here I.kIn
  cases e
  exact PyProof.Rows.KTD.notin_text hh ⟨.bl _, H, I.tok _, rfl, by rw [keys_dats]; exact q⟩
theorem sim_inG {t : TE} {neg : Bool} {a : Addr} (h2 : SimD X.K t f) : SimE X.K (tOp (rInG (.ref a) D neg) t (tC (.ref a))) (inG neg D f) := by
  intro G0 H0 G ω σ H r Q ow e k
  obtain ⟨d, q, e⟩ := bnd e
  cases d with
  | str z =>
    cases e
    exact h2 G0 H0 G ω σ H _ _ ow q fun v G1 H1 x1 y1 => ⟨z, a, y1, rfl, rfl, k _ G1 H1 x1 rfl⟩
  | _ => cases e
theorem xt_notinG (he : XD X e f) (hg : Gl X x) (hm : X.mg x = some u) (T : TabK X.K u D) (hd : (x == ("__debug__" : Str)) = false := by decide) (hb : behindInMarks .NotIn (.Name x p) = false := by with_unfolding_all rfl) :
    XT X (.Compare e [.NotIn] [.Name x p] pos) (tOf (inG true D f)) := by
  obtain ⟨t, h1, h2⟩ := he
  obtain ⟨a, o, es, ep, rfl, r⟩ := id T
  exact ⟨_, pt_cmpR (op_notinG T) h1 (pe_glob (v := .ref a) hg hm rfl hd) hb, simT_test (sim_inG h2)⟩
def ixG (D : List (Str × Int)) (f : FD) : FE := fun ω => (f ω).bind fun d => match d with
  | .str k => (PyProof.Rows.KTD.datumAt k D).map fun n => .sh (.int n)
  | _ => none
def rIxG (u : Value) (D : List (Str × Int)) : R2 := fun x y H Q => ∃ k a n, x = .ref a ∧ u = .ref a ∧ y = .str k ∧ PyProof.Rows.KTD.datumAt k D = some n ∧ Q (.int n) H
theorem ix_G (T : TabK X.K u D) : IxR X (rIxG u D) := by
  intro value slice pins s σ H x y v w Q I rx ry h hs
  obtain ⟨k, a, n, rfl, rfl, rfl, hn, q⟩ := h
  cases rx
  obtain ⟨t, rfl⟩ := ry
  obtain ⟨b, e, hh⟩ := T.here I.kIn
  cases e
  refine PyProof.Rows.KTD.item_textA hh ?_ (datum_keys hn) (eachL_dats (fun t => ⟨.int n, H, I.tok _, ⟨_, rfl⟩, q⟩) hn) hs
  unfold dats
  rw [List.all_map, List.all_eq_true]
  intro p hp
  rfl
theorem xe_itemG (he : XD X e f) (hg : Gl X x) (hm : X.mg x = some u) (T : TabK X.K u D) (hs : PlainIx e := by exact fun _ _ => rfl) (hd : (x == ("__debug__" : Str)) = false := by decide) :
    XE X (.Subscript (.Name x p) e pos) (ixG D f) := by
  obtain ⟨t, h1, h2⟩ := he
  obtain ⟨a, o, es, ep, rfl, r⟩ := id T
  refine ⟨_, pe_ix (ix_G T) (pe_glob (v := .ref a) hg hm rfl hd) h1 hs, fun G0 H0 G ω σ H r Q ow e k => ?_⟩
  obtain ⟨d, q, e⟩ := bnd e
  cases d with
  | str z =>
    obtain ⟨n, q2, e⟩ := mpd e
    subst e
    exact h2 G0 H0 G ω σ H _ _ ow q fun v G1 H1 x1 y1 => ⟨z, a, n, rfl, rfl, y1, q2, k _ G1 H1 x1 rfl⟩
  | _ => cases e
theorem xd_glob {z : Str} (hg : Gl X x) (hm : ∃ t, X.mg x = some (.str z t)) (hd : (x == ("__debug__" : Str)) = false := by decide) : XD X (.Name x p) (fC (.str z)) := by
  obtain ⟨t, hm⟩ := hm
  refine ⟨_, pe_glob (v := .str z) hg hm ⟨t, rfl⟩ hd, fun G0 H0 G ω σ H d Q ow e k => ?_⟩
  cases e
  exact k _ G H (Ext.refl ow.gh) rfl
end
end Hk
set_option maxRecDepth 100000
namespace Hk
open PySem L2
section
variable {z y : Str} {ds es : List D} {ns : List Int} {i j : Int} {b : Bool} {d : D}
theorem e_lenS_s (h : z.length ≤ 1000000) : bLenS [.str z] = some (.sh (.int z.length)) := if_pos h
theorem e_lenS_l : bLenS [.lst ds] = some (.sh (.int ds.length)) := rfl
theorem e_lenS_t : bLenS [.tup ds] = some (.sh (.int ds.length)) := rfl
theorem e_lenS_c : bLenS [.scr ns] = some (.sh (.int ns.length)) := rfl
theorem e_starts : oStarts (.str z) (.str y) = some (.sh (.bl (Txt.startswith z y))) := rfl
theorem e_addS_ii : oAddS (.int i) (.int j) = some (.sh (.int (i + j))) := rfl
theorem e_addS_ll (h : ds.length + es.length ≤ 1000000) : oAddS (.lst ds) (.lst es) = some (.fr (ds ++ es)) := if_pos h
theorem e_addS_ss (h : z.length + y.length ≤ 1000000) : oAddS (.str z) (.str y) = some (.sh (.str (z ++ y))) := if_pos h
theorem e_addS_tt (h : (d :: ds).length + es.length ≤ 1000000) : oAddS (.tup (d :: ds)) (.tup es) = some (.sh (.tup ((d :: ds) ++ es))) := if_pos h
theorem e_inT_ss : oInT false (.str z) (.str y) = some (.sh (.bl (inS z y))) := rfl
theorem e_ixS_l : oIxS (.lst ds) (.int i) = (atI ds i).map R.sh := rfl
theorem e_ixS_t : oIxS (.tup ds) (.int i) = (atI ds i).map R.sh := rfl
theorem e_ixS_c : oIxS (.scr ns) (.int i) = (atI ns i).map fun n => .sh (.int n) := rfl
theorem e_slS_s {lo hi : Option Int} (h : z.length ≤ 1000000) : oSlS (.str z) lo hi = some (.sh (.str (Txt.slice z lo hi))) := if_pos h
theorem e_slS_l {lo hi : Option Int} : oSlS (.lst ds) lo hi = some (.fr (cutD ds lo hi)) := rfl
theorem e_slS_c {lo hi : Option Int} : oSlS (.scr ns) lo hi = some (.fr ((cutD ns lo hi).map D.int)) := rfl
theorem e_strS (h : i.natAbs.log2 < 1920) : bStr [.int i] = some (.sh (.str (toString i))) := if_pos h
theorem e_splitS (h : (y.length == 0) = false ∧ z.length + 2 ≤ 1000000) : oSplit (.str z) (.str y) = some (.fr ((Txt.split z y).map D.str)) := if_pos h
theorem e_itemsS_l : itemsS (.lst ds) = some ds := rfl
theorem e_itemsS_t : itemsS (.tup ds) = some ds := rfl
theorem e_itemsS_s (h : z.cps.all (· < 128) = true) : itemsS (.str z) = some (signsOf z) := if_pos h
theorem e_iseqS {f : FD} {ω : WSt} : iSeqS f ω = (f ω).bind itemsS := rfl
theorem e_fSlS {f : FD} {l h : FO} {ω : WSt} : fSlS f l h ω = (f ω).bind fun d => (l ω).bind fun lo => (h ω).bind fun hi => oSlS d lo hi := rfl
end
end Hk
set_option maxRecDepth 100000
namespace Hk
open PySem PySem.Spec L2 PyProof.Rows
def mkH (H1 : Hp) (C x dx : Addr) : Hp := upd (upd H1 dx (.own x)) x (.ins C dx [])
theorem mkH_same {H1 : Hp} {C x dx : Addr} (h1 : H1 x = none) (h2 : H1 dx = none) : Same H1 (mkH H1 C x dx) := fun b u z => by
  have n1 : b ≠ x := fun e => by rw [e, h1] at z; cases z
  have n2 : b ≠ dx := fun e => by rw [e, h2] at z; cases z
  unfold mkH
  rw [upd_ne n1, upd_ne n2]; exact z
theorem own2 {K : PySem.W.Frag} {G H : Hp} {v0 v : V} {d : D} (g : Same G H) (r : Rep K G d v) : Own K G (fr H) G [none, some (.sh d)] [some v0, some v] H := by
  have no : NoOw [none, some (W.sh d)] := fun i w z => by
    match i, z with
    | 0, z => cases z
    | 1, z => cases z; exact ⟨d, rfl⟩
    | i + 2, z => simp at z
  refine ⟨Ext.refl g, rfl, fun i e z => ?_, fun i es e => absurd e (no.ow i es), fun i j es fs l e => absurd e (no.ow i es), fun i ks es e => absurd e (no.od i ks es), PwOk.no no.pw⟩
  match i, z with
  | 0, z => cases z
  | 1, z => cases z; exact ⟨v, rfl, r⟩
  | i + 2, z => simp at z
section
variable {X : Cx} {C : Addr} {m : List D → Option O} {e : Expr} {g : FE} {att : Str}
end
section
variable {X : Cx} {e : Expr} {k : Nat} {f C : Addr} {fd : FuncData} {ps : List Str} {m : List D → Option O} {mx : List D → Option Str} {x : Str} {p pos cpos : Pos} {ga : FA}
end
def repS (z : Str) (n : Nat) : Str := ⟨(List.replicate n z.cps).foldl (· ++ ·) #[]⟩
theorem rep_fold (a : Array Nat) : ∀ (n : Nat) (acc : Array Nat), ((List.replicate n a).foldl (· ++ ·) acc).size = acc.size + a.size * n
  | 0, acc => by simp
  | n + 1, acc => by
    rw [List.replicate_succ, List.foldl_cons, rep_fold a n, Array.size_append, Nat.mul_add]
    omega
theorem rep_len (z : Str) (n : Nat) : (repS z n).length = z.length * n := by
  show ((List.replicate n z.cps).foldl (· ++ ·) #[]).size = _
  rw [rep_fold]; simp [Str.length]
def oMulS : D → D → Option R
  | .str z, .int n => if (2 ≤ n ∧ n ≤ 1000) ∧ 1 ≤ z.length ∧ z.length ≤ 1000 then some (.sh (.str (repS z n.toNat))) else none
  | _, _ => none
def rMulS : R2 := fun x y H Q => ∃ z n, x = .str z ∧ y = .int n ∧ ((2 ≤ n ∧ n ≤ 1000) ∧ 1 ≤ z.length ∧ z.length ≤ 1000) ∧ Q (.str (repS z n.toNat)) H
theorem op_mulS {X : Cx} : OpR X (binaryOp .Mult) rMulS := by
  intro pins s σ H x y v u Q I rx ry h
  obtain ⟨z, n, rfl, rfl, ⟨⟨h1, h2⟩, h3, h4⟩, q⟩ := h
  obtain ⟨t, rfl⟩ := rx
  obtain ⟨t', rfl⟩ := ry
  have e1 : ¬ n < 1 := by omega
  have e2 : (n == 1 || z.length == 0) = false := by
    have a : (n == 1) = false := by simp; omega
    have b : (z.length == 0) = false := by simp; omega
    rw [a, b]; rfl
  have hm : z.length * n.toNat ≤ 1000 * 1000 := Nat.mul_le_mul h4 (by omega)
  have tl : Builtin.Str.tooLong (z.length * n.toNat) = false := by
    unfold Builtin.Str.tooLong
    exact decide_eq_false (by rw [sizeLine_eq]; omega)
  refine PySem.P.mul_str (by rw [decide_eq_false (by omega), decide_eq_false (by omega)]; rfl) (fun _ _ z' => ?_) (fun _ _ => tl) ?_
  · have : (z.length : Int) * n ≤ 1000 * 1000 := by
      have a : (z.length : Int) ≤ 1000 := by omega
      exact Int.mul_le_mul a h2 (by omega) (by omega)
    have hd : ((2 ^ 63 - 1 : Int) / n) * n + (2 ^ 63 - 1) % n = 2 ^ 63 - 1 := Int.ediv_mul_add_emod _ _
    have hmm := Int.emod_lt_of_pos (2 ^ 63 - 1 : Int) (show 0 < n by omega)
    have hx : ((2 ^ 63 - 1 : Int) / n) * n ≤ (z.length : Int) * n := Int.mul_le_mul_of_nonneg_right (by omega) (by omega)
    omega
  · rw [if_neg e1, if_neg (by rw [e2]; decide)]
    exact ⟨by show (repS z n.toNat).length ≤ sizeLine; rw [rep_len, sizeLine_eq]; omega, .str (repS z n.toNat), H, I.tok _, ⟨_, rfl⟩, q⟩
theorem opv_mulS {K : PySem.W.Frag} : OpV K rMulS oMulS := by
  intro G H x y d v u Q s e hx hy k
  match x, y, e with
  | .str z, .int n, e =>
    cases hx.str
    cases hy.int
    unfold oMulS at e
    dsimp only at e
    by_cases w : (2 ≤ n ∧ n ≤ 1000) ∧ 1 ≤ z.length ∧ z.length ≤ 1000
    · rw [if_pos w] at e
      cases e
      exact ⟨z, n, rfl, rfl, w, k _ G H (Ext.refl s) rfl⟩
    · rw [if_neg w] at e; cases e
theorem xe_mulS {X : Cx} {a b : Expr} {f g : FD} {pos : Pos} (ha : XV X a f) (hb : XV X b g) : XE X (.BinOp a .Mult b pos) (fOpE oMulS f g) := xe_bin op_mulS opv_mulS ha hb
def clsB : Stmt → List Stmt
  | .ClassDef _ _ _ b _ _ _ _ _ _ _ => b
  | _ => []
end Hk
set_option maxRecDepth 100000
namespace Hk
open PySem PySem.Spec L2 PyProof.Rows
def Dsk (K : PySem.W.Frag) (C p dx : Addr) (att : Str) (G H : Hp) (d : D) : Prop := Same G H ∧ G p = none ∧ ∃ tv, H p = some (.ins C dx [(att, tv)]) ∧ Rep K G d tv
section
variable {K : PySem.W.Frag} {C p dx : Addr} {att : Str} {G H G' H' : Hp} {d d' : D} {v : V}
theorem Dsk.keep (h : Dsk K C p dx att G H d) (e : Ext G H G' H') : Dsk K C p dx att G' H' d := by
  obtain ⟨_, h2, tv, h3, h4⟩ := h
  exact ⟨e.gh, e.new p h2 (by rw [h3]; exact fun z => by cases z), tv, e.hh _ _ h3, h4.mono e.gg⟩
theorem same_put (s : Same G H) (g : G p = none) (o : HO) : Same G (upd H p o) := fun b u z => by
  rw [upd_ne (fun w => by rw [w, g] at z; cases z)]; exact s b u z
theorem Dsk.put (h : Dsk K C p dx att G H d) (r : Rep K G d' v) : Dsk K C p dx att G (upd H p (.ins C dx [(att, v)])) d' := by
  obtain ⟨h1, h2, _⟩ := h
  exact ⟨same_put h1 h2 _, h2, v, upd_same, r⟩
end
def spDk (K : PySem.W.Frag) (C : Addr) (att : Str) (m : D → D → Option (D × D)) : Sp := fun vs H Q _ => ∃ (p dx : Addr) (v : V) (G : Hp) (d x d' r : D), vs = [.ref p, v] ∧ Dsk K C p dx att G H d ∧ Rep K G x v ∧ m d x = some (d', r) ∧
  ∀ (G' H' : Hp) (u : V), Same G G' → (∀ b, G b = none → H b ≠ none → G' b = none) → Dsk K C p dx att G' H' d' → Rep K G' r u → (∀ b o, b ≠ p → H b = some o → H' b = some o) → Q u H'
theorem spDk_len {K : PySem.W.Frag} {C : Addr} {att : Str} {m : D → D → Option (D × D)} {vs : List V} {H : Hp} {Q : VK} {E : XK} (h : spDk K C att m vs H Q E) : vs.length = 2 := by
  obtain ⟨_, _, _, _, _, _, _, _, rfl, _⟩ := h; rfl
def spJ (K : PySem.W.Frag) (C : Addr) (att : Str) (m : List D → Option O) : Sp := fun vs H Q _ => ∃ (H1 : Hp) (x dx : Addr) (v : V) (G : Hp) (d d' : D), vs = [.ref x, v] ∧ H1 x = none ∧ H1 dx = none ∧ dx ≠ x ∧ H = mkH H1 C x dx ∧ dOf (fCall m (aCons (dOf (fVar 1)) aNil)) [none, some (.sh d)] = some d' ∧ Same G H1 ∧ Rep K G d v ∧
  ∀ G' H', Same G G' → (∀ b, G b = none → H1 b ≠ none → G' b = none) → Dsk K C x dx att G' H' d' → Same H1 H' → Q .non H'
theorem spJ_len {K : PySem.W.Frag} {C : Addr} {att : Str} {m : List D → Option O} {vs : List V} {H : Hp} {Q : VK} {E : XK} (h : spJ K C att m vs H Q E) : vs.length = 2 := by
  obtain ⟨_, _, _, _, _, _, _, rfl, _⟩ := h; rfl
section
variable {X : Cx} {C : Addr} {m : List D → Option O} {e : Expr} {att : Str}
theorem init_keep {o : Expr} {p1 p2 : Pos} {N : List Str} {vs : List V} {H : Hp} {Q : VK} {E : XK} (hN : N.length = 2) (cl : Cls X.K C) (na : NoAttr X.K C att) (ho : PE X o (tVar 0)) (he : XD X e (dOf (fCall m (aCons (dOf (fVar 1)) aNil))))
    (hs : swapsWith e (some (.Attribute o att p1)) p2.line X.env = pure false) (h : spJ X.K C att m vs H Q E) :
    ∃ t, PSs X [.Assign [.Attribute o att p1] e p2] t ∧ t { nx := fun _ H' => Q .non H', rt := Q } (L2.start N vs) H := by
  obtain ⟨H1, x, dx, v, G, d, d', rfl, hx, hdx, nx, rfl, hm, gs, rp, q⟩ := h
  obtain ⟨te, a1, a2⟩ := he
  refine ⟨_, pss_one (ps_fld ho a1 hs), ?_⟩
  have es : L2.start N [.ref x, v] = [some (.ref x), some v] := by unfold L2.start; rw [hN]; rfl
  rw [es]
  have hss := mkH_same (C := C) (dx := dx) hx hdx
  have xi : mkH H1 C x dx x = some (.ins C dx []) := by unfold mkH; exact upd_same
  refine a2 _ _ _ _ _ _ d' _ (own2 (v0 := .ref x) (gs.trans hss) rp) hm fun y G' H' ex ry => ?_
  refine ⟨.ref x, rfl, x, C, dx, [], rfl, ex.hh _ _ xi, cl, na, by decide, ?_⟩
  have gx : G x = none := gs.free hx
  have g'x : G' x = none := ex.new x gx (by rw [xi]; exact fun z => by cases z)
  refine q G' _ ex.gg (fun b z1 z2 => ex.new b z1 fun w => z2 (hss.free w)) ⟨same_put ex.gh g'x _, g'x, y, upd_same, ry⟩ fun b u z => ?_
  rw [upd_ne fun w => by rw [w, hx] at z; cases z]
  exact ex.hh _ _ (hss b u z)
end
theorem own_sh {K : PySem.W.Frag} {G H : Hp} {ω : WSt} {σ : L2.St} (g : Same G H) (l : ω.length = σ.length) (h : ∀ (i : Nat) w, ω[i]? = some (some w) → ∃ d v, w = W.sh d ∧ σ[i]? = some (some v) ∧ Rep K G d v) : Own K G (fr H) G ω σ H := by
  have no : NoOw ω := fun i w z => let ⟨d, _, e, _⟩ := h i w z; ⟨d, e⟩
  refine ⟨Ext.refl g, l, fun i e z => ?_, fun i es e => absurd e (no.ow i es), fun i j es fs l e => absurd e (no.ow i es), fun i ks es e => absurd e (no.od i ks es), PwOk.no no.pw⟩
  obtain ⟨d, v, e1, e2, e3⟩ := h i _ z
  cases e1
  exact ⟨v, e2, e3⟩
theorem own_n2 {K : PySem.W.Frag} {G H : Hp} {d : D} {v0 v : V} (g : Same G H) (r : Rep K G d v) : Own K G (fr H) G [none, some (.sh d)] [some v0, some v] H := own_sh g rfl fun i w z => by
  match i, z with
  | 0, z => cases z
  | 1, z => cases z; exact ⟨d, v, rfl, rfl, r⟩
  | i + 2, z => simp at z
theorem own_n3 {K : PySem.W.Frag} {G H : Hp} {d d' : D} {v0 v v' : V} (g : Same G H) (r : Rep K G d v) (r' : Rep K G d' v') : Own K G (fr H) G [none, some (.sh d), some (.sh d')] [some v0, some v, some v'] H := own_sh g rfl fun i w z => by
  match i, z with
  | 0, z => cases z
  | 1, z => cases z; exact ⟨d, v, rfl, rfl, r⟩
  | 2, z => cases z; exact ⟨d', v', rfl, rfl, r'⟩
  | i + 3, z => simp at z
def okD (o : Option O) : Option (D × D) := o.bind fun r => match r with
  | .sh d' => some (d', .str "ok")
  | _ => none
def mCh (f1 f2 : FT) (g1 g2 : FD) (mw mo : List D → Option O) (d x : D) : Option (D × D) := match d with
  | .tup (.str kd :: _) => (f1 [none, some (.sh x), some (.sh (.str kd))]).bind fun b => if b = true then (g1 [none, some (.sh x), some (.sh (.str kd))]).bind fun y => okD (mw [d, y])
      else (f2 [none, some (.sh x), some (.sh (.str kd))]).bind fun c => if c = true then (g2 [none, some (.sh x), some (.sh (.str kd))]).bind fun y => okD (mo [d, y]) else none
  | _ => none
section
variable {X : Cx} {C : Addr} {att : Str}
abbrev tPut (K : PySem.W.Frag) (att : Str) (m : List D → Option O) (t : TE) : TS := sFld K (tVar 0) (tCall (spD K 2 m) [] E0 (tCons (tFld K (tVar 0) att) (tCons t tNil))) att
theorem ps_put {o1 o2 e : Expr} {x : Str} {p p1 p2 pos cpos : Pos} {k k0 : Nat} {f : Addr} {fd : FuncData} {ps : List Str} {m : List D → Option O} {g : FD} (c : Cal X.prog X.w X.K X.mg X.base k f fd x ps 2 m) (hr : Room k0 X.A) (h1 : PE X o1 (tVar 0)) (h2 : PE X o2 (tVar 0)) (he : XD X e g)
    (hb : attributeBase o2 att X.env (eval o2 X.env) = eval o2 X.env := by rfl) (hs : swapsWith (.Call (.Name x p) [.Attribute o2 att p2, e] [] cpos) (some (.Attribute o1 att p1)) pos.line X.env = pure false := by rfl)
    (hk : k ≤ k0 := by decide) (hg : Gl X x := by exact rfl) (hdb : (x == ("__debug__" : Str)) = false := by decide) (s1 : starEach [.Attribute o2 att p2, e] X.env = (false, eval (.Attribute o2 att p2) X.env) :: starEach [e] X.env := by rfl) (s2 : starEach [e] X.env = (false, eval e X.env) :: starEach [] X.env := by rfl) (hpl : (backTo cpos (starEach [e] X.env)).any (·.1) = false := by rfl) :
    ∃ t, PS X (.Assign [.Attribute o1 att p1] (.Call (.Name x p) [.Attribute o2 att p2, e] [] cpos) pos) (tPut X.K att m t) ∧ SimD X.K t g := by
  obtain ⟨t, a1, a2⟩ := he
  exact ⟨t, ps_fld h1 (pe_call c.1 (hr.mono hk) hg c.2.1 c.2.2.1 c.2.2.2 .nil pass0 (pa_cons (pe_fld h2 hb) (pa_cons a1 pa_nil s2) s1) hdb s1 hpl) hs, a2⟩
theorem put_ok {K : PySem.W.Frag} {p dx : Addr} {G H : Hp} {d x d' y : D} {kd : Str} {v v2 : V} {t : TE} {g : FD} {m : List D → Option O} {D0 : Ends} (cl : Cls K C) (na : NoAttr K C att) (s : SimD K t g) (hd : Dsk K C p dx att G H d) (rx : Rep K G x v) (rk : Rep K G (.str kd) v2)
    (hg : g [none, some (.sh x), some (.sh (.str kd))] = some y) (hm : okD (m [d, y]) = some (d', .str "ok")) (q : ∀ G' H', Ext G H G' H' → ∀ w, Rep K G' d' w → D0.nx [some (.ref p), some v, some v2] (upd H' p (.ins C dx [(att, w)]))) : tPut K att m t D0 [some (.ref p), some v, some v2] H := by
  obtain ⟨h1, h2, tv, h3, h4⟩ := id hd
  refine ⟨.ref p, rfl, p, C, dx, [(att, tv)], tv, rfl, h3, cl, na, by rw [List.lookup_cons, beq_self_eq_true], ?_⟩
  refine s G (fr H) G _ _ _ _ _ (own_n3 h1 rx rk) hg fun y1 G1 H1 x1 r1 => ?_
  unfold okD at hm
  obtain ⟨r, e1, e2⟩ := bnd hm
  match r, e2 with
  | .sh d1, e2 =>
    cases e2
    refine ⟨G1, [d, y], .sh d', e1, rfl, x1.gh, Reps.cons (h4.mono x1.gg) (Reps.cons r1 Reps.nil), fun w G2 H2 x2 r2 => ?_⟩
    refine ⟨.ref p, rfl, p, C, dx, [(att, tv)], rfl, (x1.trans x2).hh _ _ h3, cl, na, show 1 < 1000 by decide, ?_⟩
    have pf : putF att w [(att, tv)] = [(att, w)] := by simp [putF]
    rw [pf]
    exact q G2 H2 (x1.trans x2) w r2
theorem change_fin {st1 stw sto st3 : Stmt} {c1 c2 : Expr} {els : List Stmt} {pp pq : Pos} {f1 f2 : FT} {g1 g2 : FD} {mw mo : List D → Option O} {N : List Str} {vs : List V} {H : Hp} {Q : VK} {E : XK} (hN : N.length = 3) (cl : Cls X.K C) (na : NoAttr X.K C att)
    (h1 : PS X st1 (tAsg (tOp (rIxT X.K) (tFld X.K (tVar 0) att) (tC (.int 0))) (gName 2))) (t1 : XT X c1 f1) (hw : ∃ t, PS X stw (tPut X.K att mw t) ∧ SimD X.K t g1) (t2 : XT X c2 f2) (ho : ∃ t, PS X sto (tPut X.K att mo t) ∧ SimD X.K t g2) (h3 : PS X st3 (tRet (tC (.str "ok"))))
    (h : spDk X.K C att (mCh f1 f2 g1 g2 mw mo) vs H Q E) : ∃ t, PSs X [st1, .If c1 [stw] [.If c2 [sto] els pp] pq, st3] t ∧ t { nx := fun _ H' => Q .non H', rt := Q } (L2.start N vs) H := by
  obtain ⟨p, dx, v, G, d, x, d', r, rfl, hd, rx, hm, q⟩ := h
  obtain ⟨T1, a1, s1⟩ := t1
  obtain ⟨T2, a2, s2⟩ := t2
  obtain ⟨W1, b1, sw⟩ := hw
  obtain ⟨W2, b2, so⟩ := ho
  refine ⟨_, pss_cons h1 (pss_cons (ps_if a1 (pss_one b1) (pss_one (ps_if a2 (pss_one b2) pss_never))) (pss_one h3)), ?_⟩
  have es : L2.start N [.ref p, v] = [some (.ref p), some v, none] := by unfold L2.start; rw [hN]; rfl
  rw [es]
  obtain ⟨g1', g2', tv, g3, g4⟩ := id hd
  unfold mCh at hm
  match d, hm, hd, g4 with
  | .tup (.str kd :: ds), hm, hd, g4 =>
    obtain ⟨a, ws, rfl, ga, rs⟩ := g4
    obtain ⟨k0, ws', rfl, rk, _⟩ := rs
    cases (show k0 = .str kd from rk)
    refine ⟨.ref p, rfl, p, C, dx, _, _, rfl, g3, cl, na, by rw [List.lookup_cons, beq_self_eq_true], a, _, 0, .str kd, rfl, rfl, SqT.of (g1' _ _ ga), at0, ?_⟩
    have fin : ∀ G1 H1, Ext G H G1 H1 → ∀ w, Rep X.K G1 d' w → Q (.str "ok") (upd H1 p (.ins C dx [(att, w)])) := fun G1 H1 x1 w rw' => by
      have z : r = .str "ok" := by
        obtain ⟨b, e1, e2⟩ := bnd hm
        split at e2
        · obtain ⟨y, _, e3⟩ := bnd e2
          obtain ⟨o, _, e4⟩ := bnd e3
          cases o <;> cases e4; rfl
        · obtain ⟨c, _, e3⟩ := bnd e2
          split at e3
          · obtain ⟨y, _, e4⟩ := bnd e3
            obtain ⟨o, _, e5⟩ := bnd e4
            cases o <;> cases e5; rfl
          · cases e3
      subst z
      refine q G1 _ _ x1.gg x1.new ((hd.keep x1).put rw') rfl fun b o ne hb => ?_
      rw [upd_ne ne]; exact x1.hh _ _ hb
    show T1 [some (.ref p), some v, some (.str kd)] H _
    obtain ⟨b, e1, e2⟩ := bnd hm
    refine s1 G (fr H) G _ _ _ b _ (own_n3 (d' := .str kd) g1' rx rfl) e1 fun G1 H1 x1 => ?_
    have hd1 := hd.keep x1
    have rx1 := rx.mono x1.gg
    cases b with
    | true =>
      rw [if_pos rfl] at e2 ⊢
      obtain ⟨y, e3, e4⟩ := bnd e2
      have z : okD (mw [.tup (.str kd :: ds), y]) = some (d', .str "ok") := by
        unfold okD at e4 ⊢
        obtain ⟨o, e5, e6⟩ := bnd e4
        rw [e5]
        cases o <;> cases e6; rfl
      exact put_ok cl na sw hd1 rx1 rfl e3 z fun G2 H2 x2 w rw' => fin G2 H2 (x1.trans x2) w rw'
    | false =>
      rw [if_neg (by decide)] at e2 ⊢
      obtain ⟨c, e3, e4⟩ := bnd e2
      refine s2 G1 (fr H1) G1 _ _ _ c _ (own_n3 (d' := .str kd) hd1.1 rx1 rfl) e3 fun G2 H2 x2 => ?_
      cases c with
      | false => rw [if_neg (by decide)] at e4; cases e4
      | true =>
        rw [if_pos rfl] at e4 ⊢
        obtain ⟨y, e5, e6⟩ := bnd e4
        have z : okD (mo [.tup (.str kd :: ds), y]) = some (d', .str "ok") := by
          unfold okD at e6 ⊢
          obtain ⟨o, e7, e8⟩ := bnd e6
          rw [e7]
          cases o <;> cases e8; rfl
        exact put_ok cl na so (hd1.keep x2) (rx1.mono x2.gg) rfl e5 z fun G3 H3 x3 w rw' => fin G3 H3 ((x1.trans x2).trans x3) w rw'
end
def mSay (f0 f1 f2 f3 : FT) (ms : List D → Option O) (g : FD) (mc : D → D → Option (D × D)) (d x : D) : Option (D × D) :=
  (f0 [none, some (.sh x)]).bind fun b0 => if b0 = true then none else (f1 [none, some (.sh x)]).bind fun b1 => if b1 = true then none else (f2 [none, some (.sh x)]).bind fun b2 => if b2 = true then none else (f3 [none, some (.sh x)]).bind fun b3 =>
    if b3 = true then (ms [d]).bind fun o => (match o with
      | .sh r => some (d, r)
      | _ => none) else (g [none, some (.sh x)]).bind fun y => mc d y
section
variable {X : Cx} {C : Addr} {att mth : Str}
theorem pe_tell {o : Expr} {x : Str} {p p1 pos : Pos} {k k0 : Nat} {f : Addr} {fd : FuncData} {ps : List Str} {m : List D → Option O} (c : Cal X.prog X.w X.K X.mg X.base k f fd x ps 1 m) (hr : Room k0 X.A) (h1 : PE X o (tVar 0))
    (hb : attributeBase o att X.env (eval o X.env) = eval o X.env := by rfl) (hk : k ≤ k0 := by decide) (hg : Gl X x := by exact rfl) (hdb : (x == ("__debug__" : Str)) = false := by decide) (s1 : starEach [.Attribute o att p1] X.env = (false, eval (.Attribute o att p1) X.env) :: starEach [] X.env := by rfl) (hpl : (backTo pos (starEach [] X.env)).any (·.1) = false := by rfl) :
    PE X (.Call (.Name x p) [.Attribute o att p1] [] pos) (tCall (spD X.K 1 m) [] E0 (tCons (tFld X.K (tVar 0) att) tNil)) :=
  pe_call c.1 (hr.mono hk) hg c.2.1 c.2.2.1 c.2.2.2 .nil pass0 (pa_cons (pe_fld h1 hb) pa_nil s1) hdb s1 hpl
abbrev tAskM (K : PySem.W.Frag) (C : Addr) (att mth : Str) (m : D → D → Option (D × D)) (i : Nat) (t : TE) : TE := tMeth C mth (spDk K C att m) [] E0 (tVar i) (tCons t tNil)
theorem pe_ask {pl : Sem Bool} {o e : Expr} {i k k0 : Nat} {f : Addr} {fd : FuncData} {ps : List Str} {m : D → D → Option (D × D)} {g : FD} {apos pos : Pos} (ho : PE X o (tVar i)) (cl : Cls X.K C) (hm : Meth X.K C mth f) (F : FnOk X.prog X.w X.K X.mg X.base CX0 k f fd ps (spDk X.K C att m)) (hr : Room k0 X.A) (hb : Binds X.K fd ps []) (he : XD X e g)
    (hk : k ≤ k0 := by decide) (hst : starEach [e] X.env = (false, eval e X.env) :: starEach [] X.env := by rfl) (hpl : (backTo pos (starEach [] X.env)).any (·.1) = false := by rfl)
    (ht : eval (.Call (.Attribute o mth apos) [e] [] pos) X.env = (do
      let ov ← eval o X.env
      standAt apos.atName
      let (f, first) ← holding [ov] (getMethod ov mth pl)
      callWith pos f first (backTo pos (starEach [e] X.env)) (backToKw pos (keywordEach [] X.env))) := by rfl) :
    ∃ t, PE X (.Call (.Attribute o mth apos) [e] [] pos) (tAskM X.K C att mth m i t) ∧ SimD X.K t g := by
  obtain ⟨t, a1, a2⟩ := he
  exact ⟨t, pe_meth ho cl hm F (hr.mono hk) hb .nil pass0 (pa_cons a1 pa_nil hst) hst hpl ht, a2⟩
theorem ask_ok {K : PySem.W.Frag} {p dx : Addr} {G H : Hp} {ω : WSt} {σ : L2.St} {i : Nat} {d x d' r : D} {t : TE} {g : FD} {m : D → D → Option (D × D)} {Q : VK} (hne : (mth == att) = false) (s : SimD K t g) (hd : Dsk K C p dx att G H d) (ow : Own K G (fr H) G ω σ H) (hi : σ[i]? = some (some (.ref p))) (hg : g ω = some x) (hm : m d x = some (d', r))
    (q : ∀ (G' H' : Hp) (u : V), Same G G' → (∀ b, G b = none → H b ≠ none → G' b = none) → Dsk K C p dx att G' H' d' → Rep K G' r u → (∀ b o, b ≠ p → H b = some o → H' b = some o) → Q u H') : tAskM K C att mth m i t σ H Q := by
  obtain ⟨h1, h2, tv, h3, h4⟩ := id hd
  refine ⟨.ref p, hi, p, dx, _, rfl, h3, by rw [List.lookup_cons, hne]; rfl, ?_⟩
  refine s G (fr H) G _ _ _ _ _ ow hg fun v G1 H1 x1 r1 => ?_
  refine ⟨p, dx, v, G1, d, x, d', r, rfl, hd.keep x1, r1, hm, fun G2 H2 u g2 n2 k2 ru fr2 => ?_⟩
  exact q G2 H2 u (x1.gg.trans g2) (fun b z1 z2 => n2 b (x1.new b z1 z2) fun w => z2 (x1.hh.free w)) k2 ru fun b o ne hb => fr2 b o ne (x1.hh _ _ hb)
theorem say_fin {c0 c1 c2 c3 es ec : Expr} {r0 r1 r2 : List Stmt} {p0 p1 p2 p3 p4 p5 : Pos} {f0 f1 f2 f3 : FT} {ms : List D → Option O} {g : FD} {mc : D → D → Option (D × D)} {N : List Str} {vs : List V} {H : Hp} {Q : VK} {E : XK} (hN : N.length = 2) (cl : Cls X.K C) (na : NoAttr X.K C att) (hne : (mth == att) = false)
    (t0 : XT X c0 f0) (t1 : XT X c1 f1) (t2 : XT X c2 f2) (t3 : XT X c3 f3) (hs : PE X es (tCall (spD X.K 1 ms) [] E0 (tCons (tFld X.K (tVar 0) att) tNil))) (hc : ∃ t, PE X ec (tAskM X.K C att mth mc 0 t) ∧ SimD X.K t g)
    (h : spDk X.K C att (mSay f0 f1 f2 f3 ms g mc) vs H Q E) : ∃ t, PSs X [.If c0 r0 [] p0, .If c1 r1 [] p1, .If c2 r2 [] p2, .If c3 [.Return (some es) p3] [] p4, .Return (some ec) p5] t ∧ t { nx := fun _ H' => Q .non H', rt := Q } (L2.start N vs) H := by
  obtain ⟨p, dx, v, G, d, x, d', r, rfl, hd, rx, hm, q⟩ := h
  obtain ⟨T0, a0, s0⟩ := t0
  obtain ⟨T1, a1, s1⟩ := t1
  obtain ⟨T2, a2, s2⟩ := t2
  obtain ⟨T3, a3, s3⟩ := t3
  obtain ⟨TC, ac, sc⟩ := hc
  refine ⟨_, pss_cons (ps_if a0 pss_never pss_nil) (pss_cons (ps_if a1 pss_never pss_nil) (pss_cons (ps_if a2 pss_never pss_nil) (pss_cons (ps_if a3 (pss_one (ps_ret hs)) pss_nil) (pss_one (ps_ret ac))))), ?_⟩
  have es : L2.start N [.ref p, v] = [some (.ref p), some v] := by unfold L2.start; rw [hN]; rfl
  rw [es]
  unfold mSay at hm
  obtain ⟨b0, e0, hm⟩ := bnd hm
  refine s0 G (fr H) G _ _ _ b0 _ (own_n2 hd.1 rx) e0 fun G1 H1 x1 => ?_
  cases b0 with
  | true => rw [if_pos rfl] at hm; cases hm
  | false =>
  rw [if_neg (by decide)] at hm ⊢
  obtain ⟨b1, e1, hm⟩ := bnd hm
  refine s1 G1 (fr H1) G1 _ _ _ b1 _ (own_n2 x1.gh (rx.mono x1.gg)) e1 fun G2 H2 x2 => ?_
  cases b1 with
  | true => rw [if_pos rfl] at hm; cases hm
  | false =>
  rw [if_neg (by decide)] at hm ⊢
  obtain ⟨b2, e2, hm⟩ := bnd hm
  have x12 := x1.trans x2
  refine s2 G2 (fr H2) G2 _ _ _ b2 _ (own_n2 x12.gh (rx.mono x12.gg)) e2 fun G3 H3 x3 => ?_
  cases b2 with
  | true => rw [if_pos rfl] at hm; cases hm
  | false =>
  rw [if_neg (by decide)] at hm ⊢
  obtain ⟨b3, e3, hm⟩ := bnd hm
  have x13 := x12.trans x3
  refine s3 G3 (fr H3) G3 _ _ _ b3 _ (own_n2 x13.gh (rx.mono x13.gg)) e3 fun G4 H4 x4 => ?_
  have x14 := x13.trans x4
  have hd4 := hd.keep x14
  cases b3 with
  | true =>
    rw [if_pos rfl] at hm ⊢
    obtain ⟨o, e4, e5⟩ := bnd hm
    match o, e5 with
    | .sh r1, e5 =>
      cases e5
      obtain ⟨g1, g2, tv, g3, g4⟩ := id hd4
      refine ⟨.ref p, rfl, p, C, dx, _, tv, rfl, g3, cl, na, by rw [List.lookup_cons, beq_self_eq_true], G4, [d], .sh r, e4, rfl, g1, Reps.cons g4 Reps.nil, fun u G5 H5 x5 r5 => ?_⟩
      have x15 := x14.trans x5
      exact q G5 H5 u x15.gg x15.new (hd.keep x15) r5 fun b o _ hb => x15.hh _ _ hb
  | false =>
    rw [if_neg (by decide)] at hm ⊢
    obtain ⟨y, e4, e5⟩ := bnd hm
    refine ask_ok hne sc hd4 (own_n2 x14.gh (rx.mono x14.gg)) rfl e4 e5 fun G5 H5 u g5 n5 k5 ru f5 => ?_
    exact q G5 H5 u (x14.gg.trans g5) (fun b z1 z2 => n5 b (x14.new b z1 z2) fun w => z2 (x14.hh.free w)) k5 ru fun b o ne hb => f5 b o ne (x14.hh _ _ hb)
end
end Hk
set_option maxRecDepth 100000
namespace Hk
open PySem PySem.Spec L2 PyProof.Rows
section
variable {K : PySem.W.Frag} {C p q dp dq : Addr} {att mth : Str} {G0 H0 G H G' H' : Hp} {ω : WSt} {σ : L2.St} {d db x : D} {v : V} {i j : Nat}
variable {t : TE} {gd : FD} {m : D → D → Option (D × D)} {D0 : Ends}
end
structure Lw where
  fa : FT
  fb : FT
  gk : FD
  gs1 : FD
  gb1 : FD
  gx : FD
  gs2 : FD
  gb2 : FD
  gm : FD
  ge : FD
section
variable {K : PySem.W.Frag} {C p q dp dq : Addr} {att mth : Str} {G0 H0 G H : Hp} {ω : WSt} {σ : L2.St} {d db : D} {m : D → D → Option (D × D)}
end
def rdD (mr : List D → Option O) (x : D) : Option D := dOf (fCall mr (aCons (dOf (fVar 1)) aNil)) [none, some (.sh x)]
section
variable {K : PySem.W.Frag} {C : Addr} {att mth : Str} {G0 H0 G H : Hp} {ω : WSt} {σ : L2.St} {D0 : Ends}
end
def w0 (s : D) : WSt := [some (.sh s), none, none, none, none, none, none, none, none, none]
section
variable {X : Cx} {C : Addr} {att mth : Str} {m : D → D → Option (D × D)} {mr : List D → Option O} {L : Lw}
end
section
variable {X : Cx} {x : Str} {i : Nat} {e : Expr} {g : FD} {pos pos' : Pos} {C : Addr} {att mth : Str} {m : D → D → Option (D × D)}
theorem set_d (hN : X.N.Nodup) (hi : X.N[i]? = some x) (hx : Loc X.env.scope x) (he : XD X e g) (hs : swapsWith e (some (.Name x pos')) pos.line X.env = pure false := by rfl) (hf : X.fn x = true ∨ X.env.scope.names.lookup x = some .local := by first | exact .inl rfl | exact .inr rfl | assumption) :
    ∃ t, PS X (.Assign [.Name x pos'] e pos) (tAsg t (gName i)) ∧ SimD X.K t g := let ⟨t, a, b⟩ := he; ⟨t, ps_set hN hi hx a hs hf, b⟩
theorem set_mk {f : Addr} {fd : FuncData} {ps : List Str} {c : Str} {mr : List D → Option O} {p cpos : Pos} {k k0 : Nat} (hN : X.N.Nodup) (hi : X.N[i]? = some x) (hx : Loc X.env.scope x) (M : Mk X.K C f) (F : FnOk X.prog X.w X.K X.mg X.base CX0 k f fd ps (spJ X.K C att mr)) (hr : Room k0 X.A) (hm : X.mg c = some (.ref C)) (hb : Binds X.K fd ps []) (he : XD X e g)
    (hk : k + 1 ≤ k0 := by decide) (hg : Gl X c := by exact rfl) (hdb : (c == ("__debug__" : Str)) = false := by decide) (he1 : starEach [e] X.env = (false, eval e X.env) :: starEach [] X.env := by rfl) (hpl : (backTo cpos (starEach [] X.env)).any (·.1) = false := by rfl) (hs : swapsWith (.Call (.Name c p) [e] [] cpos) (some (.Name x pos')) pos.line X.env = pure false := by rfl) (hf : X.fn x = true ∨ X.env.scope.names.lookup x = some .local := by first | exact .inl rfl | exact .inr rfl | assumption) :
    ∃ t, PS X (.Assign [.Name x pos'] (.Call (.Name c p) [e] [] cpos) pos) (tAsg (tMake C (spJ X.K C att mr) [] E0 (tCons t tNil)) (gName i)) ∧ SimD X.K t g := by
  obtain ⟨t, a, b⟩ := he
  exact ⟨t, ps_set hN hi hx (pe_make (E := E0) M F (hr.mono hk) hg hm hb .nil pass0 (pa_cons a pa_nil he1) hdb he1 hpl) hs hf, b⟩
theorem set_ask {j : Nat} (hN : X.N.Nodup) (hi : X.N[i]? = some x) (hx : Loc X.env.scope x) (h : ∃ t, PE X e (tAskM X.K C att mth m j t) ∧ SimD X.K t g) (hs : swapsWith e (some (.Name x pos')) pos.line X.env = pure false := by rfl) (hf : X.fn x = true ∨ X.env.scope.names.lookup x = some .local := by first | exact .inl rfl | exact .inr rfl | assumption) :
    ∃ t, PS X (.Assign [.Name x pos'] e pos) (tAsg (tAskM X.K C att mth m j t) (gName i)) ∧ SimD X.K t g := let ⟨t, a, b⟩ := h; ⟨t, ps_set hN hi hx a hs hf, b⟩
end
end Hk
set_option maxRecDepth 100000
namespace Hk
open PySem PySem.Spec L2 PyProof.Rows
def spDx (K : PySem.W.Frag) (C : Addr) (att : Str) (mx : D → D → Option Str) : Sp := fun vs H _ E => ∃ (p dx : Addr) (v : V) (G : Hp) (d x : D) (c : Str) (Cc : Addr), vs = [.ref p, v] ∧ Dsk K C p dx att G H d ∧ Rep K G x v ∧ mx d x = some c ∧ clsIn K c Cc ∧
  ∀ G' H', Ext G H G' H' → E (.ref Cc) none H'
theorem spDx_len {K : PySem.W.Frag} {C : Addr} {att : Str} {m : D → D → Option Str} {vs : List V} {H : Hp} {Q : VK} {E : XK} (h : spDx K C att m vs H Q E) : vs.length = 2 := by
  obtain ⟨_, _, _, _, _, _, _, _, rfl, _⟩ := h; rfl
def mChX (f1 f2 : FT) (g1 g2 : FD) (mw mo : List D → Option Str) (gn : FX) (d x : D) : Option Str := match d with
  | .tup (.str kd :: _) => (f1 [none, some (.sh x), some (.sh (.str kd))]).bind fun b => if b = true then (g1 [none, some (.sh x), some (.sh (.str kd))]).bind fun y => mw [d, y]
      else (f2 [none, some (.sh x), some (.sh (.str kd))]).bind fun c => if c = true then (g2 [none, some (.sh x), some (.sh (.str kd))]).bind fun y => mo [d, y] else gn [none, some (.sh x), some (.sh (.str kd))]
  | _ => none
def mSayX (f0 f1 f2 f3 : FT) (g0 : FX) (g : FD) (mc : D → D → Option Str) (d x : D) : Option Str :=
  (f0 [none, some (.sh x)]).bind fun b0 => if b0 = true then g0 [none, some (.sh x)] else (f1 [none, some (.sh x)]).bind fun b1 => if b1 = true then none else (f2 [none, some (.sh x)]).bind fun b2 => if b2 = true then none else (f3 [none, some (.sh x)]).bind fun b3 =>
    if b3 = true then none else (g [none, some (.sh x)]).bind fun y => mc d y
section
variable {X : Cx} {C : Addr} {att mth : Str} {E : XK}
abbrev tPutX (K : PySem.W.Frag) (att : Str) (m : List D → Option Str) (E : XK) (t : TE) : TS := sFld K (tVar 0) (tCall (spX K 2 m) [] E (tCons (tFld K (tVar 0) att) (tCons t tNil))) att
theorem ps_putX {o1 o2 e : Expr} {x : Str} {p p1 p2 pos cpos : Pos} {k k0 : Nat} {f : Addr} {fd : FuncData} {ps : List Str} {m : List D → Option Str} {g : FD} (F : FnOk X.prog X.w X.K X.mg X.base (CXe X.prog X.w) k f fd ps (spX X.K 2 m)) (hm : X.mg x = some (.ref f)) (hkp : PySem.W.keepIn X.K (.ref f) = true) (hbd : Binds X.K fd ps []) (hx : Passes (CXe X.prog X.w) X E) (hr : Room k0 X.A) (h1 : PE X o1 (tVar 0)) (h2 : PE X o2 (tVar 0)) (he : XD X e g)
    (hb : attributeBase o2 att X.env (eval o2 X.env) = eval o2 X.env := by rfl) (hs : swapsWith (.Call (.Name x p) [.Attribute o2 att p2, e] [] cpos) (some (.Attribute o1 att p1)) pos.line X.env = pure false := by rfl)
    (hk : k ≤ k0 := by decide) (hg : Gl X x := by exact rfl) (hdb : (x == ("__debug__" : Str)) = false := by decide) (s1 : starEach [.Attribute o2 att p2, e] X.env = (false, eval (.Attribute o2 att p2) X.env) :: starEach [e] X.env := by rfl) (s2 : starEach [e] X.env = (false, eval e X.env) :: starEach [] X.env := by rfl) (hpl : (backTo cpos (starEach [e] X.env)).any (·.1) = false := by rfl) :
    ∃ t, PS X (.Assign [.Attribute o1 att p1] (.Call (.Name x p) [.Attribute o2 att p2, e] [] cpos) pos) (tPutX X.K att m E t) ∧ SimD X.K t g := by
  obtain ⟨t, a1, a2⟩ := he
  exact ⟨t, ps_fld h1 (pe_call F (hr.mono hk) hg hm hkp hbd .nil hx (pa_cons (pe_fld h2 hb) (pa_cons a1 pa_nil s2) s1) hdb s1 hpl) hs, a2⟩
theorem putX_ok {K : PySem.W.Frag} {p dx Cc : Addr} {G H : Hp} {d x y : D} {kd c : Str} {v : V} {t : TE} {g : FD} {m : List D → Option Str} {D0 : Ends} (cl : Cls K C) (na : NoAttr K C att) (s : SimD K t g) (hd : Dsk K C p dx att G H d) (rx : Rep K G x v)
    (hg : g [none, some (.sh x), some (.sh (.str kd))] = some y) (hm : m [d, y] = some c) (hc : clsIn K c Cc) (q : ∀ G' H', Ext G H G' H' → E (.ref Cc) none H') : tPutX K att m E t D0 [some (.ref p), some v, some (.str kd)] H := by
  obtain ⟨h1, h2, tv, h3, h4⟩ := id hd
  refine ⟨.ref p, rfl, p, C, dx, [(att, tv)], tv, rfl, h3, cl, na, by rw [List.lookup_cons, beq_self_eq_true], ?_⟩
  refine s G (fr H) G _ _ _ _ _ (own_n3 (d' := .str kd) h1 rx rfl) hg fun y1 G1 H1 x1 r1 => ?_
  exact ⟨G1, [d, y], c, Cc, hm, hc, rfl, x1.gh, Reps.cons (h4.mono x1.gg) (Reps.cons r1 Reps.nil), fun G2 H2 x2 => q G2 H2 (x1.trans x2)⟩
theorem changeX_fin {st1 stw sto : Stmt} {rest : List Stmt} {c1 c2 : Expr} {els : List Stmt} {pp pq : Pos} {f1 f2 : FT} {g1 g2 : FD} {gn : FX} {mw mo : List D → Option Str} {N : List Str} {vs : List V} {H : Hp} {Q : VK} (hN : N.length = 3) (cl : Cls X.K C) (na : NoAttr X.K C att)
    (h1 : PS X st1 (tAsg (tOp (rIxT X.K) (tFld X.K (tVar 0) att) (tC (.int 0))) (gName 2))) (t1 : XT X c1 f1) (hw : ∃ t, PS X stw (tPutX X.K att mw E t) ∧ SimD X.K t g1) (t2 : XT X c2 f2) (ho : ∃ t, PS X sto (tPutX X.K att mo E t) ∧ SimD X.K t g2) (hn : YSs X E els gn)
    (h : spDx X.K C att (mChX f1 f2 g1 g2 mw mo gn) vs H Q E) : ∃ t, PSs X (st1 :: .If c1 [stw] [.If c2 [sto] els pp] pq :: rest) t ∧ t { nx := fun _ H' => Q .non H', rt := Q } (L2.start N vs) H := by
  obtain ⟨p, dx, v, G, d, x, c, Cc, rfl, hd, rx, hm, hc, q⟩ := h
  obtain ⟨T1, a1, s1⟩ := t1
  obtain ⟨T2, a2, s2⟩ := t2
  obtain ⟨W1, b1, sw⟩ := hw
  obtain ⟨W2, b2, so⟩ := ho
  obtain ⟨TN, an, sn⟩ := hn
  refine ⟨_, pss_cons h1 (pss_cons (ps_if a1 (pss_one b1) (pss_one (ps_if a2 (pss_one b2) an))) pss_never), ?_⟩
  have es : L2.start N [.ref p, v] = [some (.ref p), some v, none] := by unfold L2.start; rw [hN]; rfl
  rw [es]
  obtain ⟨g1', g2', tv, g3, g4⟩ := id hd
  unfold mChX at hm
  match d, hm, hd, g4 with
  | .tup (.str kd :: ds), hm, hd, g4 =>
    obtain ⟨a, ws, rfl, ga, rs⟩ := g4
    obtain ⟨k0, ws', rfl, rk, _⟩ := rs
    cases (show k0 = .str kd from rk)
    refine ⟨.ref p, rfl, p, C, dx, _, _, rfl, g3, cl, na, by rw [List.lookup_cons, beq_self_eq_true], a, _, 0, .str kd, rfl, rfl, SqT.of (g1' _ _ ga), at0, ?_⟩
    show T1 [some (.ref p), some v, some (.str kd)] H _
    obtain ⟨b, e1, e2⟩ := bnd hm
    refine s1 G (fr H) G _ _ _ b _ (own_n3 (d' := .str kd) g1' rx rfl) e1 fun G1 H1 x1 => ?_
    have hd1 := hd.keep x1
    have rx1 := rx.mono x1.gg
    cases b with
    | true =>
      rw [if_pos rfl] at e2 ⊢
      obtain ⟨y, e3, e4⟩ := bnd e2
      exact putX_ok cl na sw hd1 rx1 e3 e4 hc fun G2 H2 x2 => q G2 H2 (x1.trans x2)
    | false =>
      rw [if_neg (by decide)] at e2 ⊢
      obtain ⟨z, e3, e4⟩ := bnd e2
      refine s2 G1 (fr H1) G1 _ _ _ z _ (own_n3 (d' := .str kd) hd1.1 rx1 rfl) e3 fun G2 H2 x2 => ?_
      cases z with
      | false =>
        rw [if_neg (by decide)] at e4 ⊢
        exact sn G2 (fr H2) G2 _ _ _ _ c Cc (own_n3 (d' := .str kd) x2.gh (rx1.mono x2.gg) rfl) e4 hc fun G3 H3 x3 => q G3 H3 ((x1.trans x2).trans x3)
      | true =>
        rw [if_pos rfl] at e4 ⊢
        obtain ⟨y, e5, e6⟩ := bnd e4
        exact putX_ok cl na so (hd1.keep x2) (rx1.mono x2.gg) e5 e6 hc fun G3 H3 x3 => q G3 H3 ((x1.trans x2).trans x3)
abbrev tAskX (K : PySem.W.Frag) (C : Addr) (att mth : Str) (m : D → D → Option Str) (E : XK) (i : Nat) (t : TE) : TE := tMeth C mth (spDx K C att m) [] E (tVar i) (tCons t tNil)
theorem pe_askX {pl : Sem Bool} {o e : Expr} {i k k0 : Nat} {f : Addr} {fd : FuncData} {ps : List Str} {m : D → D → Option Str} {g : FD} {apos pos : Pos} (ho : PE X o (tVar i)) (cl : Cls X.K C) (hm : Meth X.K C mth f) (F : FnOk X.prog X.w X.K X.mg X.base (CXe X.prog X.w) k f fd ps (spDx X.K C att m)) (hx : Passes (CXe X.prog X.w) X E) (hr : Room k0 X.A) (hb : Binds X.K fd ps []) (he : XD X e g)
    (hk : k ≤ k0 := by decide) (hst : starEach [e] X.env = (false, eval e X.env) :: starEach [] X.env := by rfl) (hpl : (backTo pos (starEach [] X.env)).any (·.1) = false := by rfl)
    (ht : eval (.Call (.Attribute o mth apos) [e] [] pos) X.env = (do
      let ov ← eval o X.env
      standAt apos.atName
      let (f, first) ← holding [ov] (getMethod ov mth pl)
      callWith pos f first (backTo pos (starEach [e] X.env)) (backToKw pos (keywordEach [] X.env))) := by rfl) :
    ∃ t, PE X (.Call (.Attribute o mth apos) [e] [] pos) (tAskX X.K C att mth m E i t) ∧ SimD X.K t g := by
  obtain ⟨t, a1, a2⟩ := he
  exact ⟨t, pe_meth ho cl hm F (hr.mono hk) hb .nil hx (pa_cons a1 pa_nil hst) hst hpl ht, a2⟩
theorem askX_ok {K : PySem.W.Frag} {p dx Cc : Addr} {G H : Hp} {ω : WSt} {σ : L2.St} {i : Nat} {d x : D} {c : Str} {t : TE} {g : FD} {m : D → D → Option Str} {Q : VK} (hne : (mth == att) = false) (s : SimD K t g) (hd : Dsk K C p dx att G H d) (ow : Own K G (fr H) G ω σ H) (hi : σ[i]? = some (some (.ref p))) (hg : g ω = some x) (hm : m d x = some c) (hc : clsIn K c Cc)
    (q : ∀ (G' H' : Hp), Ext G H G' H' → E (.ref Cc) none H') : tAskX K C att mth m E i t σ H Q := by
  obtain ⟨h1, h2, tv, h3, h4⟩ := id hd
  refine ⟨.ref p, hi, p, dx, _, rfl, h3, by rw [List.lookup_cons, hne]; rfl, ?_⟩
  refine s G (fr H) G _ _ _ _ _ ow hg fun v G1 H1 x1 r1 => ?_
  exact ⟨p, dx, v, G1, d, x, c, Cc, rfl, hd.keep x1, r1, hm, hc, fun G2 H2 x2 => q G2 H2 (x1.trans x2)⟩
theorem sayX_fin {c0 c1 c2 c3 ec : Expr} {r0 r1 r2 r3 : List Stmt} {p0 p1 p2 p4 p5 : Pos} {f0 f1 f2 f3 : FT} {g0 : FX} {g : FD} {mc : D → D → Option Str} {N : List Str} {vs : List V} {H : Hp} {Q : VK} (hN : N.length = 2) (hne : (mth == att) = false)
    (t0 : XT X c0 f0) (h0 : YSs X E r0 g0) (t1 : XT X c1 f1) (t2 : XT X c2 f2) (t3 : XT X c3 f3) (hc : ∃ t, PE X ec (tAskX X.K C att mth mc E 0 t) ∧ SimD X.K t g)
    (h : spDx X.K C att (mSayX f0 f1 f2 f3 g0 g mc) vs H Q E) : ∃ t, PSs X [.If c0 r0 [] p0, .If c1 r1 [] p1, .If c2 r2 [] p2, .If c3 r3 [] p4, .Return (some ec) p5] t ∧ t { nx := fun _ H' => Q .non H', rt := Q } (L2.start N vs) H := by
  obtain ⟨p, dx, v, G, d, x, c, Cc, rfl, hd, rx, hm, hcl, q⟩ := h
  obtain ⟨T0, a0, s0⟩ := t0
  obtain ⟨R0, b0, sr⟩ := h0
  obtain ⟨T1, a1, s1⟩ := t1
  obtain ⟨T2, a2, s2⟩ := t2
  obtain ⟨T3, a3, s3⟩ := t3
  obtain ⟨TC, ac, sc⟩ := hc
  refine ⟨_, pss_cons (ps_if a0 b0 pss_nil) (pss_cons (ps_if a1 pss_never pss_nil) (pss_cons (ps_if a2 pss_never pss_nil) (pss_cons (ps_if a3 pss_never pss_nil) (pss_one (ps_ret ac))))), ?_⟩
  have es : L2.start N [.ref p, v] = [some (.ref p), some v] := by unfold L2.start; rw [hN]; rfl
  rw [es]
  unfold mSayX at hm
  obtain ⟨b0, e0, hm⟩ := bnd hm
  refine s0 G (fr H) G _ _ _ b0 _ (own_n2 hd.1 rx) e0 fun G1 H1 x1 => ?_
  cases b0 with
  | true =>
    rw [if_pos rfl] at hm ⊢
    exact sr G1 (fr H1) G1 _ _ _ _ c Cc (own_n2 x1.gh (rx.mono x1.gg)) hm hcl fun G2 H2 x2 => q G2 H2 (x1.trans x2)
  | false =>
  rw [if_neg (by decide)] at hm ⊢
  obtain ⟨b1, e1, hm⟩ := bnd hm
  refine s1 G1 (fr H1) G1 _ _ _ b1 _ (own_n2 x1.gh (rx.mono x1.gg)) e1 fun G2 H2 x2 => ?_
  cases b1 with
  | true => rw [if_pos rfl] at hm; cases hm
  | false =>
  rw [if_neg (by decide)] at hm ⊢
  obtain ⟨b2, e2, hm⟩ := bnd hm
  have x12 := x1.trans x2
  refine s2 G2 (fr H2) G2 _ _ _ b2 _ (own_n2 x12.gh (rx.mono x12.gg)) e2 fun G3 H3 x3 => ?_
  cases b2 with
  | true => rw [if_pos rfl] at hm; cases hm
  | false =>
  rw [if_neg (by decide)] at hm ⊢
  obtain ⟨b3, e3, hm⟩ := bnd hm
  have x13 := x12.trans x3
  refine s3 G3 (fr H3) G3 _ _ _ b3 _ (own_n2 x13.gh (rx.mono x13.gg)) e3 fun G4 H4 x4 => ?_
  have x14 := x13.trans x4
  cases b3 with
  | true => rw [if_pos rfl] at hm; cases hm
  | false =>
    rw [if_neg (by decide)] at hm ⊢
    obtain ⟨y, e4, e5⟩ := bnd hm
    exact askX_ok hne sc (hd.keep x14) (own_n2 x14.gh (rx.mono x14.gg)) rfl e4 e5 hcl fun G5 H5 x5 => q G5 H5 (x14.trans x5)
end
theorem okX_of {P : Program} {w : World} {K : PySem.W.Frag} {mg : Str → Option Value} {base : Heap} {x qual : Str} {st : Stmt} {f : Addr} {fd : FuncData} {N ps : List Str} {k : Nat} {sp : Sp} (F : Fun K x qual st f fd) (S : FnScope N ps (defScope st)) (len : ∀ vs H Q E, sp vs H Q E → vs.length = ps.length)
    (hb : ∀ (cdv : Value) (A : Around) (outer : List Env) (s : Shared) (H : Hp) (vs : List V) (Q : VK) (E : XK), Room k (A.deeper (envOfC qual (defScope st) s.heap.objs.size f cdv)) → sp vs H Q E →
      ∃ t, PSs (cxOf (CXe P w) P w K mg base N qual (defScope st) f cdv A outer s H E) (defBody st) t ∧ t { nx := fun _ H' => Q .non H', rt := Q } (L2.start N vs) H) : FnOk P w K mg base (CXe P w) (k + 1) f fd ps sp := by
  obtain ⟨_, _, _, _, _, _, cdv, _, _, rfl, lk, hcd⟩ := F.ex
  exact fn_of lk hcd S len fun A outer s H vs Q E hr hsp => hb cdv A outer s H vs Q E hr hsp
section
variable {X : Cx} {C : Addr} {att mth : Str}
def ZR (X : Cx) (body : List Stmt) (u : L2.St → Hp → XK → Prop) : Prop := ∀ (xx : Value → Shared → Prop) (pins : List (Addr × Obj)) (σ : L2.St) H s (E' : XK), L2.Inv (X.wish xx) pins σ H s → u σ H E' → ZC X xx pins σ E' → wpAny (model X.prog X.w) X.A (execs body X.env) (fun _ _ => False) xx s
def uAsk (K : PySem.W.Frag) (C : Addr) (att mth : Str) (m : D → D → Option Str) (i : Nat) (t : TE) : L2.St → Hp → XK → Prop := fun σ H E => tAskX K C att mth m E i t σ H fun _ _ => False
theorem zr_ask {pl : Sem Bool} {o e : Expr} {y : Str} {i k k0 : Nat} {f : Addr} {fd : FuncData} {ps : List Str} {m : D → D → Option Str} {g : FD} {apos pos pn pa : Pos} (ho : PE X.nox o (tVar i)) (cl : Cls X.K C) (hm : Meth X.K C mth f) (F : FnOk X.prog X.w X.K X.mg X.base (CXe X.prog X.w) k f fd ps (spDx X.K C att m)) (hr : Room k0 X.A) (hb : Binds X.K fd ps []) (he : XD X.nox e g)
    (hk : k ≤ k0 := by decide) (hst : starEach [e] X.env = (false, eval e X.env) :: starEach [] X.env := by rfl) (hpl : (backTo pos (starEach [] X.env)).any (·.1) = false := by rfl)
    (ht : eval (.Call (.Attribute o mth apos) [e] [] pos) X.env = (do
      let ov ← eval o X.env
      standAt apos.atName
      let (f, first) ← holding [ov] (getMethod ov mth pl)
      callWith pos f first (backTo pos (starEach [e] X.env)) (backToKw pos (keywordEach [] X.env))) := by rfl)
    (hs : swapsWith (.Call (.Attribute o mth apos) [e] [] pos) (some (.Name y pn)) pa.line X.env = pure false := by rfl) :
    ∃ t, ZR X [.Assign [.Name y pn] (.Call (.Attribute o mth apos) [e] [] pos) pa] (uAsk X.K C att mth m i t) ∧ SimD X.K t g := by
  obtain ⟨t, a1, a2⟩ := he
  refine ⟨t, fun xx pins σ H s E' I u hz => ?_, a2⟩
  suffices call : wpAny (model X.prog X.w) X.A (eval (.Call (.Attribute o mth apos) [e] [] pos) X.env) (fun _ _ => False) xx s from wpAny_execs_cons (thn (wpAny_Assign_Name (thn call fun _ _ z => z.elim) hs) fun _ _ z => False.elim z)
  have ho' : PE (X.wish xx) o (tVar i) := PE.nox (X := X.wish xx) ho
  have ha : PA (X.wish xx) [e] (tCons t tNil) := pa_cons (PE.nox (X := X.wish xx) a1) pa_nil hst
  have u' : tVar i σ H (fun x H1 => ∃ a dx fs, x = .ref a ∧ H1 a = some (.ins C dx fs) ∧ fs.lookup mth = none ∧ tCons t tNil σ H1 fun vs H2 => spDx X.K C att m (x :: (vs ++ [])) H2 (fun _ _ => False) E') := u
  refine PySem.W.methodCall_KW (pl := pl) (thn (ho' pins s σ H _ I u') fun uu s1 ⟨x, H1, I1, rx, a, dx, fs, ex, ea, l, q⟩ => ?_) ht
  subst ex
  obtain rfl : uu = Value.ref a := rx
  refine getmeth_ok (X := X.wish xx) I1 ea cl hm l ?_
  refine PySem.W.callWith_K (first := [.ref a]) (h₀ := X.base) I.ok.mod.kin hm.kp (thn (ha pos pins s1 σ H1 _ I1 q) fun us s2 ⟨vs, H2, I2, r, q2⟩ => ⟨I2.kIn, ?_⟩) hst hpl
  have q2 : spDx X.K C att m (V.ref a :: (vs ++ [])) H2 (fun _ _ => False) E' := q2
  rw [List.append_nil] at q2
  have r' : Vals (V.ref a :: vs) (Value.ref a :: us) := .cons rfl r
  have hl : (Value.ref a :: us).length = ps.length := by rw [← r'.length]; exact F.len _ _ _ _ q2
  have hb' := hb s2 (Value.ref a :: us) I2.kIn (by rw [List.append_nil]; exact hl)
  rw [List.append_nil] at hb'
  refine wpAny_call (codeAny_mono (F.run X.A X.stack s2 H2 ⟨Value.ref a :: us, []⟩ (Value.ref a :: us) (V.ref a :: vs) (fun _ _ => False) E' (hr.mono hk) I2.env0 hb' r' q2) fun res s' hq => ?_)
  cases res with
  | error er => exact hz H2 s2 er s' I2 hq
  | ok fl =>
    cases fl with
    | ret u => obtain ⟨_, _, _, _, _, _, _, z⟩ := hq; exact z.elim
    | next => exact False.elim hq
    | brk => exact False.elim hq
    | cont => exact False.elim hq
def tCatchR (K : PySem.W.Frag) (u : L2.St → Hp → XK → Prop) (cs : List Str) (i : Nat) (th : TS) : TS := fun D σ H => ∃ c C, c ∈ cs ∧ clsIn K c C ∧ u σ H fun cls _ H' => cls = .ref C ∧ ∀ ea, H' ea = none → th (dOut D i) (σ.set i (some (.ref ea))) (upd H' ea (.ext (excP ea C)))
theorem ps_catchR {x n : Str} {CR : Addr} {cs : List Str} {i : Nat} {body suite : List Stmt} {b₀ : Stmt} {np hp pos : Pos} {th : TS} {u : L2.St → Hp → XK → Prop} (hst : X.stack = X.env :: X.outer) (hf : X.env.frame = some X.env.locals)
    (hg : Gl X x) (hm : X.mg x = some (.ref CR)) (er : ECls X.K x CR) (hcs : Takes X.K CR cs) (hN : X.N.Nodup) (hi : X.N[i]? = some n) (hl : X.env.scope.names.lookup n = some .local) (hd : X.calm = true → X.A.handled = none)
    (hz : ZR X body u) (hh : ∀ e, PSs (Cx.marked X e).nox (b₀ :: suite) th) (hdb : (x == ("__debug__" : Str)) = false := by decide) :
    PS X (.Try body [.ExceptHandler (some (.Name x np)) (some n) (b₀ :: suite) hp] [] [] pos) (tCatchR X.K u cs i th) := by
  intro pins s σ H D I h
  obtain ⟨c, C, hc, hcl0, hu⟩ := h
  obtain ⟨C', hcl, hex, hmr⟩ := hcs c hc
  have hCC : C' = C := by
    unfold clsIn at hcl hcl0
    rw [hcl] at hcl0
    cases hcl0; rfl
  subst hCC
  refine wpAny_Try_except ?_
  refine wpAny_mono (hz _ pins σ H s _ (I.wish _) hu fun H1 s1 e s' I1 cx => ?_) (fun _ _ z => z.elim) fun _ _ z => z
  obtain ⟨ea, cls, H', B, t, rfl, fl, ne, ⟨rfl, run⟩, mk⟩ := inv_caught I1.unwish cx
  have hfr : X.A.frames = some (X.env :: X.outer) := hst ▸ I.ok.frames
  have mk' := mk C'
  clear mk cx
  obtain ⟨h0, g', d', tk, os⟩ := s'
  rw [hst] at fl mk'
  refine wpAny_looks_onW hfr hf fl fun h1 held up1 => ?_
  refine wpAny_landsW held fun h2 fl2 up2 => ?_
  have I2 := inv_mark (mk' h2 rfl fl2 (up1.trans up2)) (.ref ea)
  have KI := I2.kIn
  obtain ⟨tl, N1, nm1, qn1, bs1, hdct1, sn1, sub1, ab1, col1, dd1, k01, k11, k21, k31, k51, mN1, hC1, _, _, T1⟩ := ecls_obj KI hex
  obtain ⟨tl2, N2, nm2, qn2, bs2, hdct2, sn2, sub2, ab2, col2, dd2, k02, k12, k22, k32, k52, mN2, hC2, _, _, T2⟩ := ecls_obj KI er.cl
  obtain ⟨oe, he, hoc⟩ := fl2.there
  have FB := PySem.F.excBase_ValueError
  refine wpAny_handleBy_cons (codeAny_handlers_test (ld_glob (X := Cx.marked X (.ref ea)) I2 hg hm ?_ hdb)) (fun q => by cases q)
  refine wpAny_excMatches_own hC1 hC2 he hoc (T2.hasType FB.hasBase) ?_
  rw [mro_tl KI hmr hC1]
  refine codeAny_handlers_suite_as (lands_againW fl2 fun h3 fl3 up3 => ?_)
  have I3 := inv_mark (mk' h3 rfl fl3 ((up1.trans up2).trans up3)) (.ref ea)
  refine store_ok (X := Cx.marked X (.ref ea)) (v := .ref ea) (u := .ref ea) I3 hN hi (.inl hl) rfl (fun s4 I4 => ?_) (.inr hl)
  refine wpAny_mono (hh (.ref ea) pins s4 _ _ (dOut D i) (I4.wish _) (run ea ne)) (fun fl s5 q => ?_) fun _ _ z => z.elim
  cases fl with
  | next => obtain ⟨σ', H5, I5, q⟩ := q; exact name_goes (inv_unmark hd I5.unwish) hN hi hl fun s6 I6 => ⟨_, H5, I6, q⟩
  | brk => obtain ⟨σ', H5, I5, q⟩ := q; exact name_goes (inv_unmark hd I5.unwish) hN hi hl fun s6 I6 => ⟨_, H5, I6, q⟩
  | cont => obtain ⟨σ', H5, I5, q⟩ := q; exact name_goes (inv_unmark hd I5.unwish) hN hi hl fun s6 I6 => ⟨_, H5, I6, q⟩
  | ret u => obtain ⟨v, σ', H5, I5, r, q⟩ := q; exact name_goes (inv_unmark hd I5.unwish) hN hi hl fun s6 I6 => ⟨v, _, H5, I6, r, q⟩
theorem ps_tryR {x n : Str} {CR : Addr} {cs : List Str} {i : Nat} {body suite : List Stmt} {b₀ : Stmt} {np hp pos : Pos} {t th : TS} {u : L2.St → Hp → XK → Prop} (hst : X.stack = X.env :: X.outer) (hf : X.env.frame = some X.env.locals)
    (hg : Gl X x) (hm : X.mg x = some (.ref CR)) (er : ECls X.K x CR) (hcs : Takes X.K CR cs) (hN : X.N.Nodup) (hi : X.N[i]? = some n) (hl : X.env.scope.names.lookup n = some .local)
    (hb : PSs X.nox body t) (hz : ZR X body u) (hh : ∀ e, PSs (Cx.marked X e).nox (b₀ :: suite) th) (hdb : (x == ("__debug__" : Str)) = false := by decide) :
    PS X (.Try body [.ExceptHandler (some (.Name x np)) (some n) (b₀ :: suite) hp] [] [] pos) (fun D σ H => t D σ H ∨ tCatchR X.K u cs i th D σ H) := by
  intro pins s σ H D I q
  rcases q with q | q
  · refine wpAny_Try_except (wpAny_mono (hb pins s σ H D (I.wish _) q) (fun fl s1 z => ?_) fun _ _ z => z.elim)
    have z' := z.unwish
    cases fl with
    | next => exact wpAny_execs_nil z'
    | brk => exact z'
    | cont => exact z'
    | ret u => exact z'
  · exact ps_catchR hst hf hg hm er hcs hN hi hl I.ok.hd hz hh hdb pins s σ H D I q
end
end Hk
set_option maxRecDepth 100000
namespace Hk
open PySem PySem.Spec L2 PyProof.Rows
structure Bz (K : PySem.W.Frag) (n : Nat) (G H : Hp) (ω : WSt) (σ : L2.St) : Prop where
  gh : Same G H
  len : ω.length = n
  ls : σ.length = n
  sh : ∀ (i : Nat) w, ω[i]? = some (some w) → ∃ d v, w = W.sh d ∧ σ[i]? = some (some v) ∧ Rep K G d v
structure Mv (p : Addr) (G H G' H' : Hp) : Prop where
  gg : Same G G'
  new : ∀ b, G b = none → H b ≠ none → G' b = none
  fr : ∀ b o, b ≠ p → H b = some o → H' b = some o
  th : ∀ b, H b ≠ none → H' b ≠ none
structure Bd (K : PySem.W.Frag) (C p dx : Addr) (att : Str) (i n : Nat) (G H : Hp) (ω : WSt) (σ : L2.St) (d : D) : Prop where
  b : Bz K n G H ω σ
  hs : σ[i]? = some (some (.ref p))
  hw : ω[i]? = some none
  k : Dsk K C p dx att G H d
section
variable {K : PySem.W.Frag} {C p dx : Addr} {att : Str} {i j n : Nat} {G H G' H' G'' H'' : Hp} {ω : WSt} {σ : L2.St} {d x : D} {v : V}
theorem Bz.own (S : Bz K n G H ω σ) : Own K G (fr H) G ω σ H := own_sh S.gh (S.len.trans S.ls.symm) S.sh
theorem Bz.go (S : Bz K n G H ω σ) (g : Same G G') (h : Same G' H') : Bz K n G' H' ω σ := ⟨h, S.len, S.ls, fun i w z => let ⟨d, v, a, b, c⟩ := S.sh i w z; ⟨d, v, a, b, c.mono g⟩⟩
theorem Bz.keep (S : Bz K n G H ω σ) (e : Ext G H G' H') : Bz K n G' H' ω σ := S.go e.gg e.gh
theorem Bz.set (S : Bz K n G H ω σ) (r : Rep K G x v) : Bz K n G H (ω.set j (some (.sh x))) (σ.set j (some v)) := by
  refine ⟨S.gh, by rw [List.length_set]; exact S.len, by rw [List.length_set]; exact S.ls, fun k w z => ?_⟩
  rcases get_set z with ⟨rfl, hl, e⟩ | ⟨ne, e⟩
  · cases e
    exact ⟨x, v, rfl, List.getElem?_set_self (by rw [S.ls, ← S.len]; exact hl), r⟩
  · rw [List.getElem?_set_ne ne]
    exact S.sh k w e
theorem Bz.hid (S : Bz K n G H ω σ) (hw : ω[i]? = some none) {u : Option V} : Bz K n G H ω (σ.set i u) := by
  refine ⟨S.gh, S.len, by rw [List.length_set]; exact S.ls, fun j w z => ?_⟩
  have e : i ≠ j := fun e => by rw [← e, hw] at z; cases z
  rw [List.getElem?_set_ne e]
  exact S.sh j w z
theorem Mv.refl : Mv p G H G H := ⟨Same.refl _, fun _ z _ => z, fun _ _ _ z => z, fun _ z => z⟩
theorem Mv.trans (a : Mv p G H G' H') (b : Mv p G' H' G'' H'') : Mv p G H G'' H'' := ⟨a.gg.trans b.gg, fun c z1 z2 => b.new c (a.new c z1 z2) (a.th c z2), fun c o ne z => b.fr c o ne (a.fr c o ne z), fun c z => b.th c (a.th c z)⟩
theorem some_ne {o : HO} {p : Addr} (h : H p = some o) : H p ≠ none := by rw [h]; exact fun z => by cases z
theorem th_of {b : Addr} (z : H b ≠ none) : ∃ o, H b = some o := by
  cases e : H b with
  | none => exact absurd e z
  | some o => exact ⟨o, rfl⟩
theorem Mv.ext (e : Ext G H G' H') : Mv p G H G' H' := ⟨e.gg, e.new, fun b o _ z => e.hh b o z, fun b z => let ⟨o, h⟩ := th_of z; some_ne (e.hh _ _ h)⟩
theorem Mv.told (g : Same G G') (nw : ∀ b, G b = none → H b ≠ none → G' b = none) (k : Dsk K C p dx att G' H' d) (f : ∀ b o, b ≠ p → H b = some o → H' b = some o) : Mv p G H G' H' := ⟨g, nw, f, fun b z => by
  by_cases e : b = p
  · obtain ⟨_, _, _, h, _⟩ := k
    rw [e]; exact some_ne h
  · obtain ⟨o, h⟩ := th_of z
    exact some_ne (f b o e h)⟩
theorem Bd.keep (S : Bd K C p dx att i n G H ω σ d) (e : Ext G H G' H') : Bd K C p dx att i n G' H' ω σ d := ⟨S.b.keep e, S.hs, S.hw, S.k.keep e⟩
theorem Bd.told {d' : D} (S : Bd K C p dx att i n G H ω σ d) (g : Same G G') (k : Dsk K C p dx att G' H' d') : Bd K C p dx att i n G' H' ω σ d' := ⟨S.b.go g k.1, S.hs, S.hw, k⟩
theorem Bd.set (S : Bd K C p dx att i n G H ω σ d) (ne : j ≠ i) (r : Rep K G x v) : Bd K C p dx att i n G H (ω.set j (some (.sh x))) (σ.set j (some v)) d :=
  ⟨S.b.set r, by rw [List.getElem?_set_ne ne]; exact S.hs, by rw [List.getElem?_set_ne ne]; exact S.hw, S.k⟩
end
abbrev FQ := WSt → D → Option (WSt × D)
abbrev FQT := WSt → D → Option (Bool × D)
def SimQ (K : PySem.W.Frag) (C : Addr) (att : Str) (i n : Nat) (t : TS) (f : FQ) : Prop := ∀ p dx G H ω σ d ω' d' (D0 : Ends), Bd K C p dx att i n G H ω σ d → f ω d = some (ω', d') → (∀ G' H' σ', Bd K C p dx att i n G' H' ω' σ' d' → Mv p G H G' H' → D0.nx σ' H') → t D0 σ H
def SimQT (K : PySem.W.Frag) (C : Addr) (att : Str) (i n : Nat) (t : TT) (f : FQT) : Prop := ∀ p dx G H ω σ d b d' (Q : Bool → Hp → Prop), Bd K C p dx att i n G H ω σ d → f ω d = some (b, d') → (∀ G' H', Bd K C p dx att i n G' H' ω σ d' → Mv p G H G' H' → Q b H') → t σ H Q
def SimQV (K : PySem.W.Frag) (C : Addr) (att : Str) (i n : Nat) (t : TE) (f : FQT) : Prop := ∀ p dx G H ω σ d b d' (Q : VK), Bd K C p dx att i n G H ω σ d → f ω d = some (b, d') → (∀ G' H', Bd K C p dx att i n G' H' ω σ d' → Mv p G H G' H' → Q (.bl b) H') → t σ H Q
def SimQE (K : PySem.W.Frag) (C : Addr) (att : Str) (i n : Nat) (t : TS) (f : FQT) : Prop := ∀ p dx G H ω σ d b d' (D0 : Ends), Bd K C p dx att i n G H ω σ d → f ω d = some (b, d') → (∀ G' H' σ' ω', Bd K C p dx att i n G' H' ω' σ' d' → Mv p G H G' H' → D0.rt (.bl b) H') → t D0 σ H
def SQ (X : Cx) (C : Addr) (att : Str) (i n : Nat) (st : Stmt) (f : FQ) : Prop := ∃ t, PS X st t ∧ SimQ X.K C att i n t f
def SQs (X : Cx) (C : Addr) (att : Str) (i n : Nat) (st : List Stmt) (f : FQ) : Prop := ∃ t, PSs X st t ∧ SimQ X.K C att i n t f
def QT (X : Cx) (C : Addr) (att : Str) (i n : Nat) (e : Expr) (f : FQT) : Prop := ∃ t, PT X e t ∧ SimQT X.K C att i n t f
def QW (X : Cx) (C : Addr) (att : Str) (i n : Nat) (e : Expr) (f : FQT) : Prop := ∃ t, PW X e t ∧ SimQT X.K C att i n t f
def QV (X : Cx) (C : Addr) (att : Str) (i n : Nat) (e : Expr) (f : FQT) : Prop := ∃ t, PE X e t ∧ SimQV X.K C att i n t f
def EQs (X : Cx) (C : Addr) (att : Str) (i n : Nat) (st : List Stmt) (f : FQT) : Prop := ∃ t, PSs X st t ∧ SimQE X.K C att i n t f
def qNil : FQ := fun ω d => some (ω, d)
def qSeq (f g : FQ) : FQ := fun ω d => (f ω d).bind fun s => g s.1 s.2
def qEnd (f : FQ) (g : FQT) : FQT := fun ω d => (f ω d).bind fun s => g s.1 s.2
def qSet (j : Nat) (g : FD) : FQ := fun ω d => (g ω).bind fun x => some (ω.set j (some (.sh x)), d)
def qIf (c : FT) (f g : FQ) : FQ := fun ω d => (c ω).bind fun b => if b = true then f ω d else g ω d
def qNo (c : FQT) : FQ := fun ω d => (c ω d).bind fun s => if s.1 = true then none else some (ω, s.2)
def blR (o : Option R) : Option Bool := o.bind fun r => match r with
  | .sh (.bl b) => some b
  | _ => none
theorem blR_eq {b : Bool} : ∀ {o : Option R}, blR o = some b → o = some (.sh (.bl b))
  | some (.sh (.bl c)), h => by cases h; rfl
  | some (.sh .non), h => by cases h
  | some (.sh (.int _)), h => by cases h
  | some (.sh (.str _)), h => by cases h
  | some (.sh (.lst _)), h => by cases h
  | some (.sh (.tup _)), h => by cases h
  | some (.sh (.scr _)), h => by cases h
  | some (.sh (.dic _ _)), h => by cases h
  | some (.sh (.exc _)), h => by cases h
  | some (.fr _), h => by cases h
  | some (.vw _), h => by cases h
  | none, h => by cases h
def qCmp (neg : Bool) (m : D → D → Option (D × D)) (g g2 : FD) : FQT := fun ω d => (g ω).bind fun x => (m d x).bind fun s => (g2 ω).bind fun y => (blR (oEq neg s.2 y)).bind fun b => some (b, s.1)
def qOr (f g : FQT) : FQT := fun ω d => (f ω d).bind fun s => if s.1 = true then some (true, s.2) else g ω s.2
def qAnd (f g : FQT) : FQT := fun ω d => (f ω d).bind fun s => if s.1 = true then g ω s.2 else some (false, s.2)
def qRun (j : Nat) (f : FQ) : List D → FQ
  | [], ω, d => some (ω, d)
  | c :: cs, ω, d => (f (ω.set j (some (.sh c))) d).bind fun s => qRun j f cs s.1 s.2
def qFor (fi : FI) (j : Nat) (f : FQ) : FQ := fun ω d => (fi ω).bind fun cs => qRun j f cs ω d
section
variable {X : Cx} {C : Addr} {att : Str} {i n j : Nat} {st : Stmt} {rest : List Stmt} {f g : FQ} {h : FQT} {e : Expr} {pos : Pos}
theorem sqs_nil : SQs X C att i n [] qNil := ⟨_, pss_nil, fun p dx G H ω σ d ω' d' D0 S e k => by cases e; exact k G H σ S Mv.refl⟩
theorem sqs_cons (a : SQ X C att i n st f) (b : SQs X C att i n rest g) : SQs X C att i n (st :: rest) (qSeq f g) := by
  obtain ⟨t, a1, a2⟩ := a
  obtain ⟨u, b1, b2⟩ := b
  refine ⟨_, pss_cons a1 b1, fun p dx G H ω σ d ω' d' D0 S e k => ?_⟩
  obtain ⟨⟨w, d1⟩, e1, e2⟩ := bnd e
  exact a2 p dx G H ω σ d w d1 _ S e1 fun G1 H1 σ1 S1 m1 => b2 p dx G1 H1 w σ1 d1 ω' d' D0 S1 e2 fun G2 H2 σ2 S2 m2 => k G2 H2 σ2 S2 (m1.trans m2)
theorem eqs_cons (a : SQ X C att i n st f) (b : EQs X C att i n rest h) : EQs X C att i n (st :: rest) (qEnd f h) := by
  obtain ⟨t, a1, a2⟩ := a
  obtain ⟨u, b1, b2⟩ := b
  refine ⟨_, pss_cons a1 b1, fun p dx G H ω σ d b d' D0 S e k => ?_⟩
  obtain ⟨⟨w, d1⟩, e1, e2⟩ := bnd e
  exact a2 p dx G H ω σ d w d1 _ S e1 fun G1 H1 σ1 S1 m1 => b2 p dx G1 H1 w σ1 d1 b d' D0 S1 e2 fun G2 H2 σ2 ω2 S2 m2 => k G2 H2 σ2 ω2 S2 (m1.trans m2)
theorem eqs_ret (a : QV X C att i n e h) : EQs X C att i n [.Return (some e) pos] h := by
  obtain ⟨t, a1, a2⟩ := a
  exact ⟨_, pss_one (ps_ret a1), fun p dx G H ω σ d b d' D0 S e k => a2 p dx G H ω σ d b d' _ S e fun G' H' S' m => k G' H' σ ω S' m⟩
theorem sq_set {gd : FD} (a : ∃ t, PS X st (tAsg t (gName j)) ∧ SimD X.K t gd) (ne : j ≠ i) : SQ X C att i n st (qSet j gd) := by
  obtain ⟨t, a1, a2⟩ := a
  refine ⟨_, a1, fun p dx G H ω σ d ω' d' D0 S e k => ?_⟩
  obtain ⟨x, e1, e2⟩ := bnd e
  cases e2
  exact a2 G (fr H) G _ _ _ _ _ S.b.own e1 fun v G' H' x1 r => k G' H' _ ((S.keep x1).set ne r) (Mv.ext x1)
theorem sq_if {c : Expr} {a b : List Stmt} {fc : FT} (hc : XT X c fc) (ha : SQs X C att i n a f) (hb : SQs X C att i n b g) : SQ X C att i n (.If c a b pos) (qIf fc f g) := by
  obtain ⟨t, a1, a2⟩ := hc
  obtain ⟨u, b1, b2⟩ := ha
  obtain ⟨w, c1, c2⟩ := hb
  refine ⟨_, ps_if a1 b1 c1, fun p dx G H ω σ d ω' d' D0 S e k => ?_⟩
  obtain ⟨z, e1, e2⟩ := bnd e
  refine a2 G (fr H) G _ _ _ z _ S.b.own e1 fun G1 H1 x1 => ?_
  cases z with
  | true => rw [if_pos rfl] at e2 ⊢; exact b2 p dx G1 H1 ω σ d ω' d' D0 (S.keep x1) e2 fun G2 H2 σ2 S2 m2 => k G2 H2 σ2 S2 ((Mv.ext x1).trans m2)
  | false => rw [if_neg Bool.false_ne_true] at e2 ⊢; exact c2 p dx G1 H1 ω σ d ω' d' D0 (S.keep x1) e2 fun G2 H2 σ2 S2 m2 => k G2 H2 σ2 S2 ((Mv.ext x1).trans m2)
theorem sq_no {c : Expr} {a : List Stmt} (hc : QT X C att i n c h) : SQ X C att i n (.If c a [] pos) (qNo h) := by
  obtain ⟨t, a1, a2⟩ := hc
  refine ⟨_, ps_if a1 pss_never pss_nil, fun p dx G H ω σ d ω' d' D0 S e k => ?_⟩
  obtain ⟨⟨z, d1⟩, e1, e2⟩ := bnd e
  refine a2 p dx G H ω σ d z d1 _ S e1 fun G1 H1 S1 m1 => ?_
  cases z with
  | true => rw [if_pos rfl] at e2; cases e2
  | false =>
    rw [if_neg Bool.false_ne_true] at e2 ⊢
    cases e2
    exact k G1 H1 σ S1 m1
theorem sq_for {tg iter : Expr} {body : List Stmt} {fi : FI} (hp : PassesOwn (model X.prog X.w) X.A X.env X.xe) (hc : X.calm = true) (hi : XI X tg iter fi) (hg : PG X tg (gName j)) (ne : j ≠ i) (hb : SQs X C att i n body f) (hfs : ∀ x, foldedSetIterable iter X.env x = pure x := by intro _; rfl) :
    SQ X C att i n (.For tg iter body [] pos) (qFor fi j f) := by
  obtain ⟨wi, a1, a2⟩ := hi
  obtain ⟨tB, b1, b2⟩ := hb
  refine ⟨_, ps_for hp hc a1 hg b1 hfs, fun p dx G H ω σ d ω' d' D0 S e k => ?_⟩
  obtain ⟨cs, ei, e⟩ := bnd e
  refine a2 G (fr H) G _ _ _ cs _ S.b.own ei fun J G1 H1 x1 it => ?_
  refine ⟨fun a m σ2 H2 => ∃ G2 ω2 d2, Bd X.K C p dx att i n G2 H2 ω2 σ2 d2 ∧ Mv p G1 H1 G2 H2 ∧ qRun j f (cs.drop a) ω2 d2 = some (ω', d') ∧ a ≤ cs.length ∧ m = cs.length - a, ⟨_, G1, ω, d, S.keep x1, Mv.refl, e, Nat.zero_le _, rfl⟩, ?_⟩
  rintro a m σ2 H2 ⟨G2, ω2, d2, S2, g2, r2, li, rfl⟩
  by_cases hlt : a < cs.length
  · refine .inr ⟨it.go H2 a (g2.gg.trans S2.b.gh) hlt, fun σ3 H3 => ∃ G3 ω3 d3, Bd X.K C p dx att i n G3 H3 ω3 σ3 d3 ∧ Mv p G1 H1 G3 H3 ∧ qRun j f (cs.drop (a + 1)) ω3 d3 = some (ω', d'), fun σ3 H3 ⟨G3, ω3, d3, q1, q2, q3⟩ => ⟨cs.length - (a + 1), by omega, G3, ω3, d3, q1, q2, q3, hlt, rfl⟩, fun x H3 hy => ?_⟩
    have hd : cs[a]? = some cs[a] := List.getElem?_eq_getElem hlt
    obtain ⟨G4, x4, rx⟩ := it.yld G2 H2 a x H3 cs[a] g2.gg S2.b.gh hd hy
    rw [List.drop_eq_getElem_cons hlt] at r2
    obtain ⟨⟨w1, d1⟩, e1, r2⟩ := bnd r2
    refine b2 p dx G4 H3 _ _ d2 w1 d1 _ ((S2.keep x4).set ne rx) e1 fun G5 H5 σ5 S5 m5 => ?_
    exact ⟨G5, w1, d1, S5, (g2.trans (Mv.ext x4)).trans m5, r2⟩
  · have ei : a = cs.length := by omega
    subst ei
    rw [List.drop_length] at r2
    cases r2
    exact .inl ⟨it.stop H2 (g2.gg.trans S2.b.gh), k G2 H2 σ2 S2 ((Mv.ext x1).trans g2)⟩
abbrev tAskF (K : PySem.W.Frag) (C : Addr) (att : Str) (m : D → D → Option (D × D)) (i : Nat) (t : TE) : TE := tCall (spDk K C att m) [] E0 (tCons (tVar i) (tCons t tNil))
theorem pe_said {o e1 : Expr} {x : Str} {p : Pos} {k k0 : Nat} {fa : Addr} {fd : FuncData} {ps : List Str} {m : D → D → Option (D × D)} {gd : FD} (F : FnOk X.prog X.w X.K X.mg X.base CX0 k fa fd ps (spDk X.K C att m)) (hm : X.mg x = some (.ref fa)) (hkp : PySem.W.keepIn X.K (.ref fa) = true) (hb : Binds X.K fd ps []) (hr : Room k0 X.A) (ho : PE X o (tVar i)) (he : XD X e1 gd)
    (hk : k ≤ k0 := by decide) (hg : Gl X x := by exact rfl) (hdb : (x == ("__debug__" : Str)) = false := by decide) (s1 : starEach [o, e1] X.env = (false, eval o X.env) :: starEach [e1] X.env := by rfl) (s2 : starEach [e1] X.env = (false, eval e1 X.env) :: starEach [] X.env := by rfl) (hpl : (backTo pos (starEach [e1] X.env)).any (·.1) = false := by rfl) :
    ∃ t, PE X (.Call (.Name x p) [o, e1] [] pos) (tAskF X.K C att m i t) ∧ SimD X.K t gd := by
  obtain ⟨t, a1, a2⟩ := he
  exact ⟨t, pe_call F (hr.mono hk) hg hm hkp hb .nil pass0 (pa_cons ho (pa_cons a1 pa_nil s2) s1) hdb s1 hpl, a2⟩
theorem said_ok {K : PySem.W.Frag} {p dx : Addr} {G H : Hp} {ω : WSt} {σ : L2.St} {d x d' r : D} {t : TE} {gd : FD} {m : D → D → Option (D × D)} {Q : VK} (s : SimD K t gd) (S : Bd K C p dx att i n G H ω σ d) (hg : gd ω = some x) (hm : m d x = some (d', r))
    (q : ∀ (G' H' : Hp) (u : V), Bd K C p dx att i n G' H' ω σ d' → Mv p G H G' H' → Rep K G' r u → Q u H') : tAskF K C att m i t σ H Q := by
  refine ⟨.ref p, S.hs, ?_⟩
  refine s G (fr H) G _ _ _ _ _ S.b.own hg fun v G1 H1 x1 r1 => ?_
  exact ⟨p, dx, v, G1, d, x, d', r, rfl, S.k.keep x1, r1, hm, fun G2 H2 u g2 n2 k2 ru f2 => q G2 H2 u ((S.keep x1).told g2 k2) ((Mv.ext x1).trans (Mv.told g2 n2 k2 f2)) ru⟩
theorem cmp_ok {K : PySem.W.Frag} {neg : Bool} {t te : TE} {gd ge : FD} {m : D → D → Option (D × D)} (s : SimD K t gd) (se : SimD K te ge) : SimQV K C att i n (tOp (rEqD K neg) (tAskF K C att m i t) te) (qCmp neg m gd ge) := by
  intro p dx G H ω σ d b d' Q S e k
  obtain ⟨x, e1, e⟩ := bnd e
  obtain ⟨⟨d1, r⟩, e2, e⟩ := bnd e
  obtain ⟨y, e3, e⟩ := bnd e
  obtain ⟨b1, e4, e⟩ := bnd e
  cases e
  refine said_ok s S e1 e2 fun G1 H1 u S1 m1 ru => ?_
  refine se G1 (fr H1) G1 _ _ _ _ _ S1.b.own e3 fun u2 G3 H3 x3 r3 => ?_
  refine opv_eq G3 H3 r y (.sh (.bl b)) u u2 _ x3.gh (blR_eq e4) (.inl (ru.mono x3.gg)) (.inl r3) fun w G4 H4 x4 r4 => ?_
  cases (show w = .bl b from r4)
  exact k G4 H4 ((S1.keep x3).keep x4) ((m1.trans (Mv.ext x3)).trans (Mv.ext x4))
variable {em el : Expr} {p2 : Pos} {m : D → D → Option (D × D)} {gm ge : FD}
theorem qt_ne (hu : X.A.units + 64 < cLine) (hm : ∃ t, PE X em (tAskF X.K C att m i t) ∧ SimD X.K t gm) (he : XD X el ge) : QT X C att i n (.Compare em [.NotEq] [el] p2) (qCmp true m gm ge) := by
  obtain ⟨t, a1, a2⟩ := hm
  obtain ⟨te, b1, b2⟩ := he
  exact ⟨_, pt_cmpR (op_neD hu) a1 b1 (nomark _), fun p dx G H ω σ d b d' Q S e k => cmp_ok a2 b2 p dx G H ω σ d b d' _ S e fun G' H' S' m' => ⟨b, rfl, k G' H' S' m'⟩⟩
theorem qv_eq (hu : X.A.units + 64 < cLine) (hm : ∃ t, PE X em (tAskF X.K C att m i t) ∧ SimD X.K t gm) (he : XD X el ge) : QV X C att i n (.Compare em [.Eq] [el] p2) (qCmp false m gm ge) := by
  obtain ⟨t, a1, a2⟩ := hm
  obtain ⟨te, b1, b2⟩ := he
  exact ⟨_, pe_cmpR (op_eqD hu) a1 b1 (nomark _), cmp_ok a2 b2⟩
variable {a b : Expr} {f' : FQT} {es : List Expr}
theorem qw_or1 (ha : QT X C att i n a h) : QW X C att i n (.BoolOp .Or [a] pos) h := let ⟨t, a1, a2⟩ := ha; ⟨t, pw_or1 a1, a2⟩
theorem qw_or (ha : QT X C att i n a h) (hb : QW X C att i n (.BoolOp .Or (b :: es) pos) f') : QW X C att i n (.BoolOp .Or (a :: b :: es) pos) (qOr h f') := by
  obtain ⟨t, a1, a2⟩ := ha
  obtain ⟨u, b1, b2⟩ := hb
  refine ⟨_, pw_or a1 b1, fun p dx G H ω σ d z d' Q S e k => ?_⟩
  obtain ⟨⟨c, d1⟩, e1, e2⟩ := bnd e
  refine a2 p dx G H ω σ d c d1 _ S e1 fun G1 H1 S1 m1 => ?_
  cases c with
  | true => rw [if_pos rfl] at e2 ⊢; cases e2; exact k G1 H1 S1 m1
  | false => rw [if_neg Bool.false_ne_true] at e2 ⊢; exact b2 p dx G1 H1 ω σ d1 z d' Q S1 e2 fun G2 H2 S2 m2 => k G2 H2 S2 (m1.trans m2)
theorem qt_w (ha : QW X C att i n a h) : QT X C att i n a h := let ⟨t, a1, a2⟩ := ha; ⟨t, a1.pt, a2⟩
theorem qv_one {op : BoolOp} (ha : QV X C att i n a h) : QV X C att i n (.BoolOp op [a] pos) h := let ⟨t, a1, a2⟩ := ha; ⟨t, pe_one a1, a2⟩
theorem qv_and (ha : QV X C att i n a h) (hb : QV X C att i n (.BoolOp .And (b :: es) pos) f') : QV X C att i n (.BoolOp .And (a :: b :: es) pos) (qAnd h f') := by
  obtain ⟨t, a1, a2⟩ := ha
  obtain ⟨u, b1, b2⟩ := hb
  refine ⟨_, pe_and a1 b1, fun p dx G H ω σ d z d' Q S e k => ?_⟩
  obtain ⟨⟨c, d1⟩, e1, e2⟩ := bnd e
  refine a2 p dx G H ω σ d c d1 _ S e1 fun G1 H1 S1 m1 => ⟨c, rfl, ?_⟩
  cases c with
  | true => rw [if_pos rfl] at e2 ⊢; exact b2 p dx G1 H1 ω σ d1 z d' Q S1 e2 fun G2 H2 S2 m2 => k G2 H2 S2 (m1.trans m2)
  | false => rw [if_neg Bool.false_ne_true] at e2 ⊢; cases e2; exact k G1 H1 S1 m1
end
end Hk
set_option maxRecDepth 100000
namespace Hk
open PySem PySem.Spec L2 PyProof.Rows
theorem Bd.hid {K : PySem.W.Frag} {C p dx : Addr} {att : Str} {i j n : Nat} {G H : Hp} {ω : WSt} {σ : L2.St} {d : D} {u : Option V} (S : Bd K C p dx att i n G H ω σ d) (ne : j ≠ i) (hw : ω[j]? = some none) : Bd K C p dx att i n G H ω (σ.set j u) d :=
  ⟨S.b.hid hw, by rw [List.getElem?_set_ne ne]; exact S.hs, S.hw, S.k⟩
def retQ (d : D) (o : Option (Out × WSt)) : Option (D × D) := o.bind fun p => match p.1 with
  | .rt (.sh r) => some (d, r)
  | _ => none
theorem retQ_eq {d d' r : D} {o : Option (Out × WSt)} (h : retQ d o = some (d', r)) : d' = d ∧ ∃ ω, o = some (.rt (.sh r), ω) := by
  obtain ⟨⟨out, ω⟩, e1, e2⟩ := bnd h
  match out, e2 with
  | .rt (.sh r'), e2 => cases e2; exact ⟨rfl, ω, e1⟩
def sa0 (x : D) : WSt := [none, some (.sh x), none, none, none, none]
def mSaid (g1 g2 g : FD) (f : FS) (ms : D → D → Option (D × D)) (mx : D → D → Option Str) (cs : List Str) (d x : D) : Option (D × D) :=
  (g1 (sa0 x)).bind fun y1 => (g2 ((sa0 x).set 2 (some (.sh y1)))).bind fun y2 => (g (((sa0 x).set 2 (some (.sh y1))).set 3 (some (.sh y2)))).bind fun y => match mx d y with
    | some c => if c ∈ cs then retQ d (f ((((sa0 x).set 2 (some (.sh y1))).set 3 (some (.sh y2))).set 3 (some (.sh (.exc c))))) else none
    | none => (ms d y).bind fun s => retQ s.1 (f ((((sa0 x).set 2 (some (.sh y1))).set 3 (some (.sh y2))).set 2 (some (.sh s.2))))
section
variable {X : Cx} {C : Addr} {att mth : Str} {ms : D → D → Option (D × D)} {mx : D → D → Option Str} {cs : List Str}
abbrev tTryA (K : PySem.W.Frag) (C : Addr) (att mth : Str) (ms : D → D → Option (D × D)) (mx : D → D → Option Str) (cs : List Str) (t tu : TE) : TS := fun D σ H => tAsg (tAskM K C att mth ms 0 t) (gName 2) D σ H ∨ tCatchR K (uAsk K C att mth mx 0 tu) cs 4 (tAsg (tVar 4) (gName 3)) D σ H
theorem try_ask {x n : Str} {CR : Addr} {sb b₀ : Stmt} {np hp pos : Pos} {g : FD} (hst : X.stack = X.env :: X.outer) (hf : X.env.frame = some X.env.locals)
    (hg : Gl X x) (hm : X.mg x = some (.ref CR)) (er : ECls X.K x CR) (hcs : Takes X.K CR cs) (hN : X.N.Nodup) (hi : X.N[4]? = some n) (hl : X.env.scope.names.lookup n = some .local)
    (hb : ∃ t, PS X.nox sb (tAsg (tAskM X.K C att mth ms 0 t) (gName 2)) ∧ SimD X.K t g) (hz : ∃ t, ZR X [sb] (uAsk X.K C att mth mx 0 t) ∧ SimD X.K t g) (hh : ∀ e, PS (Cx.marked X e).nox b₀ (tAsg (tVar 4) (gName 3))) (hdb : (x == ("__debug__" : Str)) = false := by decide) :
    ∃ t tu, PS X (.Try [sb] [.ExceptHandler (some (.Name x np)) (some n) [b₀] hp] [] [] pos) (tTryA X.K C att mth ms mx cs t tu) ∧ SimD X.K t g ∧ SimD X.K tu g := by
  obtain ⟨t, a1, a2⟩ := hb
  obtain ⟨tu, b1, b2⟩ := hz
  exact ⟨t, tu, ps_tryR (i := 4) hst hf hg hm er hcs hN hi hl (pss_one a1) b1 (fun e => pss_one (hh e)) hdb, a2, b2⟩
theorem said_fin {st1 st2 stT : Stmt} {rest : List Stmt} {g1 g2 g : FD} {f : FS} {N : List Str} {vs : List V} {H : Hp} {Q : VK} {E : XK} (hN : N.length = 6) (hne : (mth == att) = false)
    (h1 : ∃ t, PS X st1 (tAsg t (gName 2)) ∧ SimD X.K t g1) (h2 : ∃ t, PS X st2 (tAsg t (gName 3)) ∧ SimD X.K t g2)
    (hT : ∃ t tu, PS X stT (tTryA X.K C att mth ms mx cs t tu) ∧ SimD X.K t g ∧ SimD X.K tu g) (hR : XSs X rest f) (hcl : ∀ c ∈ cs, ∃ Cc, clsIn X.K c Cc)
    (h : spDk X.K C att (mSaid g1 g2 g f ms mx cs) vs H Q E) : ∃ t, PSs X (st1 :: st2 :: stT :: rest) t ∧ t { nx := fun _ H' => Q .non H', rt := Q } (L2.start N vs) H := by
  obtain ⟨p, dx, v, G, d, x, d', r, rfl, hd, rx, hm, q⟩ := h
  obtain ⟨t1, a1, s1⟩ := h1
  obtain ⟨t2, a2, s2⟩ := h2
  obtain ⟨t, tu, a3, s3, s4⟩ := hT
  obtain ⟨tR, a5, s5⟩ := hR
  refine ⟨_, pss_cons a1 (pss_cons a2 (pss_cons a3 a5)), ?_⟩
  have es : L2.start N [.ref p, v] = [some (.ref p), some v, none, none, none, none] := by unfold L2.start; rw [hN]; rfl
  rw [es]
  obtain ⟨y1, e1, hm⟩ := bnd hm
  obtain ⟨y2, e2, hm⟩ := bnd hm
  obtain ⟨y, e3, hm⟩ := bnd hm
  have S0 : Bd X.K C p dx att 0 6 G H (sa0 x) [some (.ref p), some v, none, none, none, none] d := ⟨⟨hd.1, rfl, rfl, fun i w z => by
    match i, z with
    | 0, z => cases z
    | 1, z => cases z; exact ⟨x, v, rfl, rfl, rx⟩
    | 2, z => cases z
    | 3, z => cases z
    | 4, z => cases z
    | 5, z => cases z
    | i + 6, z => simp [sa0] at z⟩, rfl, rfl, hd⟩
  refine s1 G (fr H) G _ _ _ _ _ S0.b.own e1 fun v1 G1 H1 x1 r1 => ?_
  have S1 := (S0.keep x1).set (j := 2) (by decide) r1
  refine s2 G1 (fr H1) G1 _ _ _ _ _ S1.b.own e2 fun v2 G2 H2 x2 r2 => ?_
  have S2 := (S1.keep x2).set (j := 3) (by decide) r2
  have x12 := x1.trans x2
  have fin : ∀ (G3 H3 : Hp) (ω : WSt) (σ : L2.St) (d1 : D), Bd X.K C p dx att 0 6 G3 H3 ω σ d1 → Mv p G H G3 H3 → retQ d1 (f ω) = some (d', r) → tR { nx := fun _ H' => Q .non H', rt := Q } σ H3 := fun G3 H3 ω σ d1 S m hq => by
    obtain ⟨rfl, ω', ef⟩ := retQ_eq hq
    refine s5 G3 (fr H3) G3 ω σ H3 _ ω' _ S.b.own ef fun G4 σ4 H4 o4 _ w rw' => ?_
    have x4 : Ext G3 H3 G4 H4 := o4.ext
    have m4 := m.trans (Mv.ext (p := p) x4)
    exact q G4 H4 w m4.gg m4.new (S.k.keep x4) rw' m4.fr
  cases z : mx d y with
  | some c =>
    rw [z] at hm
    by_cases hc : c ∈ cs
    · have hm : retQ d (f ((((sa0 x).set 2 (some (.sh y1))).set 3 (some (.sh y2))).set 3 (some (.sh (.exc c))))) = some (d', r) := (if_pos hc).symm.trans hm
      obtain ⟨Cc, hk⟩ := hcl c hc
      refine .inr ⟨c, Cc, hc, hk, ?_⟩
      refine askX_ok hne s4 S2.k S2.b.own S2.hs e3 z hk fun G3 H3 x3 => ⟨rfl, fun ea hea => ?_⟩
      have lay := Ext.lay x3.gh hea (.ext (excP ea Cc))
      have S3 := ((S2.keep x3).keep lay).hid (j := 4) (u := some (.ref ea)) (by decide) rfl
      refine ⟨.ref ea, rfl, ?_⟩
      have S4 := S3.set (j := 3) (x := .exc c) (v := .ref ea) (by decide) ⟨ea, Cc, rfl, hk, upd_same⟩
      have S5 := S4.hid (j := 4) (u := none) (by decide) rfl
      exact fin _ _ _ _ d S5 (Mv.ext ((x12.trans x3).trans lay)) hm
    · exact absurd ((if_neg hc).symm.trans hm) (by simp)
  | none =>
    rw [z] at hm
    obtain ⟨⟨d1, r1'⟩, e4, e5⟩ := bnd hm
    refine .inl (ask_ok hne s3 S2.k S2.b.own S2.hs e3 e4 fun G3 H3 u g3 n3 k3 ru f3 => ?_)
    exact fin _ _ _ _ d1 ((S2.told g3 k3).set (j := 2) (by decide) ru) ((Mv.ext x12).trans (Mv.told g3 n3 k3 f3)) e5
end
def mLw1 (n : Nat) (g1 g2 g3 : FD) (mr : List D → Option O) (f : FQT) (ds : List D) : Option O :=
  (g1 (entry n ds)).bind fun x1 => (g2 ((entry n ds).set 1 (some (.sh x1)))).bind fun x2 => (g3 (((entry n ds).set 1 (some (.sh x1))).set 2 (some (.sh x2)))).bind fun x3 => (rdD mr x3).bind fun d => (f (((entry n ds).set 1 (some (.sh x1))).set 2 (some (.sh x2))) d).bind fun s => some (.sh (.bl s.1))
section
variable {X : Cx} {C : Addr} {att : Str} {mr : List D → Option O}
theorem law1_fin {st1 st2 st3 : Stmt} {rest : List Stmt} {g1 g2 g3 : FD} {f : FQT} {n : Nat} {N : List Str} {vs : List V} {H : Hp} {Q : VK} {E : XK} (hN : N.length = n) (hn : 3 < n) 
    (h1 : ∃ t, PS X st1 (tAsg t (gName 1)) ∧ SimD X.K t g1) (h2 : ∃ t, PS X st2 (tAsg t (gName 2)) ∧ SimD X.K t g2) (h3 : ∃ t, PS X st3 (tAsg (tMake C (spJ X.K C att mr) [] E0 (tCons t tNil)) (gName 3)) ∧ SimD X.K t g3)
    (hE : EQs X C att 3 n rest f) (h : spD X.K 1 (mLw1 n g1 g2 g3 mr f) vs H Q E) : ∃ t, PSs X (st1 :: st2 :: st3 :: rest) t ∧ t { nx := fun _ H' => Q .non H', rt := Q } (L2.start N vs) H := by
  obtain ⟨G, ds, r, hm, hl, gs, rp, q⟩ := h
  obtain ⟨t1, a1, s1⟩ := h1
  obtain ⟨t2, a2, s2⟩ := h2
  obtain ⟨t3, a3, s3⟩ := h3
  obtain ⟨tE, a4, s4⟩ := hE
  refine ⟨_, pss_cons a1 (pss_cons a2 (pss_cons a3 a4)), ?_⟩
  obtain ⟨x1, e1, hm⟩ := bnd hm
  obtain ⟨x2, e2, hm⟩ := bnd hm
  obtain ⟨x3, e3, hm⟩ := bnd hm
  obtain ⟨d, e4, hm⟩ := bnd hm
  obtain ⟨⟨b, d'⟩, e5, hm⟩ := bnd hm
  cases hm
  subst hN
  have hv := rp.len
  have S0 : Bz X.K N.length G H (entry N.length ds) (L2.start N vs) := ⟨gs, by unfold entry; simp only [List.length_append, List.length_map, List.length_replicate]; omega, by unfold L2.start; simp only [List.length_append, List.length_map, List.length_replicate]; omega, fun i w z => by
    obtain ⟨e, rfl⟩ := entry_noOw i w z
    obtain ⟨u, z1, z2⟩ := reps_start rp i e z
    exact ⟨e, u, rfl, z1, z2⟩⟩
  refine s1 G (fr H) G _ _ _ _ _ S0.own e1 fun v1 G1 H1 y1 r1 => ?_
  have S1 := (S0.keep y1).set (j := 1) r1
  refine s2 G1 (fr H1) G1 _ _ _ _ _ S1.own e2 fun v2 G2 H2 y2 r2 => ?_
  have S2 := (S1.keep y2).set (j := 2) r2
  refine s3 G2 (fr H2) G2 _ _ _ _ _ S2.own e3 fun v3 G3 H3 y3 r3 => ?_
  intro p dp hp hdp ne
  refine ⟨H3, p, dp, v3, G3, x3, d, rfl, hp, hdp, ne, rfl, e4, y3.gh, r3, fun G4 H4 g4 n4 k4 h4 => ⟨rfl, ?_⟩⟩
  have y13 := (y1.trans y2).trans y3
  have y4 : Ext G3 H3 G4 H4 := ⟨g4, k4.1, h4, n4⟩
  have y14 := y13.trans y4
  have hw : (((entry N.length ds).set 1 (some (.sh x1))).set 2 (some (.sh x2)))[3]? = some none := by
    rw [List.getElem?_set_ne (by decide), List.getElem?_set_ne (by decide)]
    unfold entry
    rw [List.getElem?_append_right (by rw [List.length_map]; omega), List.getElem?_replicate, if_pos (by rw [List.length_map]; omega)]
  have S4 := ((S2.keep y3).keep y4).hid (i := 3) (u := some (.ref p)) hw
  have B4 : Bd X.K C p dp att 3 N.length G4 H4 _ _ d := ⟨S4, List.getElem?_set_self (by rw [((S2.keep y3).keep y4).ls]; exact hn), hw, k4⟩
  refine s4 p dp G4 H4 _ _ d b d' _ B4 e5 fun G5 H5 σ5 ω5 B5 m5 => ?_
  have hp0 : H p = none := y13.hh.free hp
  exact q _ G5 H5 ⟨y14.gg.trans m5.gg, B5.b.gh, fun c o z => m5.fr c o (fun e => by rw [e, hp0] at z; cases z) (y14.hh _ _ z), fun c z1 z2 => m5.new c (y14.new c z1 z2) (let ⟨o, ho⟩ := th_of z2; some_ne (y14.hh _ _ ho))⟩ rfl
end
end Hk
set_option maxHeartbeats 4000000
namespace Kx
open PySem L2 Hk
def top (i : Nat) : Stmt := PySem.Challenge.pw_hookrail_k75_rows_refused.main.body.getD i (.Pass ⟨0, 0, 0, 0⟩)
section
variable {P : Program} {w : World} {K : PySem.W.Frag} {mg : Str → Option Value} {base : Heap} {f : Addr} {fd : FuncData}
def B_is_whole : FS := (sRet (eOf (vAnd (dOf (fIsi .int (vOf (fVar 0)))) (vNot (dOf (fIsi .bl (vOf (fVar 0))))))))
def m_is_whole : List D → Option O := mir 1 B_is_whole
abbrev s_is_whole : Stmt := top 11
theorem S_is_whole : FnScope ["thing"] ["thing"] (defScope s_is_whole) := ⟨rfl, rfl, rfl, by decide +kernel, rfl, by decide +kernel, by decide +kernel⟩
theorem ok_is_whole 
    (F : Fun K "is_whole" "is_whole" s_is_whole f fd)
    (z_isinstance : mg "isinstance" = none)
    (z_bool : mg "bool" = none)
    (z_int : mg "int" = none)
    (i_int : IsT K .int)
    (i_bool : IsT K .bl) :
    FnOk P w K mg base CX0 1 f fd ["thing"] (spD K 1 m_is_whole) := by
  have h := fnD (P := P) (w := w) (mg := mg) (base := base) (k := 0) (body := B_is_whole) F S_is_whole (fun cdv A outer s H E hr =>
      (xss_one (xs_ret (XD.toE (xd_and (XE.toD (xe_isi (vV 0) i_int rfl z_isinstance rfl z_int bt_int)) (xd_one (xd_not (XE.toD (xe_isi (vV 0) i_bool rfl z_isinstance rfl z_bool bt_bool)))))))))
  exact h
def B_is_box : FS := (sRet (eOf (vAnd (dOf (fIsi .tup (vOf (fVar 0)))) (vAnd (dOf (fOpE (oEq false) (vOf (fBlt bLenS (aCons (vOf (fVar 0)) aNil))) (fC (.int 2)))) (vAnd (dOf (fCall m_is_whole (aCons (dOf (fOpE oIxS (vOf (fVar 0)) (fC (.int 0)))) aNil))) (dOf (fCall m_is_whole (aCons (dOf (fOpE oIxS (vOf (fVar 0)) (fC (.int 1)))) aNil))))))))
def m_is_box : List D → Option O := mir 1 B_is_box
abbrev s_is_box : Stmt := top 12
theorem S_is_box : FnScope ["thing"] ["thing"] (defScope s_is_box) := ⟨rfl, rfl, rfl, by decide +kernel, rfl, by decide +kernel, by decide +kernel⟩
theorem ok_is_box {f_is_whole : Addr} {d_is_whole : FuncData}
    (F : Fun K "is_box" "is_box" s_is_box f fd)
    (c_is_whole : Cal P w K mg base 1 f_is_whole d_is_whole "is_whole" ["thing"] 1 m_is_whole)
    (z_len : mg "len" = none)
    (z_isinstance : mg "isinstance" = none)
    (z_tuple : mg "tuple" = none)
    (i_tuple : IsT K .tup) :
    FnOk P w K mg base CX0 2 f fd ["thing"] (spD K 1 m_is_box) := by
  have h := fnD (P := P) (w := w) (mg := mg) (base := base) (k := 1) (body := B_is_box) F S_is_box (fun cdv A outer s H E hr =>
      (xss_one (xs_ret (XD.toE (xd_and (XE.toD (xe_isi (vV 0) i_tuple rfl z_isinstance rfl z_tuple bt_tuple)) (xd_and (XE.toD (xe_eq hr.units (XE.toV (xe_blt (call_len_str.or call_len_seq) cd_lenS rfl z_len bt_len (xva_cons (vV 0) xva_nil))) (XD.toV xd_int))) (xd_and (XE.toD (xc c_is_whole hr (xa_cons (XE.toD (xe_itemS (vV 0) (XD.toV xd_int))) xa_nil))) (xd_one (XE.toD (xc c_is_whole hr (xa_cons (XE.toD (xe_itemS (vV 0) (XD.toV xd_int))) xa_nil)))))))))))
  exact h
def E1_is_errand : FD := (dOf (fCall m_is_box (aCons (dOf (fVar 0)) aNil)))
def B_is_errand : FS := (sSeq (sIf (tOrF (tNotF (tTru (vOf (fCall m_is_whole (aCons (dOf (fVar 0)) aNil))))) (tOrF (tNotF (tTru (vOf (fCall m_is_whole (aCons (dOf (fVar 1)) aNil))))) (tNotF (tTru (vOf (fIsi .lst (vOf (fVar 2)))))))) (sRet (eOf (fC (.bl false)))) sNil)
    (sRet (fBlt bAll (aCons (vOf (fComp 1 [] (iSeqS (dOf (fVar 2))) (gN 0) tTrue E1_is_errand)) aNil))))
def m_is_errand : List D → Option O := mir 3 B_is_errand
abbrev s_is_errand : Stmt := top 13
theorem S_is_errand : FnScope ["home", "last", "boxes"] ["home", "last", "boxes"] (defScope s_is_errand) := ⟨rfl, rfl, rfl, by decide +kernel, rfl, by decide +kernel, by decide +kernel⟩
theorem ok_is_errand {f_is_whole : Addr} {d_is_whole : FuncData} {f_is_box : Addr} {d_is_box : FuncData}
    (F : Fun K "is_errand" "is_errand" s_is_errand f fd)
    (c_is_whole : Cal P w K mg base 1 f_is_whole d_is_whole "is_whole" ["thing"] 1 m_is_whole)
    (c_is_box : Cal P w K mg base 2 f_is_box d_is_box "is_box" ["thing"] 1 m_is_box)
    (z_isinstance : mg "isinstance" = none)
    (z_list : mg "list" = none)
    (z_all : mg "all" = none)
    (i_list : IsT K .lst) :
    FnOk P w K mg base CX0 3 f fd ["home", "last", "boxes"] (spD K 3 m_is_errand) := by
  have h := fnD (P := P) (w := w) (mg := mg) (base := base) (k := 2) (body := B_is_errand) F S_is_errand (fun cdv A outer s H E hr =>
      (xss_cons (xs_if (XW.toT (xw_or (xt_not (xt_val (XE.toV (xc c_is_whole hr (xa_cons (vD 0) xa_nil))))) (xw_or (xt_not (xt_val (XE.toV (xc c_is_whole hr (xa_cons (vD 1) xa_nil))))) (xw_or1 (xt_not (xt_val (XE.toV (xe_isi (vV 2) i_list rfl z_isinstance rfl z_list bt_list)))))))) (xss_one (xs_ret (XD.toE xd_bl))) xss_nil)
      (xss_one (xs_ret (xe_blt (call_allL rfl) cd_all rfl z_all bt_all (xva_cons (XE.toV (xe_comp rfl (blk ["box"] [] [] rfl (by decide +kernel) (by decide +kernel) rfl trivial) (xi_seqS (vD 2)) (tame_n 0) (fun _ _ _ _ => ⟨(xg_name (i := 0) (show ((["box"] : List Str) ++ ([] : List Str) : List Str).Nodup from by decide +kernel) rfl (Or.inl rfl)), xts_nil, (XE.toD (xc c_is_box hr (xa_cons (vD 0) xa_nil)))⟩))) xva_nil))))))
  exact h
def B_is_way : FS := (sRet (eOf (vAnd (dOf (fCall m_is_whole (aCons (dOf (fVar 0)) aNil))) (dOf (fOpE (oInT false) (vOf (fVar 0)) (fTup (aCons (fC (.int 1)) (aCons (dOf (fNeg (fC (.int 1)))) aNil))))))))
def m_is_way : List D → Option O := mir 1 B_is_way
abbrev s_is_way : Stmt := top 52
theorem S_is_way : FnScope ["thing"] ["thing"] (defScope s_is_way) := ⟨rfl, rfl, rfl, by decide +kernel, rfl, by decide +kernel, by decide +kernel⟩
theorem ok_is_way {f_is_whole : Addr} {d_is_whole : FuncData}
    (F : Fun K "is_way" "is_way" s_is_way f fd)
    (c_is_whole : Cal P w K mg base 1 f_is_whole d_is_whole "is_whole" ["thing"] 1 m_is_whole) :
    FnOk P w K mg base CX0 2 f fd ["thing"] (spD K 1 m_is_way) := by
  have h := fnD (P := P) (w := w) (mg := mg) (base := base) (k := 1) (body := B_is_way) F S_is_way (fun cdv A outer s H E hr =>
      (xss_one (xs_ret (XD.toE (xd_and (XE.toD (xc c_is_whole hr (xa_cons (vD 0) xa_nil))) (xd_one (XE.toD (xe_inT (vV 0) (XD.toV (xd_tup (xa_cons xd_int (xa_cons (XE.toD (xe_neg (XD.toV xd_int))) xa_nil))))))))))))
  exact h
def B_has_place : FS := (sRet (eOf (vAnd (dOf (fCall m_is_whole (aCons (dOf (fVar 1)) aNil))) (vAnd (dOf (fOpE oGe (vOf (fVar 1)) (fC (.int 0)))) (dOf (fOpE oLt (vOf (fVar 1)) (vOf (fVar 0))))))))
def m_has_place : List D → Option O := mir 2 B_has_place
abbrev s_has_place : Stmt := top 53
theorem S_has_place : FnScope ["size", "thing"] ["size", "thing"] (defScope s_has_place) := ⟨rfl, rfl, rfl, by decide +kernel, rfl, by decide +kernel, by decide +kernel⟩
theorem ok_has_place {f_is_whole : Addr} {d_is_whole : FuncData}
    (F : Fun K "has_place" "has_place" s_has_place f fd)
    (c_is_whole : Cal P w K mg base 1 f_is_whole d_is_whole "is_whole" ["thing"] 1 m_is_whole) :
    FnOk P w K mg base CX0 2 f fd ["size", "thing"] (spD K 2 m_has_place) := by
  have h := fnD (P := P) (w := w) (mg := mg) (base := base) (k := 1) (body := B_has_place) F S_has_place (fun cdv A outer s H E hr =>
      (xss_one (xs_ret (XD.toE (xd_and (XE.toD (xc c_is_whole hr (xa_cons (vD 1) xa_nil))) (xd_and (XE.toD (xe_ge (vV 1) (XD.toV xd_int))) (xd_one (XE.toD (xe_lt (vV 1) (vV 0))))))))))
  exact h
def B_is_ring_box : FS := (sSeq (sIf (tOrF (tNotF (tTru (vOf (fIsi .tup (vOf (fVar 1)))))) (tOf (fOpE (oEq true) (vOf (fBlt bLenS (aCons (vOf (fVar 1)) aNil))) (fC (.int 3))))) (sRet (eOf (fC (.bl false)))) sNil)
    (sRet (eOf (vAnd (dOf (fCall m_has_place (aCons (dOf (fVar 0)) (aCons (dOf (fOpE oIxS (vOf (fVar 1)) (fC (.int 0)))) aNil)))) (vAnd (dOf (fCall m_has_place (aCons (dOf (fVar 0)) (aCons (dOf (fOpE oIxS (vOf (fVar 1)) (fC (.int 1)))) aNil)))) (dOf (fCall m_is_way (aCons (dOf (fOpE oIxS (vOf (fVar 1)) (fC (.int 2)))) aNil))))))))
def m_is_ring_box : List D → Option O := mir 2 B_is_ring_box
abbrev s_is_ring_box : Stmt := top 54
theorem S_is_ring_box : FnScope ["size", "thing"] ["size", "thing"] (defScope s_is_ring_box) := ⟨rfl, rfl, rfl, by decide +kernel, rfl, by decide +kernel, by decide +kernel⟩
theorem ok_is_ring_box {f_is_way : Addr} {d_is_way : FuncData} {f_has_place : Addr} {d_has_place : FuncData}
    (F : Fun K "is_ring_box" "is_ring_box" s_is_ring_box f fd)
    (c_is_way : Cal P w K mg base 2 f_is_way d_is_way "is_way" ["thing"] 1 m_is_way)
    (c_has_place : Cal P w K mg base 2 f_has_place d_has_place "has_place" ["size", "thing"] 2 m_has_place)
    (z_len : mg "len" = none)
    (z_isinstance : mg "isinstance" = none)
    (z_tuple : mg "tuple" = none)
    (i_tuple : IsT K .tup) :
    FnOk P w K mg base CX0 3 f fd ["size", "thing"] (spD K 2 m_is_ring_box) := by
  have h := fnD (P := P) (w := w) (mg := mg) (base := base) (k := 2) (body := B_is_ring_box) F S_is_ring_box (fun cdv A outer s H E hr =>
      (xss_cons (xs_if (XW.toT (xw_or (xt_not (xt_val (XE.toV (xe_isi (vV 1) i_tuple rfl z_isinstance rfl z_tuple bt_tuple)))) (xw_or1 (xt_ne hr.units (XE.toV (xe_blt (call_len_str.or call_len_seq) cd_lenS rfl z_len bt_len (xva_cons (vV 1) xva_nil))) (XD.toV xd_int))))) (xss_one (xs_ret (XD.toE xd_bl))) xss_nil)
      (xss_one (xs_ret (XD.toE (xd_and (XE.toD (xc c_has_place hr (xa_cons (vD 0) (xa_cons (XE.toD (xe_itemS (vV 1) (XD.toV xd_int))) xa_nil)))) (xd_and (XE.toD (xc c_has_place hr (xa_cons (vD 0) (xa_cons (XE.toD (xe_itemS (vV 1) (XD.toV xd_int))) xa_nil)))) (xd_one (XE.toD (xc c_is_way hr (xa_cons (XE.toD (xe_itemS (vV 1) (XD.toV xd_int))) xa_nil)))))))))))
  exact h
def E1_is_ring : FD := (dOf (fCall m_is_ring_box (aCons (dOf (fVar 1)) (aCons (dOf (fVar 0)) aNil))))
def B_is_ring : FS := (sSeq (sIf (tOrF (tNotF (tTru (vOf (fCall m_is_whole (aCons (dOf (fVar 0)) aNil))))) (tOrF (tNotF (tTru (vOf (fCall m_has_place (aCons (dOf (fVar 0)) (aCons (dOf (fVar 1)) aNil)))))) (tNotF (tTru (vOf (fCall m_has_place (aCons (dOf (fVar 0)) (aCons (dOf (fVar 2)) aNil)))))))) (sRet (eOf (fC (.bl false)))) sNil)
    (sRet (eOf (vAnd (dOf (fIsi .lst (vOf (fVar 3)))) (dOf (fBlt bAll (aCons (vOf (fComp 1 [0] (iSeqS (dOf (fVar 3))) (gN 0) tTrue E1_is_ring)) aNil)))))))
def m_is_ring : List D → Option O := mir 4 B_is_ring
abbrev s_is_ring : Stmt := top 55
theorem S_is_ring : FnScope ["size", "home", "last", "boxes"] ["size", "home", "last", "boxes"] (defScope s_is_ring) := ⟨rfl, rfl, rfl, by decide +kernel, rfl, by decide +kernel, by decide +kernel⟩
theorem ok_is_ring {f_has_place : Addr} {d_has_place : FuncData} {f_is_whole : Addr} {d_is_whole : FuncData} {f_is_ring_box : Addr} {d_is_ring_box : FuncData}
    (F : Fun K "is_ring" "is_ring" s_is_ring f fd)
    (c_has_place : Cal P w K mg base 2 f_has_place d_has_place "has_place" ["size", "thing"] 2 m_has_place)
    (c_is_whole : Cal P w K mg base 1 f_is_whole d_is_whole "is_whole" ["thing"] 1 m_is_whole)
    (c_is_ring_box : Cal P w K mg base 3 f_is_ring_box d_is_ring_box "is_ring_box" ["size", "thing"] 2 m_is_ring_box)
    (z_all : mg "all" = none)
    (z_isinstance : mg "isinstance" = none)
    (z_list : mg "list" = none)
    (i_list : IsT K .lst) :
    FnOk P w K mg base CX0 4 f fd ["size", "home", "last", "boxes"] (spD K 4 m_is_ring) := by
  have h := fnD (P := P) (w := w) (mg := mg) (base := base) (k := 3) (body := B_is_ring) F S_is_ring (fun cdv A outer s H E hr =>
      (xss_cons (xs_if (XW.toT (xw_or (xt_not (xt_val (XE.toV (xc c_is_whole hr (xa_cons (vD 0) xa_nil))))) (xw_or (xt_not (xt_val (XE.toV (xc c_has_place hr (xa_cons (vD 0) (xa_cons (vD 1) xa_nil)))))) (xw_or1 (xt_not (xt_val (XE.toV (xc c_has_place hr (xa_cons (vD 0) (xa_cons (vD 2) xa_nil)))))))))) (xss_one (xs_ret (XD.toE xd_bl))) xss_nil)
      (xss_one (xs_ret (XD.toE (xd_and (XE.toD (xe_isi (vV 3) i_list rfl z_isinstance rfl z_list bt_list)) (xd_one (XE.toD (xe_blt (call_allL rfl) cd_all rfl z_all bt_all (xva_cons (XE.toV (xe_comp rfl (blk ["box"] ["size"] [0] rfl (by decide +kernel) (by decide +kernel) rfl ⟨⟨rfl, (by first | exact Or.inl rfl | exact Or.inr rfl), rfl⟩, trivial⟩) (xi_seqS (vD 3)) (tame_n 0) (fun _ _ _ _ => ⟨(xg_name (i := 0) (show ((["box"] : List Str) ++ (["size"] : List Str) : List Str).Nodup from by decide +kernel) rfl (Or.inl rfl)), xts_nil, (XE.toD (xc c_is_ring_box hr (xa_cons (vD 1) (xa_cons (vD 0) xa_nil))))⟩))) xva_nil))))))))))
  exact h
def E1_is_yard : FD := (dOf (fOpE oLe (vOf (fVar 1)) (vOf (fBlt bMinT (aCons (vOf (fVar 0)) aNil)))))
def B_is_yard : FS := (sRet (eOf (vAnd (dOf (fCall m_is_errand (aCons (dOf (fVar 0)) (aCons (dOf (fVar 0)) (aCons (dOf (fVar 1)) aNil))))) (dOf (fBlt bAll (aCons (vOf (fComp 1 [0] (iSeqS (dOf (fVar 1))) (gN 0) tTrue E1_is_yard)) aNil))))))
def m_is_yard : List D → Option O := mir 2 B_is_yard
abbrev s_is_yard : Stmt := top 90
theorem S_is_yard : FnScope ["gate", "boxes"] ["gate", "boxes"] (defScope s_is_yard) := ⟨rfl, rfl, rfl, by decide +kernel, rfl, by decide +kernel, by decide +kernel⟩
theorem ok_is_yard {f_is_errand : Addr} {d_is_errand : FuncData}
    (F : Fun K "is_yard" "is_yard" s_is_yard f fd)
    (c_is_errand : Cal P w K mg base 3 f_is_errand d_is_errand "is_errand" ["home", "last", "boxes"] 3 m_is_errand)
    (z_min : mg "min" = none)
    (z_all : mg "all" = none) :
    FnOk P w K mg base CX0 4 f fd ["gate", "boxes"] (spD K 2 m_is_yard) := by
  have h := fnD (P := P) (w := w) (mg := mg) (base := base) (k := 3) (body := B_is_yard) F S_is_yard (fun cdv A outer s H E hr =>
      (xss_one (xs_ret (XD.toE (xd_and (XE.toD (xc c_is_errand hr (xa_cons (vD 0) (xa_cons (vD 0) (xa_cons (vD 1) xa_nil))))) (xd_one (XE.toD (xe_blt (call_allL rfl) cd_all rfl z_all bt_all (xva_cons (XE.toV (xe_comp rfl (blk ["box"] ["gate"] [0] rfl (by decide +kernel) (by decide +kernel) rfl ⟨⟨rfl, (by first | exact Or.inl rfl | exact Or.inr rfl), rfl⟩, trivial⟩) (xi_seqS (vD 1)) (tame_n 0) (fun _ _ _ _ => ⟨(xg_name (i := 0) (show ((["box"] : List Str) ++ (["gate"] : List Str) : List Str).Nodup from by decide +kernel) rfl (Or.inl rfl)), xts_nil, (XE.toD (xe_le (vV 1) (XE.toV (xe_blt (call_minT rfl) cd_minT rfl z_min bt_min (xva_cons (vV 0) xva_nil)))))⟩))) xva_nil)))))))))
  exact h
def E1_is_number : FD := (dOf (fOpE (oInT false) (vOf (fVar 0)) (fC (.str "0123456789"))))
def B_is_number : FS := (sSeq (sSet 1 (eOf (dOf (fIte (tTru (vOf (fOpE oStarts (vOf (fVar 0)) (fC (.str "-"))))) (fSlS (vOf (fVar 0)) (pAt (fC (.int 1))) pNo) (fVar 0)))))
    (sSeq (sIf (tOrF (tOf (fOpE oLt (vOf (fBlt bLenS (aCons (vOf (fVar 1)) aNil))) (fC (.int 1)))) (tOf (fOpE oGt (vOf (fBlt bLenS (aCons (vOf (fVar 1)) aNil))) (fC (.int 40))))) (sRet (eOf (fC (.bl false)))) sNil)
    (sSeq (sIf (tNotF (tTru (vOf (fBlt bAll (aCons (vOf (fComp 1 [] (iSeqS (dOf (fVar 1))) (gN 0) tTrue E1_is_number)) aNil))))) (sRet (eOf (fC (.bl false)))) sNil)
    (sRet (eOf (vOr (dOf (fOpE (oEq false) (vOf (fVar 0)) (fC (.str "0")))) (vNot (dOf (fOpE oStarts (vOf (fVar 1)) (fC (.str "0")))))))))))
def m_is_number : List D → Option O := mir 2 B_is_number
abbrev s_is_number : Stmt := top 99
theorem S_is_number : FnScope ["word", "figures"] ["word"] (defScope s_is_number) := ⟨rfl, rfl, rfl, by decide +kernel, rfl, by decide +kernel, by decide +kernel⟩
theorem ok_is_number 
    (F : Fun K "is_number" "is_number" s_is_number f fd)
    (g_FIGURES : ∃ t, mg "FIGURES" = some (.str "0123456789" t))
    (z_len : mg "len" = none)
    (z_all : mg "all" = none) :
    FnOk P w K mg base CX0 1 f fd ["word"] (spD K 1 m_is_number) := by
  have h := fnD (P := P) (w := w) (mg := mg) (base := base) (k := 0) (body := B_is_number) F S_is_number (fun cdv A outer s H E hr =>
      (xss_cons (xs_set (i := 1) S_is_number.nd rfl (Or.inl rfl) (XD.toE (XE.toD (xe_ite (xt_val (XE.toV (xe_starts (vV 0) (XD.toV xd_str)))) (xe_sliceS (vV 0) (xo_some (XD.toV xd_int)) xo_none) (vE 0)))))
      (xss_cons (xs_if (XW.toT (xw_or (xt_lt (XE.toV (xe_blt (call_len_str.or call_len_seq) cd_lenS rfl z_len bt_len (xva_cons (vV 1) xva_nil))) (XD.toV xd_int)) (xw_or1 (xt_gt (XE.toV (xe_blt (call_len_str.or call_len_seq) cd_lenS rfl z_len bt_len (xva_cons (vV 1) xva_nil))) (XD.toV xd_int))))) (xss_one (xs_ret (XD.toE xd_bl))) xss_nil)
      (xss_cons (xs_if (xt_not (xt_val (XE.toV (xe_blt (call_allL rfl) cd_all rfl z_all bt_all (xva_cons (XE.toV (xe_comp rfl (blk ["sign"] [] [] rfl (by decide +kernel) (by decide +kernel) rfl trivial) (xi_seqS (vD 1)) (tame_n 0) (fun _ _ _ _ => ⟨(xg_name (i := 0) (show ((["sign"] : List Str) ++ ([] : List Str) : List Str).Nodup from by decide +kernel) rfl (Or.inl rfl)), xts_nil, (XE.toD (xe_inT (vV 0) (XD.toV (xd_glob rfl g_FIGURES))))⟩))) xva_nil))))) (xss_one (xs_ret (XD.toE xd_bl))) xss_nil)
      (xss_one (xs_ret (XD.toE (xd_or (XE.toD (xe_eq hr.units (vV 0) (XD.toV xd_str))) (xd_one (xd_not (XE.toD (xe_starts (vV 1) (XD.toV xd_str)))))))))))))
  exact h
def E1_is_pair : FD := (dOf (fCall m_is_number (aCons (dOf (fVar 0)) aNil)))
def B_is_pair : FS := (sSeq (sSet 1 (eOf (dOf (fOpE oSplit (vOf (fVar 0)) (fC (.str ">"))))))
    (sRet (eOf (vAnd (dOf (fOpE (oEq false) (vOf (fBlt bLenS (aCons (vOf (fVar 1)) aNil))) (fC (.int 2)))) (dOf (fBlt bAll (aCons (vOf (fComp 1 [] (iSeqS (dOf (fVar 1))) (gN 0) tTrue E1_is_pair)) aNil)))))))
def m_is_pair : List D → Option O := mir 2 B_is_pair
abbrev s_is_pair : Stmt := top 100
theorem S_is_pair : FnScope ["word", "ends"] ["word"] (defScope s_is_pair) := ⟨rfl, rfl, rfl, by decide +kernel, rfl, by decide +kernel, by decide +kernel⟩
theorem ok_is_pair {f_is_number : Addr} {d_is_number : FuncData}
    (F : Fun K "is_pair" "is_pair" s_is_pair f fd)
    (c_is_number : Cal P w K mg base 1 f_is_number d_is_number "is_number" ["word"] 1 m_is_number)
    (z_all : mg "all" = none)
    (z_len : mg "len" = none) :
    FnOk P w K mg base CX0 2 f fd ["word"] (spD K 1 m_is_pair) := by
  have h := fnD (P := P) (w := w) (mg := mg) (base := base) (k := 1) (body := B_is_pair) F S_is_pair (fun cdv A outer s H E hr =>
      (xss_cons (xs_set (i := 1) S_is_pair.nd rfl (Or.inl rfl) (XD.toE (XE.toD (xe_split (vV 0) (XD.toV xd_str)))))
      (xss_one (xs_ret (XD.toE (xd_and (XE.toD (xe_eq hr.units (XE.toV (xe_blt (call_len_str.or call_len_seq) cd_lenS rfl z_len bt_len (xva_cons (vV 1) xva_nil))) (XD.toV xd_int))) (xd_one (XE.toD (xe_blt (call_allL rfl) cd_all rfl z_all bt_all (xva_cons (XE.toV (xe_comp rfl (blk ["end"] [] [] rfl (by decide +kernel) (by decide +kernel) rfl trivial) (xi_seqS (vD 1)) (tame_n 0) (fun _ _ _ _ => ⟨(xg_name (i := 0) (show ((["end"] : List Str) ++ ([] : List Str) : List Str).Nodup from by decide +kernel) rfl (Or.inl rfl)), xts_nil, (XE.toD (xc c_is_number hr (xa_cons (vD 0) xa_nil)))⟩))) xva_nil))))))))))
  exact h
def B_is_box_word : FS := (sSeq (sIf (tOf (fOpE (oEq false) (vOf (fVar 0)) (fC (.str "ring")))) (sRet (eOf (vAnd (dOf (fOpE (oInT false) (vOf (fSlS (vOf (fVar 1)) (pAt (vOf (fNeg (fC (.int 1))))) pNo)) (fTup (aCons (fC (.str "+")) (aCons (fC (.str "-")) aNil))))) (dOf (fCall m_is_pair (aCons (dOf (fSlS (vOf (fVar 1)) pNo (pAt (vOf (fNeg (fC (.int 1))))))) aNil)))))) sNil)
    (sRet (fCall m_is_pair (aCons (dOf (fVar 1)) aNil))))
def m_is_box_word : List D → Option O := mir 2 B_is_box_word
abbrev s_is_box_word : Stmt := top 101
theorem S_is_box_word : FnScope ["kind", "word"] ["kind", "word"] (defScope s_is_box_word) := ⟨rfl, rfl, rfl, by decide +kernel, rfl, by decide +kernel, by decide +kernel⟩
theorem ok_is_box_word {f_is_pair : Addr} {d_is_pair : FuncData}
    (F : Fun K "is_box_word" "is_box_word" s_is_box_word f fd)
    (c_is_pair : Cal P w K mg base 2 f_is_pair d_is_pair "is_pair" ["word"] 1 m_is_pair) :
    FnOk P w K mg base CX0 3 f fd ["kind", "word"] (spD K 2 m_is_box_word) := by
  have h := fnD (P := P) (w := w) (mg := mg) (base := base) (k := 2) (body := B_is_box_word) F S_is_box_word (fun cdv A outer s H E hr =>
      (xss_cons (xs_if (xt_eq hr.units (vV 0) (XD.toV xd_str)) (xss_one (xs_ret (XD.toE (xd_and (XE.toD (xe_inT (XE.toV (xe_sliceS (vV 1) (xo_some (XE.toV (xe_neg (XD.toV xd_int)))) xo_none)) (XD.toV (xd_tup (xa_cons xd_str (xa_cons xd_str xa_nil)))))) (xd_one (XE.toD (xc c_is_pair hr (xa_cons (XE.toD (xe_sliceS (vV 1) xo_none (xo_some (XE.toV (xe_neg (XD.toV xd_int)))))) xa_nil)))))))) xss_nil)
      (xss_one (xs_ret (xc c_is_pair hr (xa_cons (vD 1) xa_nil))))))
  exact h
def E1_read_pair : FD := (dOf (fBlt bIntS (aCons (vOf (fVar 0)) aNil)))
def B_read_pair : FS := (sRet (fBlt bTuple (aCons (vOf (fComp 1 [] (iSeqS (dOf (fOpE oSplit (vOf (fVar 0)) (fC (.str ">"))))) (gN 0) tTrue E1_read_pair)) aNil)))
def m_read_pair : List D → Option O := mir 1 B_read_pair
abbrev s_read_pair : Stmt := top 102
theorem S_read_pair : FnScope ["word"] ["word"] (defScope s_read_pair) := ⟨rfl, rfl, rfl, by decide +kernel, rfl, by decide +kernel, by decide +kernel⟩
theorem ok_read_pair 
    (F : Fun K "read_pair" "read_pair" s_read_pair f fd)
    (z_int : mg "int" = none)
    (z_tuple : mg "tuple" = none) :
    FnOk P w K mg base CX0 1 f fd ["word"] (spD K 1 m_read_pair) := by
  have h := fnD (P := P) (w := w) (mg := mg) (base := base) (k := 0) (body := B_read_pair) F S_read_pair (fun cdv A outer s H E hr =>
      (xss_one (xs_ret (xe_ty call_tuple_of cd_tuple rfl z_tuple bt_tuple (xva_cons (XE.toV (xe_comp rfl (blk ["end"] [] [] rfl (by decide +kernel) (by decide +kernel) rfl trivial) (xi_seqS (XE.toD (xe_split (vV 0) (XD.toV xd_str)))) (tame_n 0) (fun _ _ _ _ => ⟨(xg_name (i := 0) (show ((["end"] : List Str) ++ ([] : List Str) : List Str).Nodup from by decide +kernel) rfl (Or.inl rfl)), xts_nil, (XE.toD (xe_ty (call_intS.or call_int1) cd_intS rfl z_int bt_int (xva_cons (vV 0) xva_nil)))⟩))) xva_nil)))))
  exact h
def B_read_box : FS := (sSeq (sIf (tOf (fOpE (oEq false) (vOf (fVar 0)) (fC (.str "ring")))) (sSeq (sSet 2 (eOf (dOf (fIte (tOf (fOpE (oEq false) (vOf (fOpE oIxS (vOf (fVar 1)) (vOf (fNeg (fC (.int 1)))))) (fC (.str "+")))) (eOf (fC (.int 1))) (fNeg (fC (.int 1)))))))
    (sRet (fOpE oAddS (vOf (fCall m_read_pair (aCons (dOf (fSlS (vOf (fVar 1)) pNo (pAt (vOf (fNeg (fC (.int 1))))))) aNil))) (fTup (aCons (dOf (fVar 2)) aNil))))) sNil)
    (sRet (fCall m_read_pair (aCons (dOf (fVar 1)) aNil))))
def m_read_box : List D → Option O := mir 3 B_read_box
abbrev s_read_box : Stmt := top 103
theorem S_read_box : FnScope ["kind", "word", "way"] ["kind", "word"] (defScope s_read_box) := ⟨rfl, rfl, rfl, by decide +kernel, rfl, by decide +kernel, by decide +kernel⟩
theorem ok_read_box {f_read_pair : Addr} {d_read_pair : FuncData}
    (F : Fun K "read_box" "read_box" s_read_box f fd)
    (c_read_pair : Cal P w K mg base 1 f_read_pair d_read_pair "read_pair" ["word"] 1 m_read_pair) :
    FnOk P w K mg base CX0 2 f fd ["kind", "word"] (spD K 2 m_read_box) := by
  have h := fnD (P := P) (w := w) (mg := mg) (base := base) (k := 1) (body := B_read_box) F S_read_box (fun cdv A outer s H E hr =>
      (xss_cons (xs_if (xt_eq hr.units (vV 0) (XD.toV xd_str)) (xss_cons (xs_set (i := 2) S_read_box.nd rfl (Or.inl rfl) (XD.toE (XE.toD (xe_ite (xt_eq hr.units (XE.toV (xe_itemS (vV 1) (XE.toV (xe_neg (XD.toV xd_int))))) (XD.toV xd_str)) (XD.toE xd_int) (xe_neg (XD.toV xd_int))))))
      (xss_one (xs_ret (xe_addS (XE.toV (xc c_read_pair hr (xa_cons (XE.toD (xe_sliceS (vV 1) xo_none (xo_some (XE.toV (xe_neg (XD.toV xd_int)))))) xa_nil))) (XD.toV (xd_tup (xa_cons (vD 2) xa_nil))))))) xss_nil)
      (xss_one (xs_ret (xc c_read_pair hr (xa_cons (vD 1) xa_nil))))))
  exact h
def B_is_possible : FS := (sSeq (sIf (tOf (fOpE (oEq false) (vOf (fOpE oIxS (vOf (fVar 0)) (fC (.int 0)))) (fC (.str "ring")))) (sRet (fCall m_is_ring (aCons (dOf (fOpE oIxS (vOf (fVar 0)) (fC (.int 1)))) (aCons (dOf (fOpE oIxS (vOf (fVar 0)) (fC (.int 2)))) (aCons (dOf (fOpE oIxS (vOf (fVar 0)) (fC (.int 3)))) (aCons (dOf (fOpE oIxS (vOf (fVar 0)) (fC (.int 4)))) aNil)))))) sNil)
    (sSeq (sIf (tOf (fOpE (oEq false) (vOf (fOpE oIxS (vOf (fVar 0)) (fC (.int 0)))) (fC (.str "gate")))) (sRet (fCall m_is_yard (aCons (dOf (fOpE oIxS (vOf (fVar 0)) (fC (.int 1)))) (aCons (dOf (fOpE oIxS (vOf (fVar 0)) (fC (.int 2)))) aNil)))) sNil)
    (sRet (fCall m_is_errand (aCons (dOf (fOpE oIxS (vOf (fVar 0)) (fC (.int 1)))) (aCons (dOf (fOpE oIxS (vOf (fVar 0)) (fC (.int 2)))) (aCons (dOf (fOpE oIxS (vOf (fVar 0)) (fC (.int 3)))) aNil)))))))
def m_is_possible : List D → Option O := mir 1 B_is_possible
abbrev s_is_possible : Stmt := top 104
theorem S_is_possible : FnScope ["thing"] ["thing"] (defScope s_is_possible) := ⟨rfl, rfl, rfl, by decide +kernel, rfl, by decide +kernel, by decide +kernel⟩
theorem ok_is_possible {f_is_ring : Addr} {d_is_ring : FuncData} {f_is_yard : Addr} {d_is_yard : FuncData} {f_is_errand : Addr} {d_is_errand : FuncData}
    (F : Fun K "is_possible" "is_possible" s_is_possible f fd)
    (c_is_ring : Cal P w K mg base 4 f_is_ring d_is_ring "is_ring" ["size", "home", "last", "boxes"] 4 m_is_ring)
    (c_is_yard : Cal P w K mg base 4 f_is_yard d_is_yard "is_yard" ["gate", "boxes"] 2 m_is_yard)
    (c_is_errand : Cal P w K mg base 3 f_is_errand d_is_errand "is_errand" ["home", "last", "boxes"] 3 m_is_errand) :
    FnOk P w K mg base CX0 5 f fd ["thing"] (spD K 1 m_is_possible) := by
  have h := fnD (P := P) (w := w) (mg := mg) (base := base) (k := 4) (body := B_is_possible) F S_is_possible (fun cdv A outer s H E hr =>
      (xss_cons (xs_if (xt_eq hr.units (XE.toV (xe_itemS (vV 0) (XD.toV xd_int))) (XD.toV xd_str)) (xss_one (xs_ret (xc c_is_ring hr (xa_cons (XE.toD (xe_itemS (vV 0) (XD.toV xd_int))) (xa_cons (XE.toD (xe_itemS (vV 0) (XD.toV xd_int))) (xa_cons (XE.toD (xe_itemS (vV 0) (XD.toV xd_int))) (xa_cons (XE.toD (xe_itemS (vV 0) (XD.toV xd_int))) xa_nil))))))) xss_nil)
      (xss_cons (xs_if (xt_eq hr.units (XE.toV (xe_itemS (vV 0) (XD.toV xd_int))) (XD.toV xd_str)) (xss_one (xs_ret (xc c_is_yard hr (xa_cons (XE.toD (xe_itemS (vV 0) (XD.toV xd_int))) (xa_cons (XE.toD (xe_itemS (vV 0) (XD.toV xd_int))) xa_nil))))) xss_nil)
      (xss_one (xs_ret (xc c_is_errand hr (xa_cons (XE.toD (xe_itemS (vV 0) (XD.toV xd_int))) (xa_cons (XE.toD (xe_itemS (vV 0) (XD.toV xd_int))) (xa_cons (XE.toD (xe_itemS (vV 0) (XD.toV xd_int))) xa_nil)))))))))
  exact h
def E1_tells : FD := (dOf (fCall m_is_number (aCons (dOf (fVar 0)) aNil)))
def E2_tells : FD := (dOf (fCall m_is_box_word (aCons (dOf (fVar 1)) (aCons (dOf (fVar 0)) aNil))))
def B_tells : FS := (sSeq (sSet 1 (eOf (dOf (fOpE oIxS (vOf (fVar 0)) (fC (.int 0))))))
    (sSeq (sIf (tOf (inG true [("rail", 2), ("gate", 1), ("ring", 3)] (dOf (fVar 1)))) (sRet (eOf (fC (.bl false)))) sNil)
    (sSeq (sSet 2 (eOf (dOf (fOpE oAddS (fC (.int 1)) (vOf (ixG [("rail", 2), ("gate", 1), ("ring", 3)] (dOf (fVar 1))))))))
    (sSeq (sIf (tOrF (tOf (fOpE oLt (vOf (fBlt bLenS (aCons (vOf (fVar 0)) aNil))) (vOf (fVar 2)))) (tNotF (tTru (vOf (fBlt bAll (aCons (vOf (fComp 1 [] (iSeqS (dOf (fSlS (vOf (fVar 0)) (pAt (fC (.int 1))) (pAt (vOf (fVar 2)))))) (gN 0) tTrue E1_tells)) aNil)))))) (sRet (eOf (fC (.bl false)))) sNil)
    (sRet (fBlt bAll (aCons (vOf (fComp 1 [1] (iSeqS (dOf (fSlS (vOf (fVar 0)) (pAt (vOf (fVar 2))) pNo))) (gN 0) tTrue E2_tells)) aNil)))))))
def m_tells : List D → Option O := mir 3 B_tells
abbrev s_tells : Stmt := top 105
theorem S_tells : FnScope ["words", "kind", "behind"] ["words"] (defScope s_tells) := ⟨rfl, rfl, rfl, by decide +kernel, rfl, by decide +kernel, by decide +kernel⟩
theorem ok_tells {f_is_number : Addr} {d_is_number : FuncData} {f_is_box_word : Addr} {d_is_box_word : FuncData} {u_HEADS : Value}
    (F : Fun K "tells" "tells" s_tells f fd)
    (c_is_number : Cal P w K mg base 1 f_is_number d_is_number "is_number" ["word"] 1 m_is_number)
    (c_is_box_word : Cal P w K mg base 3 f_is_box_word d_is_box_word "is_box_word" ["kind", "word"] 2 m_is_box_word)
    (g_HEADS : mg "HEADS" = some u_HEADS)
    (T_HEADS : TabK K u_HEADS [("rail", 2), ("gate", 1), ("ring", 3)])
    (z_all : mg "all" = none)
    (z_len : mg "len" = none) :
    FnOk P w K mg base CX0 4 f fd ["words"] (spD K 1 m_tells) := by
  have h := fnD (P := P) (w := w) (mg := mg) (base := base) (k := 3) (body := B_tells) F S_tells (fun cdv A outer s H E hr =>
      (xss_cons (xs_set (i := 1) S_tells.nd rfl (Or.inr rfl) (XD.toE (XE.toD (xe_itemS (vV 0) (XD.toV xd_int)))))
      (xss_cons (xs_if (xt_notinG (vD 1) rfl g_HEADS T_HEADS) (xss_one (xs_ret (XD.toE xd_bl))) xss_nil)
      (xss_cons (xs_set (i := 2) S_tells.nd rfl (Or.inl rfl) (XD.toE (XE.toD (xe_addS (XD.toV xd_int) (XE.toV (xe_itemG (vD 1) rfl g_HEADS T_HEADS))))))
      (xss_cons (xs_if (XW.toT (xw_or (xt_lt (XE.toV (xe_blt (call_len_str.or call_len_seq) cd_lenS rfl z_len bt_len (xva_cons (vV 0) xva_nil))) (vV 2)) (xw_or1 (xt_not (xt_val (XE.toV (xe_blt (call_allL rfl) cd_all rfl z_all bt_all (xva_cons (XE.toV (xe_comp rfl (blk ["word"] [] [] rfl (by decide +kernel) (by decide +kernel) rfl trivial) (xi_seqS (XE.toD (xe_sliceS (vV 0) (xo_some (XD.toV xd_int)) (xo_some (vV 2))))) (tame_n 0) (fun _ _ _ _ => ⟨(xg_name (i := 0) (show ((["word"] : List Str) ++ ([] : List Str) : List Str).Nodup from by decide +kernel) rfl (Or.inl rfl)), xts_nil, (XE.toD (xc c_is_number hr (xa_cons (vD 0) xa_nil)))⟩))) xva_nil)))))))) (xss_one (xs_ret (XD.toE xd_bl))) xss_nil)
      (xss_one (xs_ret (xe_blt (call_allL rfl) cd_all rfl z_all bt_all (xva_cons (XE.toV (xe_comp rfl (blk ["word"] ["kind"] [1] rfl (by decide +kernel) (by decide +kernel) rfl ⟨⟨rfl, (by first | exact Or.inl rfl | exact Or.inr rfl), rfl⟩, trivial⟩) (xi_seqS (XE.toD (xe_sliceS (vV 0) (xo_some (vV 2)) xo_none))) (tame_n 0) (fun _ _ _ _ => ⟨(xg_name (i := 0) (show ((["word"] : List Str) ++ (["kind"] : List Str) : List Str).Nodup from by decide +kernel) rfl (Or.inl rfl)), xts_nil, (XE.toD (xc c_is_box_word hr (xa_cons (vD 1) (xa_cons (vD 0) xa_nil))))⟩))) xva_nil)))))))))
  exact h
def E1_read_words : FD := (dOf (fBlt bIntS (aCons (vOf (fVar 0)) aNil)))
def E2_read_words : FD := (dOf (fCall m_read_box (aCons (dOf (fVar 1)) (aCons (dOf (fVar 0)) aNil))))
def B_read_words : FS := (sSeq (sSet 1 (eOf (dOf (fOpE oIxS (vOf (fVar 0)) (fC (.int 0))))))
    (sSeq (sSet 2 (eOf (dOf (fOpE oAddS (fC (.int 1)) (vOf (ixG [("rail", 2), ("gate", 1), ("ring", 3)] (dOf (fVar 1))))))))
    (sSeq (sSet 3 (eOf (dOf (fBlt bTuple (aCons (vOf (fComp 1 [] (iSeqS (dOf (fSlS (vOf (fVar 0)) (pAt (fC (.int 1))) (pAt (vOf (fVar 2)))))) (gN 0) tTrue E1_read_words)) aNil)))))
    (sRet (fOpE oAddS (vOf (fOpE oAddS (fTup (aCons (dOf (fVar 1)) aNil)) (vOf (fVar 3)))) (fTup (aCons (dOf (fComp 1 [1] (iSeqS (dOf (fSlS (vOf (fVar 0)) (pAt (vOf (fVar 2))) pNo))) (gN 0) tTrue E2_read_words)) aNil)))))))
def m_read_words : List D → Option O := mir 4 B_read_words
abbrev s_read_words : Stmt := top 106
theorem S_read_words : FnScope ["words", "kind", "behind", "head"] ["words"] (defScope s_read_words) := ⟨rfl, rfl, rfl, by decide +kernel, rfl, by decide +kernel, by decide +kernel⟩
theorem ok_read_words {f_read_box : Addr} {d_read_box : FuncData} {u_HEADS : Value}
    (F : Fun K "read_words" "read_words" s_read_words f fd)
    (c_read_box : Cal P w K mg base 2 f_read_box d_read_box "read_box" ["kind", "word"] 2 m_read_box)
    (g_HEADS : mg "HEADS" = some u_HEADS)
    (T_HEADS : TabK K u_HEADS [("rail", 2), ("gate", 1), ("ring", 3)])
    (z_int : mg "int" = none)
    (z_tuple : mg "tuple" = none) :
    FnOk P w K mg base CX0 3 f fd ["words"] (spD K 1 m_read_words) := by
  have h := fnD (P := P) (w := w) (mg := mg) (base := base) (k := 2) (body := B_read_words) F S_read_words (fun cdv A outer s H E hr =>
      (xss_cons (xs_set (i := 1) S_read_words.nd rfl (Or.inr rfl) (XD.toE (XE.toD (xe_itemS (vV 0) (XD.toV xd_int)))))
      (xss_cons (xs_set (i := 2) S_read_words.nd rfl (Or.inl rfl) (XD.toE (XE.toD (xe_addS (XD.toV xd_int) (XE.toV (xe_itemG (vD 1) rfl g_HEADS T_HEADS))))))
      (xss_cons (xs_set (i := 3) S_read_words.nd rfl (Or.inl rfl) (XD.toE (XE.toD (xe_ty call_tuple_of cd_tuple rfl z_tuple bt_tuple (xva_cons (XE.toV (xe_comp rfl (blk ["word"] [] [] rfl (by decide +kernel) (by decide +kernel) rfl trivial) (xi_seqS (XE.toD (xe_sliceS (vV 0) (xo_some (XD.toV xd_int)) (xo_some (vV 2))))) (tame_n 0) (fun _ _ _ _ => ⟨(xg_name (i := 0) (show ((["word"] : List Str) ++ ([] : List Str) : List Str).Nodup from by decide +kernel) rfl (Or.inl rfl)), xts_nil, (XE.toD (xe_ty (call_intS.or call_int1) cd_intS rfl z_int bt_int (xva_cons (vV 0) xva_nil)))⟩))) xva_nil)))))
      (xss_one (xs_ret (xe_addS (XE.toV (xe_addS (XD.toV (xd_tup (xa_cons (vD 1) xa_nil))) (vV 3))) (XD.toV (xd_tup (xa_cons (XE.toD (xe_comp rfl (blk ["word"] ["kind"] [1] rfl (by decide +kernel) (by decide +kernel) rfl ⟨⟨rfl, (by first | exact Or.inl rfl | exact Or.inr rfl), rfl⟩, trivial⟩) (xi_seqS (XE.toD (xe_sliceS (vV 0) (xo_some (vV 2)) xo_none))) (tame_n 0) (fun _ _ _ _ => ⟨(xg_name (i := 0) (show ((["word"] : List Str) ++ (["kind"] : List Str) : List Str).Nodup from by decide +kernel) rfl (Or.inl rfl)), xts_nil, (XE.toD (xc c_read_box hr (xa_cons (vD 1) (xa_cons (vD 0) xa_nil))))⟩))) xa_nil))))))))))
  exact h
def B_read : FS := (sSeq (sIf (tNotF (tTru (vOf (fIsi .str (vOf (fVar 0)))))) sNo sNil)
    (sSeq (sSet 1 (eOf (dOf (fOpE oSplit (vOf (fVar 0)) (fC (.str " "))))))
    (sSeq (sIf (tNotF (tTru (vOf (fCall m_tells (aCons (dOf (fVar 1)) aNil))))) sNo sNil)
    (sSeq (sSet 2 (eOf (dOf (fCall m_read_words (aCons (dOf (fVar 1)) aNil)))))
    (sSeq (sIf (tNotF (tTru (vOf (fCall m_is_possible (aCons (dOf (fVar 2)) aNil))))) sNo sNil)
    (sRet (fVar 2)))))))
def m_read : List D → Option O := mir 3 B_read
abbrev s_read : Stmt := top 107
theorem S_read : FnScope ["text", "words", "thing"] ["text"] (defScope s_read) := ⟨rfl, rfl, rfl, by decide +kernel, rfl, by decide +kernel, by decide +kernel⟩
theorem ok_read {f_tells : Addr} {d_tells : FuncData} {f_read_words : Addr} {d_read_words : FuncData} {f_is_possible : Addr} {d_is_possible : FuncData} {A_NoText : Addr}
    (F : Fun K "read" "read" s_read f fd)
    (c_tells : Cal P w K mg base 4 f_tells d_tells "tells" ["words"] 1 m_tells)
    (c_read_words : Cal P w K mg base 3 f_read_words d_read_words "read_words" ["words"] 1 m_read_words)
    (c_is_possible : Cal P w K mg base 5 f_is_possible d_is_possible "is_possible" ["thing"] 1 m_is_possible)
    (e_NoText : mg "NoText" = some (.ref A_NoText))
    (x_NoText : ECls K "NoText" A_NoText)
    (z_isinstance : mg "isinstance" = none)
    (z_str : mg "str" = none)
    (i_str : IsT K .str) :
    FnOk P w K mg base CX0 6 f fd ["text"] (spD K 1 m_read) := by
  have h := fnD (P := P) (w := w) (mg := mg) (base := base) (k := 5) (body := B_read) F S_read (fun cdv A outer s H E hr =>
      (xss_cons (xs_if (xt_not (xt_val (XE.toV (xe_isi (vV 0) i_str rfl z_isinstance rfl z_str bt_str)))) (xss_one xs_no) xss_nil)
      (xss_cons (xs_set (i := 1) S_read.nd rfl (Or.inl rfl) (XD.toE (XE.toD (xe_split (vV 0) (XD.toV xd_str)))))
      (xss_cons (xs_if (xt_not (xt_val (XE.toV (xc c_tells hr (xa_cons (vD 1) xa_nil))))) (xss_one xs_no) xss_nil)
      (xss_cons (xs_set (i := 2) S_read.nd rfl (Or.inl rfl) (XD.toE (XE.toD (xc c_read_words hr (xa_cons (vD 1) xa_nil)))))
      (xss_cons (xs_if (xt_not (xt_val (XE.toV (xc c_is_possible hr (xa_cons (vD 2) xa_nil))))) (xss_one xs_no) xss_nil)
      (xss_one (xs_ret (vE 2)))))))))
  exact h
def E1_show_way : FD := (dOf (fIte (tOf (fOpE (oEq false) (vOf (fVar 0)) (fC (.int 1)))) (eOf (fC (.str "+"))) (eOf (fC (.str "-")))))
def B_show_way : FS := (sSeq (sSet 1 (eOf (dOf (fOpE oIxS (vOf (fVar 0)) (fC (.int 0))))))
    (sSeq (sSet 2 (eOf (dOf (fOpE oIxS (vOf (fVar 0)) (fC (.int 1))))))
    (sSeq (sSet 3 (eOf (dOf (fOpE oJoin (fC (.str "")) (vOf (fComp 1 [] (iSeqS (dOf (fSlS (vOf (fVar 0)) (pAt (fC (.int 2))) pNo))) (gN 0) tTrue E1_show_way))))))
    (sRet (eOf (fFstr (cCons (dOf (fVar 1)) (cCons (fC (.str ">")) (cCons (dOf (fVar 2)) (cCons (dOf (fVar 3)) cNil))))))))))
def m_show_way : List D → Option O := mir 4 B_show_way
abbrev s_show_way : Stmt := top 108
theorem S_show_way : FnScope ["parts", "start", "goal", "signs"] ["parts"] (defScope s_show_way) := ⟨rfl, rfl, rfl, by decide +kernel, rfl, by decide +kernel, by decide +kernel⟩
theorem ok_show_way 
    (F : Fun K "show_way" "show_way" s_show_way f fd) :
    FnOk P w K mg base CX0 1 f fd ["parts"] (spD K 1 m_show_way) := by
  have h := fnD (P := P) (w := w) (mg := mg) (base := base) (k := 0) (body := B_show_way) F S_show_way (fun cdv A outer s H E hr =>
      (xss_cons (xs_set (i := 1) S_show_way.nd rfl (Or.inl rfl) (XD.toE (XE.toD (xe_itemS (vV 0) (XD.toV xd_int)))))
      (xss_cons (xs_set (i := 2) S_show_way.nd rfl (Or.inl rfl) (XD.toE (XE.toD (xe_itemS (vV 0) (XD.toV xd_int)))))
      (xss_cons (xs_set (i := 3) S_show_way.nd rfl (Or.inl rfl) (XD.toE (XE.toD (xe_join (XD.toV xd_str) (XE.toV (xe_comp rfl (blk ["way"] [] [] rfl (by decide +kernel) (by decide +kernel) rfl trivial) (xi_seqS (XE.toD (xe_sliceS (vV 0) (xo_some (XD.toV xd_int)) xo_none))) (tame_n 0) (fun _ _ _ _ => ⟨(xg_name (i := 0) (show ((["way"] : List Str) ++ ([] : List Str) : List Str).Nodup from by decide +kernel) rfl (Or.inl rfl)), xts_nil, (XE.toD (xe_ite (xt_eq hr.units (vV 0) (XD.toV xd_int)) (XD.toE xd_str) (XD.toE xd_str)))⟩)))))))
      (xss_one (xs_ret (XD.toE (xd_fstr (xf_field (vD 1) (xf_lit (xf_field (vD 2) (xf_field (vD 3) xf_nil))))))))))))
  exact h
def E1_show : FD := (dOf (fBlt bStr (aCons (vOf (fVar 0)) aNil)))
def E2_show : FD := (dOf (fCall m_show_way (aCons (dOf (fVar 0)) aNil)))
def B_show : FS := (sSeq (sSet 1 (fComp 1 [] (iSeqS (dOf (fSlS (vOf (fVar 0)) (pAt (fC (.int 1))) (pAt (vOf (fNeg (fC (.int 1)))))))) (gN 0) tTrue E1_show))
    (sShare 1 (sRet (fOpE oJoin (fC (.str " ")) (vOf (fOpE oAddS (vOf (fOpE oAddS (vOf (fLst (aCons (dOf (fOpE oIxS (vOf (fVar 0)) (fC (.int 0)))) aNil))) (vOf (fVar 1)))) (vOf (fComp 1 [] (iSeqS (dOf (fOpE oIxS (vOf (fVar 0)) (vOf (fNeg (fC (.int 1))))))) (gN 0) tTrue E2_show))))))))
def m_show : List D → Option O := mir 2 B_show
abbrev s_show : Stmt := top 109
theorem S_show : FnScope ["thing", "head"] ["thing"] (defScope s_show) := ⟨rfl, rfl, rfl, by decide +kernel, rfl, by decide +kernel, by decide +kernel⟩
theorem ok_show {f_show_way : Addr} {d_show_way : FuncData}
    (F : Fun K "show" "show" s_show f fd)
    (c_show_way : Cal P w K mg base 1 f_show_way d_show_way "show_way" ["parts"] 1 m_show_way)
    (z_str : mg "str" = none) :
    FnOk P w K mg base CX0 2 f fd ["thing"] (spD K 1 m_show) := by
  have h := fnD (P := P) (w := w) (mg := mg) (base := base) (k := 1) (body := B_show) F S_show (fun cdv A outer s H E hr =>
      (xss_cons (xs_setc (i := 1) rfl S_show.nd rfl rfl (blk ["number"] [] [] rfl (by decide +kernel) (by decide +kernel) rfl trivial) (xi_seqS (XE.toD (xe_sliceS (vV 0) (xo_some (XD.toV xd_int)) (xo_some (XE.toV (xe_neg (XD.toV xd_int))))))) (tame_n 0) (fun _ _ _ _ => ⟨(xg_name (i := 0) (show ((["number"] : List Str) ++ ([] : List Str) : List Str).Nodup from by decide +kernel) rfl (Or.inl rfl)), xts_nil, (XE.toD (xe_ty call_str_int cd_str rfl z_str bt_str (xva_cons (vV 0) xva_nil)))⟩))
      (xss_share 1 (xss_one (xs_ret (xe_join (XD.toV xd_str) (XE.toV (xe_addS (XE.toV (xe_addS (XE.toV (xe_lst (xa_cons (XE.toD (xe_itemS (vV 0) (XD.toV xd_int))) xa_nil))) (vV 1))) (XE.toV (xe_comp rfl (blk ["box"] [] [] rfl (by decide +kernel) (by decide +kernel) rfl trivial) (xi_seqS (XE.toD (xe_itemS (vV 0) (XE.toV (xe_neg (XD.toV xd_int)))))) (tame_n 0) (fun _ _ _ _ => ⟨(xg_name (i := 0) (show ((["box"] : List Str) ++ ([] : List Str) : List Str).Nodup from by decide +kernel) rfl (Or.inl rfl)), xts_nil, (XE.toD (xc c_show_way hr (xa_cons (vD 0) xa_nil)))⟩)))))))))))
  exact h
def B_with_box : FS := (sSeq (sSet 2 (eOf (dOf (fOpE oAddS (vOf (fSlS (vOf (fVar 0)) pNo (pAt (vOf (fNeg (fC (.int 1))))))) (fTup (aCons (dOf (fOpE oAddS (vOf (fOpE oIxS (vOf (fVar 0)) (vOf (fNeg (fC (.int 1)))))) (vOf (fLst (aCons (dOf (fVar 1)) aNil))))) aNil))))))
    (sSeq (sIf (tNotF (tTru (vOf (fCall m_is_possible (aCons (dOf (fVar 2)) aNil))))) sNo sNil)
    (sRet (fVar 2))))
def m_with_box : List D → Option O := mir 3 B_with_box
abbrev s_with_box : Stmt := top 125
theorem S_with_box : FnScope ["thing", "box", "more"] ["thing", "box"] (defScope s_with_box) := ⟨rfl, rfl, rfl, by decide +kernel, rfl, by decide +kernel, by decide +kernel⟩
theorem ok_with_box {f_is_possible : Addr} {d_is_possible : FuncData} {A_NoBox : Addr}
    (F : Fun K "with_box" "with_box" s_with_box f fd)
    (c_is_possible : Cal P w K mg base 5 f_is_possible d_is_possible "is_possible" ["thing"] 1 m_is_possible)
    (e_NoBox : mg "NoBox" = some (.ref A_NoBox))
    (x_NoBox : ECls K "NoBox" A_NoBox) :
    FnOk P w K mg base CX0 6 f fd ["thing", "box"] (spD K 2 m_with_box) := by
  have h := fnD (P := P) (w := w) (mg := mg) (base := base) (k := 5) (body := B_with_box) F S_with_box (fun cdv A outer s H E hr =>
      (xss_cons (xs_set (i := 2) S_with_box.nd rfl (Or.inl rfl) (XD.toE (XE.toD (xe_addS (XE.toV (xe_sliceS (vV 0) xo_none (xo_some (XE.toV (xe_neg (XD.toV xd_int)))))) (XD.toV (xd_tup (xa_cons (XE.toD (xe_addS (XE.toV (xe_itemS (vV 0) (XE.toV (xe_neg (XD.toV xd_int))))) (XE.toV (xe_lst (xa_cons (vD 1) xa_nil))))) xa_nil)))))))
      (xss_cons (xs_if (xt_not (xt_val (XE.toV (xc c_is_possible hr (xa_cons (vD 2) xa_nil))))) (xss_one xs_no) xss_nil)
      (xss_one (xs_ret (vE 2))))))
  exact h
def Y_with_box : FX := (ySeq yNo (sSet 2 (eOf (dOf (fOpE oAddS (vOf (fSlS (vOf (fVar 0)) pNo (pAt (vOf (fNeg (fC (.int 1))))))) (fTup (aCons (dOf (fOpE oAddS (vOf (fOpE oIxS (vOf (fVar 0)) (vOf (fNeg (fC (.int 1)))))) (vOf (fLst (aCons (dOf (fVar 1)) aNil))))) aNil)))))) (yIf (tNotF (tTru (vOf (fCall m_is_possible (aCons (dOf (fVar 2)) aNil))))) (yRaise "NoBox") yNo))
def mx_with_box : List D → Option Str := fun ds => Y_with_box (entry 3 ds)
theorem okx_with_box {f_is_possible : Addr} {d_is_possible : FuncData} {A_NoBox : Addr}
    (F : Fun K "with_box" "with_box" s_with_box f fd)
    (c_is_possible : Cal P w K mg base 5 f_is_possible d_is_possible "is_possible" ["thing"] 1 m_is_possible)
    (e_NoBox : mg "NoBox" = some (.ref A_NoBox))
    (x_NoBox : ECls K "NoBox" A_NoBox) :
    FnOk P w K mg base (CXe P w) 6 f fd ["thing", "box"] (spX K 2 mx_with_box) := by
  have h := fnX (P := P) (w := w) (mg := mg) (base := base) (k := 5) (gb := Y_with_box) F S_with_box (fun cdv A outer s H E hr =>
      (yss_cons ys_no (XS.lift (xs_set (i := 2) S_with_box.nd rfl (Or.inl rfl) (XD.toE (XE.toD (xe_addS (XE.toV (xe_sliceS (vV 0) xo_none (xo_some (XE.toV (xe_neg (XD.toV xd_int)))))) (XD.toV (xd_tup (xa_cons (XE.toD (xe_addS (XE.toV (xe_itemS (vV 0) (XE.toV (xe_neg (XD.toV xd_int))))) (XE.toV (xe_lst (xa_cons (vD 1) xa_nil))))) xa_nil)))))))) (yss_head (ys_if (xt_not (xt_val (XE.toV (xc c_is_possible hr (xa_cons (vD 2) xa_nil))))) (yss_head (ys_raise rfl e_NoBox rfl x_NoBox (xa_cons xd_str xa_nil) (fun _ => ⟨_, rfl⟩) passMade)) yss_no))))
  exact h
def B_without_box : FS := (sSeq (sSet 2 (eOf (dOf (fOpE oIxS (vOf (fVar 0)) (vOf (fNeg (fC (.int 1))))))))
    (sSeq (sIf (tOrF (tOf (fOpE oLt (vOf (fVar 1)) (fC (.int 0)))) (tOf (fOpE oGe (vOf (fVar 1)) (vOf (fBlt bLenS (aCons (vOf (fVar 2)) aNil)))))) sNo sNil)
    (sRet (fOpE oAddS (vOf (fSlS (vOf (fVar 0)) pNo (pAt (vOf (fNeg (fC (.int 1))))))) (fTup (aCons (dOf (fOpE oAddS (vOf (fSlS (vOf (fVar 2)) pNo (pAt (vOf (fVar 1))))) (vOf (fSlS (vOf (fVar 2)) (pAt (vOf (fOpE oAddS (vOf (fVar 1)) (fC (.int 1))))) pNo)))) aNil))))))
def m_without_box : List D → Option O := mir 3 B_without_box
abbrev s_without_box : Stmt := top 126
theorem S_without_box : FnScope ["thing", "number", "boxes"] ["thing", "number"] (defScope s_without_box) := ⟨rfl, rfl, rfl, by decide +kernel, rfl, by decide +kernel, by decide +kernel⟩
theorem ok_without_box {A_NoBox : Addr}
    (F : Fun K "without_box" "without_box" s_without_box f fd)
    (e_NoBox : mg "NoBox" = some (.ref A_NoBox))
    (x_NoBox : ECls K "NoBox" A_NoBox)
    (z_len : mg "len" = none) :
    FnOk P w K mg base CX0 1 f fd ["thing", "number"] (spD K 2 m_without_box) := by
  have h := fnD (P := P) (w := w) (mg := mg) (base := base) (k := 0) (body := B_without_box) F S_without_box (fun cdv A outer s H E hr =>
      (xss_cons (xs_set (i := 2) S_without_box.nd rfl (Or.inl rfl) (XD.toE (XE.toD (xe_itemS (vV 0) (XE.toV (xe_neg (XD.toV xd_int)))))))
      (xss_cons (xs_if (XW.toT (xw_or (xt_lt (vV 1) (XD.toV xd_int)) (xw_or1 (xt_ge (vV 1) (XE.toV (xe_blt (call_len_str.or call_len_seq) cd_lenS rfl z_len bt_len (xva_cons (vV 2) xva_nil))))))) (xss_one xs_no) xss_nil)
      (xss_one (xs_ret (xe_addS (XE.toV (xe_sliceS (vV 0) xo_none (xo_some (XE.toV (xe_neg (XD.toV xd_int)))))) (XD.toV (xd_tup (xa_cons (XE.toD (xe_addS (XE.toV (xe_sliceS (vV 2) xo_none (xo_some (vV 1)))) (XE.toV (xe_sliceS (vV 2) (xo_some (XE.toV (xe_addS (vV 1) (XD.toV xd_int)))) xo_none)))) xa_nil)))))))))
  exact h
def Y_without_box : FX := (ySeq yNo (sSet 2 (eOf (dOf (fOpE oIxS (vOf (fVar 0)) (vOf (fNeg (fC (.int 1)))))))) (yIf (tOrF (tOf (fOpE oLt (vOf (fVar 1)) (fC (.int 0)))) (tOf (fOpE oGe (vOf (fVar 1)) (vOf (fBlt bLenS (aCons (vOf (fVar 2)) aNil)))))) (yRaise "NoBox") yNo))
def mx_without_box : List D → Option Str := fun ds => Y_without_box (entry 3 ds)
theorem okx_without_box {A_NoBox : Addr}
    (F : Fun K "without_box" "without_box" s_without_box f fd)
    (e_NoBox : mg "NoBox" = some (.ref A_NoBox))
    (x_NoBox : ECls K "NoBox" A_NoBox)
    (z_len : mg "len" = none) :
    FnOk P w K mg base (CXe P w) 1 f fd ["thing", "number"] (spX K 2 mx_without_box) := by
  have h := fnX (P := P) (w := w) (mg := mg) (base := base) (k := 0) (gb := Y_without_box) F S_without_box (fun cdv A outer s H E hr =>
      (yss_cons ys_no (XS.lift (xs_set (i := 2) S_without_box.nd rfl (Or.inl rfl) (XD.toE (XE.toD (xe_itemS (vV 0) (XE.toV (xe_neg (XD.toV xd_int)))))))) (yss_head (ys_if (XW.toT (xw_or (xt_lt (vV 1) (XD.toV xd_int)) (xw_or1 (xt_ge (vV 1) (XE.toV (xe_blt (call_len_str.or call_len_seq) cd_lenS rfl z_len bt_len (xva_cons (vV 2) xva_nil))))))) (yss_head (ys_raise rfl e_NoBox rfl x_NoBox (xa_cons xd_str xa_nil) (fun _ => ⟨_, rfl⟩) passMade)) yss_no))))
  exact h
def B__law_cell_at : FS := (sSeq (sIf (tOf (fOpE oLt (vOf (fVar 1)) (vOf (fBlt bLenS (aCons (vOf (fVar 0)) aNil))))) (sRet (fOpE oIxS (vOf (fVar 0)) (vOf (fVar 1)))) sNil)
    (sRet (eOf (fC (.int 0)))))
def m__law_cell_at : List D → Option O := mir 2 B__law_cell_at
abbrev s__law_cell_at : Stmt := top 129
theorem S__law_cell_at : FnScope ["script", "k"] ["script", "k"] (defScope s__law_cell_at) := ⟨rfl, rfl, rfl, by decide +kernel, rfl, by decide +kernel, by decide +kernel⟩
theorem ok__law_cell_at 
    (F : Fun K "_law_cell_at" "_law_cell_at" s__law_cell_at f fd)
    (z_len : mg "len" = none) :
    FnOk P w K mg base CX0 1 f fd ["script", "k"] (spD K 2 m__law_cell_at) := by
  have h := fnD (P := P) (w := w) (mg := mg) (base := base) (k := 0) (body := B__law_cell_at) F S__law_cell_at (fun cdv A outer s H E hr =>
      (xss_cons (xs_if (xt_lt (vV 1) (XE.toV (xe_blt (call_len_str.or call_len_seq) cd_lenS rfl z_len bt_len (xva_cons (vV 0) xva_nil)))) (xss_one (xs_ret (xe_itemS (vV 0) (vV 1)))) xss_nil)
      (xss_one (xs_ret (XD.toE xd_int)))))
  exact h
def L1__law_thing : FS := (sSeq (sSet 7 (eOf (dOf (fCall m__law_cell_at (aCons (dOf (fVar 0)) (aCons (dOf (fOpE oAddS (fC (.int 2)) (vOf (fVar 6)))) aNil))))))
    (sSeq (sSet 8 (eOf (dOf (fOpE oMod (vOf (fOpE oDiv (vOf (fVar 7)) (fC (.int 3)))) (vOf (fOpE oIxS (vOf (fLst (aCons (fC (.int 10)) (aCons (fC (.int 1000)) (aCons (dOf (fOpE oPow (fC (.int 10)) (fC (.int 39)))) aNil))))) (vOf (fOpE oMod (vOf (fVar 7)) (fC (.int 3))))))))))
    (sApp 5 (dOf (fOpE oIxS (vOf (fLst (aCons (dOf (fOpE oSub (vOf (fVar 8)) (vOf (fOpE oMul (vOf (fOpE oPow (fC (.int 10)) (fC (.int 39)))) (vOf (fOpE oMod (vOf (fOpE oDiv (vOf (fVar 7)) (fC (.int 2)))) (fC (.int 2)))))))) (aCons (dOf (fOpE oAddS (vOf (fVar 4)) (vOf (fVar 8)))) (aCons (dOf (fOpE oMod (vOf (fVar 8)) (vOf (fVar 3)))) aNil))))) (vOf (fVar 1)))))))
def L2__law_thing : FS := (sSeq (sSet 10 (eOf (fTup (aCons (dOf (fOpE oIxS (vOf (fVar 5)) (vOf (fOpE oMod (vOf (fOpE oDiv (vOf (fVar 7)) (fC (.int 2)))) (fC (.int 6)))))) (aCons (dOf (fOpE oIxS (vOf (fVar 5)) (vOf (fOpE oMod (vOf (fOpE oDiv (vOf (fVar 7)) (fC (.int 12)))) (fC (.int 6)))))) aNil)))))
    (sSeq (sIf (tOf (fOpE (oEq false) (vOf (fVar 1)) (fC (.int 2)))) (sSet 10 (eOf (dOf (fOpE oAddS (vOf (fVar 10)) (fTup (aCons (dOf (fOpE oIxS (vOf (fLst (aCons (fC (.int 1)) (aCons (dOf (fNeg (fC (.int 1)))) aNil)))) (vOf (fOpE oMod (vOf (fVar 7)) (fC (.int 2)))))) aNil)))))) sNil)
    (sApp 9 (dOf (fVar 10)))))
def B__law_thing : FS := (sSeq (sSet 1 (eOf (dOf (fOpE oMod (vOf (fCall m__law_cell_at (aCons (dOf (fVar 0)) (aCons (fC (.int 0)) aNil)))) (fC (.int 3))))))
    (sSeq (sSet 2 (eOf (dOf (fCall m__law_cell_at (aCons (dOf (fVar 0)) (aCons (fC (.int 1)) aNil))))))
    (sSeq (sSet 3 (eOf (dOf (fOpE oAddS (fC (.int 1)) (vOf (fOpE oMod (vOf (fOpE oDiv (vOf (fVar 2)) (fC (.int 2)))) (vOf (fOpE oIxS (vOf (fLst (aCons (fC (.int 24)) (aCons (dOf (fOpE oPow (fC (.int 10)) (fC (.int 39)))) aNil)))) (vOf (fOpE oMod (vOf (fVar 2)) (fC (.int 2))))))))))))
    (sSeq (sSet 4 (eOf (dOf (fOpE oIxS (vOf (fLst (aCons (dOf (fOpE oSub (vOf (fOpE oMod (vOf (fOpE oDiv (vOf (fVar 2)) (fC (.int 4)))) (fC (.int 19)))) (fC (.int 9)))) (aCons (dOf (fOpE oSub (vOf (fOpE oMod (vOf (fOpE oDiv (vOf (fVar 2)) (fC (.int 4)))) (vOf (fOpE oMul (fC (.int 2)) (vOf (fOpE oPow (fC (.int 10)) (fC (.int 39)))))))) (vOf (fOpE oPow (fC (.int 10)) (fC (.int 39)))))) aNil)))) (vOf (fOpE oMod (vOf (fOpE oDiv (vOf (fVar 2)) (fC (.int 2)))) (fC (.int 2))))))))
    (sSeq (sSet 5 (fLst aNil))
    (sSeq (sFor (iRg1 (aCons (fC (.int 6)) aNil)) (gN 6) L1__law_thing)
    (sSeq (sSet 9 (fLst aNil))
    (sSeq (sFor (iSeqS (dOf (fSlS (vOf (fVar 0)) (pAt (fC (.int 8))) (pAt (vOf (fOpE oAddS (fC (.int 8)) (vOf (fOpE oIxS (vOf (fLst (aCons (fC (.int 5)) (aCons (fC (.int 2)) (aCons (fC (.int 0)) (aCons (fC (.int 1)) (aCons (fC (.int 9)) (aCons (fC (.int 3)) aNil)))))))) (vOf (fOpE oMod (vOf (fOpE oDiv (vOf (fCall m__law_cell_at (aCons (dOf (fVar 0)) (aCons (fC (.int 0)) aNil)))) (fC (.int 3)))) (fC (.int 6)))))))))))) (gN 7) L2__law_thing)
    (sSeq (sIf (tOf (fOpE (oEq false) (vOf (fVar 1)) (fC (.int 0)))) (sShare 9 (sRet (eOf (fTup (aCons (fC (.str "rail")) (aCons (dOf (fOpE oIxS (vOf (fVar 5)) (fC (.int 0)))) (aCons (dOf (fOpE oIxS (vOf (fVar 5)) (fC (.int 1)))) (aCons (dOf (fVar 9)) aNil)))))))) sNil)
    (sSeq (sIf (tOf (fOpE (oEq false) (vOf (fVar 1)) (fC (.int 1)))) (sShare 9 (sRet (eOf (fTup (aCons (fC (.str "gate")) (aCons (dOf (fVar 4)) (aCons (dOf (fVar 9)) aNil))))))) sNil)
    (sShare 9 (sRet (eOf (fTup (aCons (fC (.str "ring")) (aCons (dOf (fVar 3)) (aCons (dOf (fOpE oIxS (vOf (fVar 5)) (fC (.int 0)))) (aCons (dOf (fOpE oIxS (vOf (fVar 5)) (fC (.int 1)))) (aCons (dOf (fVar 9)) aNil)))))))))))))))))))
def m__law_thing : List D → Option O := mir 11 B__law_thing
abbrev s__law_thing : Stmt := top 130
theorem S__law_thing : FnScope ["script", "kind", "base", "size", "gate", "spots", "k", "cell", "far", "boxes", "box"] ["script"] (defScope s__law_thing) := ⟨rfl, rfl, rfl, by decide +kernel, rfl, by decide +kernel, by decide +kernel⟩
theorem ok__law_thing {f__law_cell_at : Addr} {d__law_cell_at : FuncData}
    (F : Fun K "_law_thing" "_law_thing" s__law_thing f fd)
    (c__law_cell_at : Cal P w K mg base 1 f__law_cell_at d__law_cell_at "_law_cell_at" ["script", "k"] 2 m__law_cell_at)
    (z_range : mg "range" = none) :
    FnOk P w K mg base CX0 2 f fd ["script"] (spD K 1 m__law_thing) := by
  have h := fnD (P := P) (w := w) (mg := mg) (base := base) (k := 1) (body := B__law_thing) F S__law_thing (fun cdv A outer s H E hr =>
      (xss_cons (xs_set (i := 1) S__law_thing.nd rfl (Or.inl rfl) (XD.toE (XE.toD (xe_mod (XE.toV (xc c__law_cell_at hr (xa_cons (vD 0) (xa_cons xd_int xa_nil)))) (XD.toV xd_int)))))
      (xss_cons (xs_set (i := 2) S__law_thing.nd rfl (Or.inl rfl) (XD.toE (XE.toD (xc c__law_cell_at hr (xa_cons (vD 0) (xa_cons xd_int xa_nil))))))
      (xss_cons (xs_set (i := 3) S__law_thing.nd rfl (Or.inl rfl) (XD.toE (XE.toD (xe_addS (XD.toV xd_int) (XE.toV (xe_mod (XE.toV (xe_fdiv (vV 2) (XD.toV xd_int))) (XE.toV (xe_itemS (XE.toV (xe_lst (xa_cons xd_int (xa_cons (XE.toD (xe_pow (XD.toV xd_int) (XD.toV xd_int))) xa_nil)))) (XE.toV (xe_mod (vV 2) (XD.toV xd_int)))))))))))
      (xss_cons (xs_set (i := 4) S__law_thing.nd rfl (Or.inl rfl) (XD.toE (XE.toD (xe_itemS (XE.toV (xe_lst (xa_cons (XE.toD (xe_sub (XE.toV (xe_mod (XE.toV (xe_fdiv (vV 2) (XD.toV xd_int))) (XD.toV xd_int))) (XD.toV xd_int))) (xa_cons (XE.toD (xe_sub (XE.toV (xe_mod (XE.toV (xe_fdiv (vV 2) (XD.toV xd_int))) (XE.toV (xe_mul (XD.toV xd_int) (XE.toV (xe_pow (XD.toV xd_int) (XD.toV xd_int))))))) (XE.toV (xe_pow (XD.toV xd_int) (XD.toV xd_int))))) xa_nil)))) (XE.toV (xe_mod (XE.toV (xe_fdiv (vV 2) (XD.toV xd_int))) (XD.toV xd_int)))))))
      (xss_cons (xs_set (i := 5) S__law_thing.nd rfl (Or.inl rfl) (xe_lst xa_nil))
      (xss_cons (xs_for PassesOwn.never rfl (xi_range1 rfl z_range (xva_cons (XD.toV xd_int) xva_nil)) (xg_name (i := 6) S__law_thing.nd rfl (Or.inl rfl)) (xss_cons (xs_set (i := 7) S__law_thing.nd rfl (Or.inl rfl) (XD.toE (XE.toD (xc c__law_cell_at hr (xa_cons (vD 0) (xa_cons (XE.toD (xe_addS (XD.toV xd_int) (vV 6))) xa_nil))))))
      (xss_cons (xs_set (i := 8) S__law_thing.nd rfl (Or.inl rfl) (XD.toE (XE.toD (xe_mod (XE.toV (xe_fdiv (vV 7) (XD.toV xd_int))) (XE.toV (xe_itemS (XE.toV (xe_lst (xa_cons xd_int (xa_cons xd_int (xa_cons (XE.toD (xe_pow (XD.toV xd_int) (XD.toV xd_int))) xa_nil))))) (XE.toV (xe_mod (vV 7) (XD.toV xd_int)))))))))
      (xss_one (xs_app (pv 5) (XE.toD (xe_itemS (XE.toV (xe_lst (xa_cons (XE.toD (xe_sub (vV 8) (XE.toV (xe_mul (XE.toV (xe_pow (XD.toV xd_int) (XD.toV xd_int))) (XE.toV (xe_mod (XE.toV (xe_fdiv (vV 7) (XD.toV xd_int))) (XD.toV xd_int))))))) (xa_cons (XE.toD (xe_addS (vV 4) (vV 8))) (xa_cons (XE.toD (xe_mod (vV 8) (vV 3))) xa_nil))))) (vV 1))))))))
      (xss_cons (xs_set (i := 9) S__law_thing.nd rfl (Or.inl rfl) (xe_lst xa_nil))
      (xss_cons (xs_for PassesOwn.never rfl (xi_seqS (XE.toD (xe_sliceS (vV 0) (xo_some (XD.toV xd_int)) (xo_some (XE.toV (xe_addS (XD.toV xd_int) (XE.toV (xe_itemS (XE.toV (xe_lst (xa_cons xd_int (xa_cons xd_int (xa_cons xd_int (xa_cons xd_int (xa_cons xd_int (xa_cons xd_int xa_nil)))))))) (XE.toV (xe_mod (XE.toV (xe_fdiv (XE.toV (xc c__law_cell_at hr (xa_cons (vD 0) (xa_cons xd_int xa_nil)))) (XD.toV xd_int))) (XD.toV xd_int))))))))))) (xg_name (i := 7) S__law_thing.nd rfl (Or.inl rfl)) (xss_cons (xs_set (i := 10) S__law_thing.nd rfl (Or.inl rfl) (XD.toE (xd_tup (xa_cons (XE.toD (xe_itemS (vV 5) (XE.toV (xe_mod (XE.toV (xe_fdiv (vV 7) (XD.toV xd_int))) (XD.toV xd_int))))) (xa_cons (XE.toD (xe_itemS (vV 5) (XE.toV (xe_mod (XE.toV (xe_fdiv (vV 7) (XD.toV xd_int))) (XD.toV xd_int))))) xa_nil)))))
      (xss_cons (xs_if (xt_eq hr.units (vV 1) (XD.toV xd_int)) (xss_one (xs_set (i := 10) S__law_thing.nd rfl (Or.inl rfl) (XD.toE (XE.toD (xe_addS (vV 10) (XD.toV (xd_tup (xa_cons (XE.toD (xe_itemS (XE.toV (xe_lst (xa_cons xd_int (xa_cons (XE.toD (xe_neg (XD.toV xd_int))) xa_nil)))) (XE.toV (xe_mod (vV 7) (XD.toV xd_int))))) xa_nil)))))))) xss_nil)
      (xss_one (xs_app (pv 9) (vD 10))))))
      (xss_cons (xs_if (xt_eq hr.units (vV 1) (XD.toV xd_int)) (xss_share 9 (xss_one (xs_ret (XD.toE (xd_tup (xa_cons xd_str (xa_cons (XE.toD (xe_itemS (vV 5) (XD.toV xd_int))) (xa_cons (XE.toD (xe_itemS (vV 5) (XD.toV xd_int))) (xa_cons (vD 9) xa_nil))))))))) xss_nil)
      (xss_cons (xs_if (xt_eq hr.units (vV 1) (XD.toV xd_int)) (xss_share 9 (xss_one (xs_ret (XD.toE (xd_tup (xa_cons xd_str (xa_cons (vD 4) (xa_cons (vD 9) xa_nil)))))))) xss_nil)
      (xss_share 9 (xss_one (xs_ret (XD.toE (xd_tup (xa_cons xd_str (xa_cons (vD 3) (xa_cons (XE.toD (xe_itemS (vV 5) (XD.toV xd_int))) (xa_cons (XE.toD (xe_itemS (vV 5) (XD.toV xd_int))) (xa_cons (vD 9) xa_nil)))))))))))))))))))))
  exact h
def B__law_word : FS := (sSeq (sSet 1 (eOf (dOf (fOpE oAddS (vOf (fOpE oAddS (vOf (fBlt bStr (aCons (vOf (fOpE oIxS (vOf (fVar 0)) (fC (.int 0)))) aNil))) (fC (.str ">")))) (vOf (fBlt bStr (aCons (vOf (fOpE oIxS (vOf (fVar 0)) (fC (.int 1)))) aNil)))))))
    (sSeq (sIf (tOf (fOpE (oEq false) (vOf (fBlt bLenS (aCons (vOf (fVar 0)) aNil))) (fC (.int 3)))) (sSet 1 (eOf (dOf (fOpE oAddS (vOf (fVar 1)) (vOf (fOpE oIxS (vOf (fLst (aCons (fC (.str "-")) (aCons (fC (.str "")) (aCons (fC (.str "+")) aNil))))) (vOf (fOpE oAddS (vOf (fOpE oIxS (vOf (fVar 0)) (fC (.int 2)))) (fC (.int 1)))))))))) sNil)
    (sRet (fVar 1))))
def m__law_word : List D → Option O := mir 2 B__law_word
abbrev s__law_word : Stmt := top 131
theorem S__law_word : FnScope ["box", "word"] ["box"] (defScope s__law_word) := ⟨rfl, rfl, rfl, by decide +kernel, rfl, by decide +kernel, by decide +kernel⟩
theorem ok__law_word 
    (F : Fun K "_law_word" "_law_word" s__law_word f fd)
    (z_str : mg "str" = none)
    (z_len : mg "len" = none) :
    FnOk P w K mg base CX0 1 f fd ["box"] (spD K 1 m__law_word) := by
  have h := fnD (P := P) (w := w) (mg := mg) (base := base) (k := 0) (body := B__law_word) F S__law_word (fun cdv A outer s H E hr =>
      (xss_cons (xs_set (i := 1) S__law_word.nd rfl (Or.inl rfl) (XD.toE (XE.toD (xe_addS (XE.toV (xe_addS (XE.toV (xe_ty call_str_int cd_str rfl z_str bt_str (xva_cons (XE.toV (xe_itemS (vV 0) (XD.toV xd_int))) xva_nil))) (XD.toV xd_str))) (XE.toV (xe_ty call_str_int cd_str rfl z_str bt_str (xva_cons (XE.toV (xe_itemS (vV 0) (XD.toV xd_int))) xva_nil)))))))
      (xss_cons (xs_if (xt_eq hr.units (XE.toV (xe_blt (call_len_str.or call_len_seq) cd_lenS rfl z_len bt_len (xva_cons (vV 0) xva_nil))) (XD.toV xd_int)) (xss_one (xs_set (i := 1) S__law_word.nd rfl (Or.inl rfl) (XD.toE (XE.toD (xe_addS (vV 1) (XE.toV (xe_itemS (XE.toV (xe_lst (xa_cons xd_str (xa_cons xd_str (xa_cons xd_str xa_nil))))) (XE.toV (xe_addS (XE.toV (xe_itemS (vV 0) (XD.toV xd_int))) (XD.toV xd_int)))))))))) xss_nil)
      (xss_one (xs_ret (vE 1))))))
  exact h
def L1__law_text : FS := (sApp 1 (dOf (fBlt bStr (aCons (vOf (fVar 2)) aNil))))
def L2__law_text : FS := (sApp 1 (dOf (fCall m__law_word (aCons (dOf (fVar 3)) aNil))))
def B__law_text : FS := (sSeq (sSet 1 (fLst (aCons (dOf (fOpE oIxS (vOf (fVar 0)) (fC (.int 0)))) aNil)))
    (sSeq (sFor (iSeqS (dOf (fSlS (vOf (fVar 0)) (pAt (fC (.int 1))) (pAt (vOf (fNeg (fC (.int 1)))))))) (gN 2) L1__law_text)
    (sSeq (sFor (iSeqS (dOf (fOpE oIxS (vOf (fVar 0)) (vOf (fNeg (fC (.int 1))))))) (gN 3) L2__law_text)
    (sRet (fOpE oJoin (fC (.str " ")) (vOf (fVar 1)))))))
def m__law_text : List D → Option O := mir 4 B__law_text
abbrev s__law_text : Stmt := top 132
theorem S__law_text : FnScope ["thing", "words", "number", "box"] ["thing"] (defScope s__law_text) := ⟨rfl, rfl, rfl, by decide +kernel, rfl, by decide +kernel, by decide +kernel⟩
theorem ok__law_text {f__law_word : Addr} {d__law_word : FuncData}
    (F : Fun K "_law_text" "_law_text" s__law_text f fd)
    (c__law_word : Cal P w K mg base 1 f__law_word d__law_word "_law_word" ["box"] 1 m__law_word)
    (z_str : mg "str" = none) :
    FnOk P w K mg base CX0 2 f fd ["thing"] (spD K 1 m__law_text) := by
  have h := fnD (P := P) (w := w) (mg := mg) (base := base) (k := 1) (body := B__law_text) F S__law_text (fun cdv A outer s H E hr =>
      (xss_cons (xs_set (i := 1) S__law_text.nd rfl (Or.inl rfl) (xe_lst (xa_cons (XE.toD (xe_itemS (vV 0) (XD.toV xd_int))) xa_nil)))
      (xss_cons (xs_for PassesOwn.never rfl (xi_seqS (XE.toD (xe_sliceS (vV 0) (xo_some (XD.toV xd_int)) (xo_some (XE.toV (xe_neg (XD.toV xd_int))))))) (xg_name (i := 2) S__law_text.nd rfl (Or.inl rfl)) (xss_one (xs_app (pv 1) (XE.toD (xe_ty call_str_int cd_str rfl z_str bt_str (xva_cons (vV 2) xva_nil))))))
      (xss_cons (xs_for PassesOwn.never rfl (xi_seqS (XE.toD (xe_itemS (vV 0) (XE.toV (xe_neg (XD.toV xd_int)))))) (xg_name (i := 3) S__law_text.nd rfl (Or.inl rfl)) (xss_one (xs_app (pv 1) (XE.toD (xc c__law_word hr (xa_cons (vD 3) xa_nil))))))
      (xss_one (xs_ret (xe_join (XD.toV xd_str) (vV 1))))))))
  exact h
abbrev s_Desk_init : Stmt := (clsB (top 127)).getD 0 (.Pass ⟨0, 0, 0, 0⟩)
theorem S_Desk_init : FnScope ["self", "text"] ["self", "text"] (defScope s_Desk_init) := ⟨rfl, rfl, rfl, by decide +kernel, rfl, by decide +kernel, by decide +kernel⟩
abbrev s_Desk_change : Stmt := (clsB (top 127)).getD 2 (.Pass ⟨0, 0, 0, 0⟩)
theorem S_Desk_change : FnScope ["self", "words", "kind"] ["self", "words"] (defScope s_Desk_change) := ⟨rfl, rfl, rfl, by decide +kernel, rfl, by decide +kernel, by decide +kernel⟩
abbrev s_Desk_say : Stmt := (clsB (top 127)).getD 1 (.Pass ⟨0, 0, 0, 0⟩)
theorem S_Desk_say : FnScope ["self", "row"] ["self", "row"] (defScope s_Desk_say) := ⟨rfl, rfl, rfl, by decide +kernel, rfl, by decide +kernel, by decide +kernel⟩
theorem ok_Desk_init {f_read : Addr} {d_read : FuncData} {C : Addr} (F : Fun K "__init__" "Desk.__init__" s_Desk_init f fd) (c_read : Cal P w K mg base 6 f_read d_read "read" ["text"] 1 m_read) (cl : Cls K C) (na : NoAttr K C "told") : FnOk P w K mg base CX0 7 f fd ["self", "text"] (spJ K C "told" m_read) := by
  refine F.ok S_Desk_init (fun vs H Q E h => spJ_len h) (fun cdv A outer s H vs Q E hr h => ?_)
  exact init_keep rfl cl na (pv 0) (XE.toD (xc c_read hr (xa_cons (vD 1) xa_nil))) rfl h
def ch_t1 : FT := (tAndF (tOf (fOpE (oEq false) (vOf (fBlt bLenS (aCons (vOf (fVar 1)) aNil))) (fC (.int 2)))) (tAndF (tOf (fOpE (oEq false) (vOf (fOpE oIxS (vOf (fVar 1)) (fC (.int 0)))) (fC (.str "add")))) (tTru (vOf (fCall m_is_box_word (aCons (dOf (fVar 2)) (aCons (dOf (fOpE oIxS (vOf (fVar 1)) (fC (.int 1)))) aNil)))))))
def ch_t2 : FT := (tAndF (tOf (fOpE (oEq false) (vOf (fBlt bLenS (aCons (vOf (fVar 1)) aNil))) (fC (.int 2)))) (tAndF (tOf (fOpE (oEq false) (vOf (fOpE oIxS (vOf (fVar 1)) (fC (.int 0)))) (fC (.str "drop")))) (tTru (vOf (fCall m_is_number (aCons (dOf (fOpE oIxS (vOf (fVar 1)) (fC (.int 1)))) aNil))))))
def ch_g1 : FD := (dOf (fCall m_read_box (aCons (dOf (fVar 2)) (aCons (dOf (fOpE oIxS (vOf (fVar 1)) (fC (.int 1)))) aNil))))
def ch_g2 : FD := (dOf (fBlt bIntS (aCons (vOf (fOpE oIxS (vOf (fVar 1)) (fC (.int 1)))) aNil)))
def m_change : D → D → Option (D × D) := mCh ch_t1 ch_t2 ch_g1 ch_g2 m_with_box m_without_box
theorem ok_Desk_change {f_is_box_word : Addr} {d_is_box_word : FuncData} {f_read_box : Addr} {d_read_box : FuncData} {f_is_number : Addr} {d_is_number : FuncData} {f_with_box : Addr} {d_with_box : FuncData} {f_without_box : Addr} {d_without_box : FuncData} {C : Addr} (F : Fun K "change" "Desk.change" s_Desk_change f fd) (c_is_box_word : Cal P w K mg base 3 f_is_box_word d_is_box_word "is_box_word" ["kind", "word"] 2 m_is_box_word) (c_read_box : Cal P w K mg base 2 f_read_box d_read_box "read_box" ["kind", "word"] 2 m_read_box) (c_is_number : Cal P w K mg base 1 f_is_number d_is_number "is_number" ["word"] 1 m_is_number) (c_with_box : Cal P w K mg base 6 f_with_box d_with_box "with_box" ["thing", "box"] 2 m_with_box) (c_without_box : Cal P w K mg base 1 f_without_box d_without_box "without_box" ["thing", "number"] 2 m_without_box) (z_len : mg "len" = none) (z_int : mg "int" = none) (cl : Cls K C) (na : NoAttr K C "told") : FnOk P w K mg base CX0 7 f fd ["self", "words"] (spDk K C "told" m_change) := by
  refine F.ok S_Desk_change (fun vs H Q E h => spDk_len h) (fun cdv A outer s H vs Q E hr h => ?_)
  exact change_fin rfl cl na (ps_set (i := 2) S_Desk_change.nd rfl (Or.inl rfl) (pe_ix ix_tup (pe_fld (pv 0) rfl) pe_int (fun _ _ => rfl))) (XW.toT (xw_and (xt_eq hr.units (XE.toV (xe_blt (call_len_str.or call_len_seq) cd_lenS rfl z_len bt_len (xva_cons (vV 1) xva_nil))) (XD.toV xd_int)) (xw_and (xt_eq hr.units (XE.toV (xe_itemS (vV 1) (XD.toV xd_int))) (XD.toV xd_str)) (xw_and1 (xt_val (XE.toV (xc c_is_box_word hr (xa_cons (vD 2) (xa_cons (XE.toD (xe_itemS (vV 1) (XD.toV xd_int))) xa_nil))))))))) (ps_put c_with_box hr (pv 0) (pv 0) (XE.toD (xc c_read_box hr (xa_cons (vD 2) (xa_cons (XE.toD (xe_itemS (vV 1) (XD.toV xd_int))) xa_nil))))) (XW.toT (xw_and (xt_eq hr.units (XE.toV (xe_blt (call_len_str.or call_len_seq) cd_lenS rfl z_len bt_len (xva_cons (vV 1) xva_nil))) (XD.toV xd_int)) (xw_and (xt_eq hr.units (XE.toV (xe_itemS (vV 1) (XD.toV xd_int))) (XD.toV xd_str)) (xw_and1 (xt_val (XE.toV (xc c_is_number hr (xa_cons (XE.toD (xe_itemS (vV 1) (XD.toV xd_int))) xa_nil)))))))) (ps_put c_without_box hr (pv 0) (pv 0) (XE.toD (xe_ty (call_intS.or call_int1) cd_intS rfl z_int bt_int (xva_cons (XE.toV (xe_itemS (vV 1) (XD.toV xd_int))) xva_nil)))) (ps_ret pe_str) h
def sy_t0 : FT := (tNotF (tTru (vOf (fIsi .str (vOf (fVar 1))))))
def sy_t1 : FT := (tOf (fOpE (oEq false) (vOf (fVar 1)) (fC (.str "least"))))
def sy_t2 : FT := (tOf (fOpE (oEq false) (vOf (fVar 1)) (fC (.str "tour"))))
def sy_t3 : FT := (tOf (fOpE (oEq false) (vOf (fVar 1)) (fC (.str "text"))))
def sy_g : FD := (dOf (fOpE oSplit (vOf (fVar 1)) (fC (.str " "))))
def m_say : D → D → Option (D × D) := mSay sy_t0 sy_t1 sy_t2 sy_t3 m_show sy_g m_change
theorem ok_Desk_say {f_show : Addr} {d_show : FuncData} {C f_ch : Addr} {d_ch : FuncData} (F : Fun K "say" "Desk.say" s_Desk_say f fd) (c_show : Cal P w K mg base 2 f_show d_show "show" ["thing"] 1 m_show) (z_isinstance : mg "isinstance" = none) (z_str : mg "str" = none) (i_str : IsT K .str) (cl : Cls K C) (na : NoAttr K C "told") (Mc : Meth K C "change" f_ch) (Fc : FnOk P w K mg base CX0 7 f_ch d_ch ["self", "words"] (spDk K C "told" m_change)) (bc : Binds K d_ch ["self", "words"] []) : FnOk P w K mg base CX0 8 f fd ["self", "row"] (spDk K C "told" m_say) := by
  refine F.ok S_Desk_say (fun vs H Q E h => spDk_len h) (fun cdv A outer s H vs Q E hr h => ?_)
  exact say_fin (mth := "change") rfl cl na (by decide) (xt_not (xt_val (XE.toV (xe_isi (vV 1) i_str rfl z_isinstance rfl z_str bt_str)))) (xt_eq hr.units (vV 1) (XD.toV xd_str)) (xt_eq hr.units (vV 1) (XD.toV xd_str)) (xt_eq hr.units (vV 1) (XD.toV xd_str)) (pe_tell c_show hr (pv 0)) (pe_ask (pv 0) cl Mc Fc hr bc (XE.toD (xe_split (vV 1) (XD.toV xd_str)))) h
def ch_n : FX := (yRaise "NoWord")
def mx_change : D → D → Option Str := mChX ch_t1 ch_t2 ch_g1 ch_g2 mx_with_box mx_without_box ch_n
theorem okx_Desk_change {f_is_box_word : Addr} {d_is_box_word : FuncData} {f_read_box : Addr} {d_read_box : FuncData} {f_is_number : Addr} {d_is_number : FuncData} {f_with_box : Addr} {d_with_box : FuncData} {f_without_box : Addr} {d_without_box : FuncData} {A_NoWord : Addr} {C : Addr} (F : Fun K "change" "Desk.change" s_Desk_change f fd) (c_is_box_word : Cal P w K mg base 3 f_is_box_word d_is_box_word "is_box_word" ["kind", "word"] 2 m_is_box_word) (c_read_box : Cal P w K mg base 2 f_read_box d_read_box "read_box" ["kind", "word"] 2 m_read_box) (c_is_number : Cal P w K mg base 1 f_is_number d_is_number "is_number" ["word"] 1 m_is_number) (c_with_box : Cal P w K mg base 6 f_with_box d_with_box "with_box" ["thing", "box"] 2 m_with_box) (c_without_box : Cal P w K mg base 1 f_without_box d_without_box "without_box" ["thing", "number"] 2 m_without_box) (e_NoWord : mg "NoWord" = some (.ref A_NoWord)) (x_NoWord : ECls K "NoWord" A_NoWord) (z_len : mg "len" = none) (z_int : mg "int" = none) (Gx_with_box : FnOk P w K mg base (CXe P w) 6 f_with_box d_with_box ["thing", "box"] (spX K 2 mx_with_box)) (Gx_without_box : FnOk P w K mg base (CXe P w) 1 f_without_box d_without_box ["thing", "number"] (spX K 2 mx_without_box)) (cl : Cls K C) (na : NoAttr K C "told") : FnOk P w K mg base (CXe P w) 7 f fd ["self", "words"] (spDx K C "told" mx_change) := by
  refine okX_of F S_Desk_change (fun vs H Q E h => spDx_len h) (fun cdv A outer s H vs Q E hr h => ?_)
  exact changeX_fin rfl cl na (ps_set (i := 2) S_Desk_change.nd rfl (Or.inl rfl) (pe_ix ix_tup (pe_fld (pv 0) rfl) pe_int (fun _ _ => rfl))) (XW.toT (xw_and (xt_eq hr.units (XE.toV (xe_blt (call_len_str.or call_len_seq) cd_lenS rfl z_len bt_len (xva_cons (vV 1) xva_nil))) (XD.toV xd_int)) (xw_and (xt_eq hr.units (XE.toV (xe_itemS (vV 1) (XD.toV xd_int))) (XD.toV xd_str)) (xw_and1 (xt_val (XE.toV (xc c_is_box_word hr (xa_cons (vD 2) (xa_cons (XE.toD (xe_itemS (vV 1) (XD.toV xd_int))) xa_nil))))))))) (ps_putX Gx_with_box c_with_box.2.1 c_with_box.2.2.1 c_with_box.2.2.2 passX hr (pv 0) (pv 0) (XE.toD (xc c_read_box hr (xa_cons (vD 2) (xa_cons (XE.toD (xe_itemS (vV 1) (XD.toV xd_int))) xa_nil))))) (XW.toT (xw_and (xt_eq hr.units (XE.toV (xe_blt (call_len_str.or call_len_seq) cd_lenS rfl z_len bt_len (xva_cons (vV 1) xva_nil))) (XD.toV xd_int)) (xw_and (xt_eq hr.units (XE.toV (xe_itemS (vV 1) (XD.toV xd_int))) (XD.toV xd_str)) (xw_and1 (xt_val (XE.toV (xc c_is_number hr (xa_cons (XE.toD (xe_itemS (vV 1) (XD.toV xd_int))) xa_nil)))))))) (ps_putX Gx_without_box c_without_box.2.1 c_without_box.2.2.1 c_without_box.2.2.2 passX hr (pv 0) (pv 0) (XE.toD (xe_ty (call_intS.or call_int1) cd_intS rfl z_int bt_int (xva_cons (XE.toV (xe_itemS (vV 1) (XD.toV xd_int))) xva_nil)))) (yss_head (ys_raise rfl e_NoWord rfl x_NoWord (xa_cons xd_str xa_nil) (fun _ => ⟨_, rfl⟩) passMade)) h
def sy_n : FX := (yRaise "NoWord")
def mx_say : D → D → Option Str := mSayX sy_t0 sy_t1 sy_t2 sy_t3 sy_n sy_g mx_change
theorem okx_Desk_say {A_NoWord : Addr} {C f_ch : Addr} {d_ch : FuncData} (F : Fun K "say" "Desk.say" s_Desk_say f fd) (e_NoWord : mg "NoWord" = some (.ref A_NoWord)) (x_NoWord : ECls K "NoWord" A_NoWord) (z_isinstance : mg "isinstance" = none) (z_str : mg "str" = none) (i_str : IsT K .str) (cl : Cls K C) (Mc : Meth K C "change" f_ch) (Fc : FnOk P w K mg base (CXe P w) 7 f_ch d_ch ["self", "words"] (spDx K C "told" mx_change)) (bc : Binds K d_ch ["self", "words"] []) : FnOk P w K mg base (CXe P w) 8 f fd ["self", "row"] (spDx K C "told" mx_say) := by
  refine okX_of F S_Desk_say (fun vs H Q E h => spDx_len h) (fun cdv A outer s H vs Q E hr h => ?_)
  exact sayX_fin (mth := "change") rfl (by decide) (xt_not (xt_val (XE.toV (xe_isi (vV 1) i_str rfl z_isinstance rfl z_str bt_str)))) (yss_head (ys_raise rfl e_NoWord rfl x_NoWord (xa_cons xd_str xa_nil) (fun _ => ⟨_, rfl⟩) passMade)) (xt_eq hr.units (vV 1) (XD.toV xd_str)) (xt_eq hr.units (vV 1) (XD.toV xd_str)) (xt_eq hr.units (vV 1) (XD.toV xd_str)) (pe_askX (pv 0) cl Mc Fc passX hr bc (XE.toD (xe_split (vV 1) (XD.toV xd_str)))) h
abbrev s__law_said : Stmt := top 133
theorem S__law_said : FnScope ["desk", "row", "found", "error", "e", "other"] ["desk", "row"] (defScope s__law_said) := ⟨rfl, rfl, rfl, by decide +kernel, rfl, by decide +kernel, by decide +kernel⟩
def sd_g1 : FD := (fTup aNil)
def sd_g2 : FD := (fC .non)
def sd_g : FD := (dOf (fVar 1))
def sd_r : FS := (sSeq (sIf (tOf (fOpE (oIs false) (vOf (fVar 3)) (fC .non))) (sRet (fVar 2)) sNil)
    (sSeq (sSet 5 (eOf (vOr (dOf (fIsx [("NoBox", false), ("NoWord", false)] (vOf (fVar 3)))) (vOr (dOf (fIsx [("NoBox", false), ("NoWord", false)] (vOf (fVar 3)))) (dOf (fIsx [("NoBox", false), ("NoWord", false)] (vOf (fVar 3))))))))
    (sSeq (sSet 5 (eOf (vOr (dOf (fVar 5)) (vOr (dOf (fIsx [("NoBox", false), ("NoWord", false)] (vOf (fVar 3)))) (vOr (dOf (fIsx [("NoBox", false), ("NoWord", false)] (vOf (fVar 3)))) (dOf (fIsx [("NoBox", false), ("NoWord", false)] (vOf (fVar 3)))))))))
    (sRet (eOf (fTup (aCons (dOf (fIsx [("NoBox", true), ("NoWord", true)] (vOf (fVar 3)))) (aCons (dOf (fIsx [("NoBox", false), ("NoWord", true)] (vOf (fVar 3)))) (aCons (dOf (fIsx [("NoBox", true), ("NoWord", false)] (vOf (fVar 3)))) (aCons (dOf (fVar 5)) aNil))))))))))
def m__law_said : D → D → Option (D × D) := mSaid sd_g1 sd_g2 sd_g sd_r m_say mx_say ["NoBox", "NoWord"]
theorem ok__law_said {A_RailError : Addr} {A_NoReason : Addr} {A_NoRow : Addr} {A_NoErrand : Addr} {A_NoText : Addr} {A_NoRing : Addr} {A_NoYard : Addr} {A_NoBox : Addr} {A_NoWord : Addr} {C f_sy : Addr} {d_sy : FuncData} (F : Fun K "_law_said" "_law_said" s__law_said f fd) (e_RailError : mg "RailError" = some (.ref A_RailError)) (e_NoReason : mg "NoReason" = some (.ref A_NoReason)) (e_NoRow : mg "NoRow" = some (.ref A_NoRow)) (e_NoErrand : mg "NoErrand" = some (.ref A_NoErrand)) (e_NoText : mg "NoText" = some (.ref A_NoText)) (e_NoRing : mg "NoRing" = some (.ref A_NoRing)) (e_NoYard : mg "NoYard" = some (.ref A_NoYard)) (e_NoBox : mg "NoBox" = some (.ref A_NoBox)) (e_NoWord : mg "NoWord" = some (.ref A_NoWord)) (x_RailError : ECls K "RailError" A_RailError) (w_RailError : Takes K A_RailError ["NoBox", "NoWord"]) (t_NoReason : IsX K (.ref A_NoReason) [("NoBox", false), ("NoWord", false)]) (t_NoRow : IsX K (.ref A_NoRow) [("NoBox", false), ("NoWord", false)]) (t_NoErrand : IsX K (.ref A_NoErrand) [("NoBox", false), ("NoWord", false)]) (t_NoText : IsX K (.ref A_NoText) [("NoBox", false), ("NoWord", false)]) (t_NoRing : IsX K (.ref A_NoRing) [("NoBox", false), ("NoWord", false)]) (t_NoYard : IsX K (.ref A_NoYard) [("NoBox", false), ("NoWord", false)]) (t_NoBox : IsX K (.ref A_NoBox) [("NoBox", true), ("NoWord", false)]) (t_NoWord : IsX K (.ref A_NoWord) [("NoBox", false), ("NoWord", true)]) (t_ValueError : IsX K (.type "ValueError") [("NoBox", true), ("NoWord", true)]) (z_isinstance : mg "isinstance" = none) (z_ValueError : mg "ValueError" = none) (cl : Cls K C) (Ms : Meth K C "say" f_sy) (Fs : FnOk P w K mg base CX0 8 f_sy d_sy ["self", "row"] (spDk K C "told" m_say)) (Fx : FnOk P w K mg base (CXe P w) 8 f_sy d_sy ["self", "row"] (spDx K C "told" mx_say)) (bs : Binds K d_sy ["self", "row"] []) : FnOk P w K mg base CX0 9 f fd ["desk", "row"] (spDk K C "told" m__law_said) := by
  refine F.ok S__law_said (fun vs H Q E h => spDk_len h) (fun cdv A outer s H vs Q E hr h => ?_)
  exact said_fin (mth := "say") rfl (by decide) (set_d (i := 2) S__law_said.nd rfl (Or.inl rfl) (xd_tup xa_nil)) (set_d (i := 3) S__law_said.nd rfl (Or.inl rfl) xd_non) (try_ask rfl rfl rfl e_RailError x_RailError w_RailError S__law_said.nd rfl rfl (set_ask (i := 2) S__law_said.nd rfl (Or.inl rfl) (pe_ask (pv 0) cl Ms Fs hr bs (vD 1))) (zr_ask (pv 0) cl Ms Fx hr bs (vD 1)) (fun _ => ps_set (i := 3) S__law_said.nd rfl (Or.inl rfl) (pv 4))) (xss_cons (xs_if (xt_is (vV 3) (XD.toV xd_non)) (xss_one (xs_ret (vE 2))) xss_nil)
      (xss_cons (xs_set (i := 5) S__law_said.nd rfl (Or.inl rfl) (XD.toE (xd_or (XE.toD (xe_isxo (vV 3) rfl e_NoErrand t_NoErrand rfl z_isinstance)) (xd_or (XE.toD (xe_isxo (vV 3) rfl e_NoRow t_NoRow rfl z_isinstance)) (xd_one (XE.toD (xe_isxo (vV 3) rfl e_NoReason t_NoReason rfl z_isinstance)))))))
      (xss_cons (xs_set (i := 5) S__law_said.nd rfl (Or.inl rfl) (XD.toE (xd_or (vD 5) (xd_or (XE.toD (xe_isxo (vV 3) rfl e_NoYard t_NoYard rfl z_isinstance)) (xd_or (XE.toD (xe_isxo (vV 3) rfl e_NoRing t_NoRing rfl z_isinstance)) (xd_one (XE.toD (xe_isxo (vV 3) rfl e_NoText t_NoText rfl z_isinstance))))))))
      (xss_one (xs_ret (XD.toE (xd_tup (xa_cons (XE.toD (xe_isxb (vV 3) rfl z_ValueError PyProof.Rows.Boot.«ValueError» t_ValueError rfl z_isinstance)) (xa_cons (XE.toD (xe_isxo (vV 3) rfl e_NoWord t_NoWord rfl z_isinstance)) (xa_cons (XE.toD (xe_isxo (vV 3) rfl e_NoBox t_NoBox rfl z_isinstance)) (xa_cons (vD 5) xa_nil))))))))))) (fun c hc => let ⟨C, h, _⟩ := w_RailError c hc; ⟨C, h⟩) h
def L1__law_no_rows : FS := (sApp 1 (dOf (fOpE oAddS (vOf (fOpE oAddS (fC (.str "add ")) (vOf (fVar 2)))) (vOf (fVar 0)))))
def L2__law_no_rows : FS := (sApp 1 (dOf (fOpE oAddS (vOf (fOpE oAddS (fC (.str "add ")) (vOf (fVar 2)))) (vOf (fVar 0)))))
def L3__law_no_rows : FS := (sApp 1 (dOf (fOpE oAddS (fC (.str "drop ")) (vOf (fVar 2)))))
def B__law_no_rows : FS := (sSeq (sSet 1 (fLst (aCons (fC (.str "")) (aCons (fC (.str " ")) (aCons (fC (.str "Least")) (aCons (fC (.str "least ")) (aCons (fC (.str " least")) (aCons (fC (.str "least 1")) (aCons (fC (.str "tour 0")) (aCons (fC (.str "text text")) (aCons (fC (.str "add")) (aCons (fC (.str "drop")) (aCons (fC (.str "add ")) (aCons (fC (.str "drop ")) aNil))))))))))))))
    (sSeq (sFor (iSeqS (dOf (fLst (aCons (fC (.str "1")) (aCons (fC (.str "1>")) (aCons (fC (.str ">1")) (aCons (fC (.str "1>2>3")) (aCons (fC (.str "01>2")) (aCons (fC (.str "1>02")) (aCons (fC (.str "-0>1")) (aCons (fC (.str "1>-0")) (aCons (fC (.str "1_0>2")) (aCons (fC (.str "+1>2")) (aCons (fC (.str "1>2 3>4")) (aCons (fC (.str "1>2
")) aNil))))))))))))))) (gN 2) L1__law_no_rows)
    (sSeq (sFor (iSeqS (dOf (fLst (aCons (fC (.str "0:1>2")) (aCons (dOf (fOpE oAddS (vOf (fOpE oMulS (fC (.str "1")) (fC (.int 41)))) (fC (.str ">2")))) (aCons (dOf (fOpE oAddS (fC (.str "1>-")) (vOf (fOpE oMulS (fC (.str "2")) (fC (.int 41)))))) (aCons (fC (.str "--1>2")) (aCons (fC (.str "0x1>2")) (aCons (fC (.str "1 >2")) aNil))))))))) (gN 2) L2__law_no_rows)
    (sSeq (sFor (iSeqS (dOf (fLst (aCons (fC (.str "00")) (aCons (fC (.str "-0")) (aCons (fC (.str "+1")) (aCons (fC (.str "1.0")) (aCons (fC (.str "01")) (aCons (fC (.str "x")) (aCons (fC (.str "1 2")) (aCons (fC (.str "1_0")) (aCons (dOf (fOpE oMulS (fC (.str "1")) (fC (.int 41)))) (aCons (fC (.str "-")) (aCons (fC (.str "0
")) aNil)))))))))))))) (gN 2) L3__law_no_rows)
    (sSeq (sSet 3 (eOf (fC (.str "1>2"))))
    (sSeq (sIf (tOf (fOpE (oEq false) (vOf (fVar 0)) (fC (.str "")))) (sSet 3 (eOf (fC (.str "1>2+")))) sNil)
    (sRet (fOpE oAddS (vOf (fVar 1)) (vOf (fLst (aCons (dOf (fOpE oAddS (fC (.str "add ")) (vOf (fVar 3)))) (aCons (fC (.str "net")) (aCons (fC .non) (aCons (fC (.int 5)) (aCons (fC (.bl true)) (aCons (dOf (fLst (aCons (fC (.str "least")) aNil))) (aCons (fTup (aCons (fC (.str "least")) aNil)) (aCons (dOf (fLst aNil)) (aCons (fC (.str "least
")) (aCons (dOf (fOpE oAddS (fC (.str "add  1>2")) (vOf (fVar 0)))) aNil))))))))))))))))))))
def m__law_no_rows : List D → Option O := mir 4 B__law_no_rows
abbrev s__law_no_rows : Stmt := top 134
theorem S__law_no_rows : FnScope ["sign", "some", "word", "bare"] ["sign"] (defScope s__law_no_rows) := ⟨rfl, rfl, rfl, by decide +kernel, rfl, by decide +kernel, by decide +kernel⟩
theorem ok__law_no_rows 
    (F : Fun K "_law_no_rows" "_law_no_rows" s__law_no_rows f fd) :
    FnOk P w K mg base CX0 1 f fd ["sign"] (spD K 1 m__law_no_rows) := by
  have h := fnD (P := P) (w := w) (mg := mg) (base := base) (k := 0) (body := B__law_no_rows) F S__law_no_rows (fun cdv A outer s H E hr =>
      (xss_cons (xs_set (i := 1) S__law_no_rows.nd rfl (Or.inl rfl) (xe_lst (xa_cons xd_str (xa_cons xd_str (xa_cons xd_str (xa_cons xd_str (xa_cons xd_str (xa_cons xd_str (xa_cons xd_str (xa_cons xd_str (xa_cons xd_str (xa_cons xd_str (xa_cons xd_str (xa_cons xd_str xa_nil))))))))))))))
      (xss_cons (xs_for PassesOwn.never rfl (xi_seqS (XE.toD (xe_lst (xa_cons xd_str (xa_cons xd_str (xa_cons xd_str (xa_cons xd_str (xa_cons xd_str (xa_cons xd_str (xa_cons xd_str (xa_cons xd_str (xa_cons xd_str (xa_cons xd_str (xa_cons xd_str (xa_cons xd_str xa_nil))))))))))))))) (xg_name (i := 2) S__law_no_rows.nd rfl (Or.inl rfl)) (xss_one (xs_app (pv 1) (XE.toD (xe_addS (XE.toV (xe_addS (XD.toV xd_str) (vV 2))) (vV 0))))))
      (xss_cons (xs_for PassesOwn.never rfl (xi_seqS (XE.toD (xe_lst (xa_cons xd_str (xa_cons (XE.toD (xe_addS (XE.toV (xe_mulS (XD.toV xd_str) (XD.toV xd_int))) (XD.toV xd_str))) (xa_cons (XE.toD (xe_addS (XD.toV xd_str) (XE.toV (xe_mulS (XD.toV xd_str) (XD.toV xd_int))))) (xa_cons xd_str (xa_cons xd_str (xa_cons xd_str xa_nil))))))))) (xg_name (i := 2) S__law_no_rows.nd rfl (Or.inl rfl)) (xss_one (xs_app (pv 1) (XE.toD (xe_addS (XE.toV (xe_addS (XD.toV xd_str) (vV 2))) (vV 0))))))
      (xss_cons (xs_for PassesOwn.never rfl (xi_seqS (XE.toD (xe_lst (xa_cons xd_str (xa_cons xd_str (xa_cons xd_str (xa_cons xd_str (xa_cons xd_str (xa_cons xd_str (xa_cons xd_str (xa_cons xd_str (xa_cons (XE.toD (xe_mulS (XD.toV xd_str) (XD.toV xd_int))) (xa_cons xd_str (xa_cons xd_str xa_nil)))))))))))))) (xg_name (i := 2) S__law_no_rows.nd rfl (Or.inl rfl)) (xss_one (xs_app (pv 1) (XE.toD (xe_addS (XD.toV xd_str) (vV 2))))))
      (xss_cons (xs_set (i := 3) S__law_no_rows.nd rfl (Or.inl rfl) (XD.toE xd_str))
      (xss_cons (xs_if (xt_eq hr.units (vV 0) (XD.toV xd_str)) (xss_one (xs_set (i := 3) S__law_no_rows.nd rfl (Or.inl rfl) (XD.toE xd_str))) xss_nil)
      (xss_one (xs_ret (xe_addS (vV 1) (XE.toV (xe_lst (xa_cons (XE.toD (xe_addS (XD.toV xd_str) (vV 3))) (xa_cons xd_str (xa_cons xd_non (xa_cons xd_int (xa_cons xd_bl (xa_cons (XE.toD (xe_lst (xa_cons xd_str xa_nil))) (xa_cons (xd_tup (xa_cons xd_str xa_nil)) (xa_cons (XE.toD (xe_lst xa_nil)) (xa_cons xd_str (xa_cons (XE.toD (xe_addS (XD.toV xd_str) (vV 0))) xa_nil))))))))))))))))))))))
  exact h
def B__law_no_boxes : FS := (sSeq (sIf (tOf (fOpE (oEq false) (vOf (fOpE oIxS (vOf (fVar 0)) (fC (.int 0)))) (fC (.str "gate")))) (sSeq (sSet 1 (eOf (dOf (fBlt bStr (aCons (vOf (fOpE oIxS (vOf (fVar 0)) (fC (.int 1)))) aNil)))))
    (sRet (fLst (aCons (dOf (fOpE oAddS (vOf (fOpE oAddS (vOf (fOpE oAddS (fC (.str "add ")) (vOf (fBlt bStr (aCons (vOf (fOpE oSub (vOf (fOpE oIxS (vOf (fVar 0)) (fC (.int 1)))) (fC (.int 1)))) aNil))))) (fC (.str ">")))) (vOf (fVar 1)))) (aCons (dOf (fOpE oAddS (vOf (fOpE oAddS (vOf (fOpE oAddS (fC (.str "add ")) (vOf (fVar 1)))) (fC (.str ">")))) (vOf (fBlt bStr (aCons (vOf (fOpE oSub (vOf (fOpE oIxS (vOf (fVar 0)) (fC (.int 1)))) (fC (.int 1)))) aNil))))) aNil))))) sNil)
    (sSeq (sIf (tOf (fOpE (oEq false) (vOf (fOpE oIxS (vOf (fVar 0)) (fC (.int 0)))) (fC (.str "ring")))) (sSeq (sSet 2 (eOf (dOf (fBlt bStr (aCons (vOf (fOpE oIxS (vOf (fVar 0)) (fC (.int 1)))) aNil)))))
    (sRet (fLst (aCons (dOf (fOpE oAddS (vOf (fOpE oAddS (fC (.str "add 0>")) (vOf (fVar 2)))) (fC (.str "+")))) (aCons (dOf (fOpE oAddS (vOf (fOpE oAddS (fC (.str "add ")) (vOf (fVar 2)))) (fC (.str ">0-")))) (aCons (fC (.str "add -1>0+")) (aCons (fC (.str "add 0>-1-")) aNil))))))) sNil)
    (sRet (fLst aNil))))
def m__law_no_boxes : List D → Option O := mir 3 B__law_no_boxes
abbrev s__law_no_boxes : Stmt := top 135
theorem S__law_no_boxes : FnScope ["thing", "low", "far"] ["thing"] (defScope s__law_no_boxes) := ⟨rfl, rfl, rfl, by decide +kernel, rfl, by decide +kernel, by decide +kernel⟩
theorem ok__law_no_boxes 
    (F : Fun K "_law_no_boxes" "_law_no_boxes" s__law_no_boxes f fd)
    (z_str : mg "str" = none) :
    FnOk P w K mg base CX0 1 f fd ["thing"] (spD K 1 m__law_no_boxes) := by
  have h := fnD (P := P) (w := w) (mg := mg) (base := base) (k := 0) (body := B__law_no_boxes) F S__law_no_boxes (fun cdv A outer s H E hr =>
      (xss_cons (xs_if (xt_eq hr.units (XE.toV (xe_itemS (vV 0) (XD.toV xd_int))) (XD.toV xd_str)) (xss_cons (xs_set (i := 1) S__law_no_boxes.nd rfl (Or.inl rfl) (XD.toE (XE.toD (xe_ty call_str_int cd_str rfl z_str bt_str (xva_cons (XE.toV (xe_itemS (vV 0) (XD.toV xd_int))) xva_nil)))))
      (xss_one (xs_ret (xe_lst (xa_cons (XE.toD (xe_addS (XE.toV (xe_addS (XE.toV (xe_addS (XD.toV xd_str) (XE.toV (xe_ty call_str_int cd_str rfl z_str bt_str (xva_cons (XE.toV (xe_sub (XE.toV (xe_itemS (vV 0) (XD.toV xd_int))) (XD.toV xd_int))) xva_nil))))) (XD.toV xd_str))) (vV 1))) (xa_cons (XE.toD (xe_addS (XE.toV (xe_addS (XE.toV (xe_addS (XD.toV xd_str) (vV 1))) (XD.toV xd_str))) (XE.toV (xe_ty call_str_int cd_str rfl z_str bt_str (xva_cons (XE.toV (xe_sub (XE.toV (xe_itemS (vV 0) (XD.toV xd_int))) (XD.toV xd_int))) xva_nil))))) xa_nil)))))) xss_nil)
      (xss_cons (xs_if (xt_eq hr.units (XE.toV (xe_itemS (vV 0) (XD.toV xd_int))) (XD.toV xd_str)) (xss_cons (xs_set (i := 2) S__law_no_boxes.nd rfl (Or.inl rfl) (XD.toE (XE.toD (xe_ty call_str_int cd_str rfl z_str bt_str (xva_cons (XE.toV (xe_itemS (vV 0) (XD.toV xd_int))) xva_nil)))))
      (xss_one (xs_ret (xe_lst (xa_cons (XE.toD (xe_addS (XE.toV (xe_addS (XD.toV xd_str) (vV 2))) (XD.toV xd_str))) (xa_cons (XE.toD (xe_addS (XE.toV (xe_addS (XD.toV xd_str) (vV 2))) (XD.toV xd_str))) (xa_cons xd_str (xa_cons xd_str xa_nil)))))))) xss_nil)
      (xss_one (xs_ret (xe_lst xa_nil))))))
  exact h
abbrev s_law : Stmt := top 136
theorem S_law : FnScope ["script", "thing", "text", "desk", "sign", "row", "many", "more", "below", "rows", "home"] ["script"] (defScope s_law) := ⟨rfl, rfl, rfl, by decide +kernel, rfl, by decide +kernel, by decide +kernel⟩
def q1_law : FQ := (qNo (qOr (qCmp true m__law_said (dOf (fOpE oAddS (vOf (fOpE oAddS (vOf (fOpE oAddS (vOf (fOpE oAddS (fC (.str "add ")) (vOf (fVar 10)))) (fC (.str ">")))) (vOf (fVar 10)))) (vOf (fVar 4)))) (fC (.str "ok"))) (qCmp true m__law_said (dOf (fOpE oAddS (fC (.str "drop ")) (vOf (fBlt bStr (aCons (vOf (fVar 6)) aNil))))) (fC (.str "ok")))))
def q2_law : FQ := (qIf (tOf (fOpE (oEq false) (vOf (fOpE oIxS (vOf (fVar 1)) (fC (.int 0)))) (fC (.str "ring")))) (qSeq (qSet 10 (fC (.str "0"))) qNil) qNil)
def q3_law : FQ := (qSet 10 (dOf (fBlt bStr (aCons (vOf (fOpE oIxS (vOf (fVar 1)) (fC (.int 1)))) aNil))))
def q4_law : FQ := (qNo (qCmp true m__law_said (fC (.str "text")) (dOf (fVar 2))))
def q5_law : FQ := (qFor (iSeq (dOf (fVar 9))) 5 (qSeq (qNo (qCmp true m__law_said (dOf (fVar 5)) (fTup (aCons (fC (.bl true)) (aCons (fC (.bl false)) (aCons (fC (.bl true)) (aCons (fC (.bl false)) aNil))))))) qNil))
def E1_law : FD := (dOf (fOpE oAddS (fC (.str "drop ")) (vOf (fBlt bStr (aCons (vOf (fVar 0)) aNil)))))
def q6_law : FQ := (qSet 9 (dOf (fOpE oAddS (vOf (fCall m__law_no_boxes (aCons (dOf (fVar 1)) aNil))) (vOf (fComp 1 [] (iSeqS (dOf (fLst (aCons (dOf (fVar 6)) (aCons (dOf (fVar 7)) (aCons (dOf (fNeg (fC (.int 1)))) (aCons (dOf (fVar 8)) aNil))))))) (gN 0) tTrue E1_law)))))
def q7_law : FQ := (qSet 8 (dOf (fOpE oSub (vOf (fNeg (fC (.int 1)))) (vOf (fOpE oMod (vOf (fCall m__law_cell_at (aCons (dOf (fVar 0)) (aCons (fC (.int 21)) aNil)))) (vOf (fOpE oPow (fC (.int 10)) (fC (.int 39)))))))))
def q8_law : FQ := (qSet 7 (dOf (fOpE oAddS (vOf (fOpE oAddS (vOf (fVar 6)) (fC (.int 1)))) (vOf (fOpE oMod (vOf (fCall m__law_cell_at (aCons (dOf (fVar 0)) (aCons (fC (.int 20)) aNil)))) (vOf (fOpE oPow (fC (.int 10)) (fC (.int 39)))))))))
def q9_law : FQ := (qSet 6 (dOf (fBlt bLenS (aCons (vOf (fOpE oIxS (vOf (fVar 1)) (vOf (fNeg (fC (.int 1)))))) aNil))))
def q10_law : FQ := (qFor (iSeq (dOf (fCall m__law_no_rows (aCons (dOf (fVar 4)) aNil)))) 5 (qSeq (qNo (qCmp true m__law_said (dOf (fVar 5)) (fTup (aCons (fC (.bl true)) (aCons (fC (.bl true)) (aCons (fC (.bl false)) (aCons (fC (.bl false)) aNil))))))) qNil))
def q11_law : FQ := (qIf (tOf (fOpE (oEq false) (vOf (fOpE oIxS (vOf (fVar 1)) (fC (.int 0)))) (fC (.str "ring")))) (qSeq (qSet 4 (fC (.str "+"))) qNil) qNil)
def q12_law : FQ := (qSet 4 (fC (.str "")))
def lw_g1 : FD := (dOf (fCall m__law_thing (aCons (dOf (fVar 0)) aNil)))
def lw_g2 : FD := (dOf (fCall m__law_text (aCons (dOf (fVar 1)) aNil)))
def lw_g3 : FD := (dOf (fVar 2))
def lw_e : FQT := (qEnd q12_law (qEnd q11_law (qEnd q10_law (qEnd q9_law (qEnd q8_law (qEnd q7_law (qEnd q6_law (qEnd q5_law (qEnd q4_law (qEnd q3_law (qEnd q2_law (qEnd q1_law (qAnd (qCmp false m__law_said (dOf (fOpE oAddS (fC (.str "drop ")) (vOf (fBlt bStr (aCons (vOf (fVar 6)) aNil))))) (fTup (aCons (fC (.bl true)) (aCons (fC (.bl false)) (aCons (fC (.bl true)) (aCons (fC (.bl false)) aNil)))))) (qCmp false m__law_said (fC (.str "text")) (dOf (fVar 2))))))))))))))))
def m_law : List D → Option O := mLw1 11 lw_g1 lw_g2 lw_g3 m_read lw_e
theorem ok_law {f__law_thing : Addr} {d__law_thing : FuncData} {f__law_text : Addr} {d__law_text : FuncData} {f__law_no_boxes : Addr} {d__law_no_boxes : FuncData} {f__law_cell_at : Addr} {d__law_cell_at : FuncData} {f__law_no_rows : Addr} {d__law_no_rows : FuncData} {C fI f_sd : Addr} {dI d_sd : FuncData} (F : Fun K "law" "law" s_law f fd) (c__law_thing : Cal P w K mg base 2 f__law_thing d__law_thing "_law_thing" ["script"] 1 m__law_thing) (c__law_text : Cal P w K mg base 2 f__law_text d__law_text "_law_text" ["thing"] 1 m__law_text) (c__law_no_boxes : Cal P w K mg base 1 f__law_no_boxes d__law_no_boxes "_law_no_boxes" ["thing"] 1 m__law_no_boxes) (c__law_cell_at : Cal P w K mg base 1 f__law_cell_at d__law_cell_at "_law_cell_at" ["script", "k"] 2 m__law_cell_at) (c__law_no_rows : Cal P w K mg base 1 f__law_no_rows d__law_no_rows "_law_no_rows" ["sign"] 1 m__law_no_rows) (z_str : mg "str" = none) (z_len : mg "len" = none) (Md : Mk K C fI) (Fi : FnOk P w K mg base CX0 7 fI dI ["self", "text"] (spJ K C "told" m_read)) (bi : Binds K dI ["self", "text"] []) (e_Desk : mg "Desk" = some (.ref C)) (Fs : FnOk P w K mg base CX0 9 f_sd d_sd ["desk", "row"] (spDk K C "told" m__law_said)) (ms : mg "_law_said" = some (.ref f_sd)) (ks : PySem.W.keepIn K (.ref f_sd) = true) (bs : Binds K d_sd ["desk", "row"] []) : FnOk P w K mg base CX0 10 f fd ["script"] (spD K 1 m_law) := by
  refine F.ok S_law (fun vs H Q E h => ?_) (fun cdv A outer s H vs Q E hr h => ?_)
  · obtain ⟨G, ds, r, _, h2, _, h4, _⟩ := h
    rw [← h4.len]; exact h2
  · exact law1_fin rfl (by decide) (set_d (i := 1) S_law.nd rfl (Or.inl rfl) (XE.toD (xc c__law_thing hr (xa_cons (vD 0) xa_nil)))) (set_d (i := 2) S_law.nd rfl (Or.inl rfl) (XE.toD (xc c__law_text hr (xa_cons (vD 1) xa_nil)))) (set_mk (i := 3) S_law.nd rfl (Or.inl rfl) Md Fi hr e_Desk bi (vD 2)) (eqs_cons (sq_set (set_d (i := 4) S_law.nd rfl (Or.inl rfl) xd_str) (by decide)) (eqs_cons (sq_if (xt_eq hr.units (XE.toV (xe_itemS (vV 1) (XD.toV xd_int))) (XD.toV xd_str)) (sqs_cons (sq_set (set_d (i := 4) S_law.nd rfl (Or.inl rfl) xd_str) (by decide)) sqs_nil) sqs_nil) (eqs_cons (sq_for PassesOwn.never rfl (xi_seq (XE.toD (xc c__law_no_rows hr (xa_cons (vD 4) xa_nil)))) (pg_name (i := 5) S_law.nd rfl (Or.inl rfl)) (by decide) (sqs_cons (sq_no (qt_ne hr.units (pe_said Fs ms ks bs hr (pv 3) (vD 5)) (xd_tup (xa_cons xd_bl (xa_cons xd_bl (xa_cons xd_bl (xa_cons xd_bl xa_nil))))))) sqs_nil)) (eqs_cons (sq_set (set_d (i := 6) S_law.nd rfl (Or.inl rfl) (XE.toD (xe_blt (call_len_str.or call_len_seq) cd_lenS rfl z_len bt_len (xva_cons (XE.toV (xe_itemS (vV 1) (XE.toV (xe_neg (XD.toV xd_int))))) xva_nil)))) (by decide)) (eqs_cons (sq_set (set_d (i := 7) S_law.nd rfl (Or.inl rfl) (XE.toD (xe_addS (XE.toV (xe_addS (vV 6) (XD.toV xd_int))) (XE.toV (xe_mod (XE.toV (xc c__law_cell_at hr (xa_cons (vD 0) (xa_cons xd_int xa_nil)))) (XE.toV (xe_pow (XD.toV xd_int) (XD.toV xd_int)))))))) (by decide)) (eqs_cons (sq_set (set_d (i := 8) S_law.nd rfl (Or.inl rfl) (XE.toD (xe_sub (XE.toV (xe_neg (XD.toV xd_int))) (XE.toV (xe_mod (XE.toV (xc c__law_cell_at hr (xa_cons (vD 0) (xa_cons xd_int xa_nil)))) (XE.toV (xe_pow (XD.toV xd_int) (XD.toV xd_int)))))))) (by decide)) (eqs_cons (sq_set (set_d (i := 9) S_law.nd rfl (Or.inl rfl) (XE.toD (xe_addS (XE.toV (xc c__law_no_boxes hr (xa_cons (vD 1) xa_nil))) (XE.toV (xe_comp rfl (blk ["k"] [] [] rfl (by decide +kernel) (by decide +kernel) rfl trivial) (xi_seqS (XE.toD (xe_lst (xa_cons (vD 6) (xa_cons (vD 7) (xa_cons (XE.toD (xe_neg (XD.toV xd_int))) (xa_cons (vD 8) xa_nil))))))) (tame_n 0) (fun _ _ _ _ => ⟨(xg_name (i := 0) (show ((["k"] : List Str) ++ ([] : List Str) : List Str).Nodup from by decide +kernel) rfl (Or.inl rfl)), xts_nil, (XE.toD (xe_addS (XD.toV xd_str) (XE.toV (xe_ty call_str_int cd_str rfl z_str bt_str (xva_cons (vV 0) xva_nil)))))⟩)))))) (by decide)) (eqs_cons (sq_for PassesOwn.never rfl (xi_seq (vD 9)) (pg_name (i := 5) S_law.nd rfl (Or.inl rfl)) (by decide) (sqs_cons (sq_no (qt_ne hr.units (pe_said Fs ms ks bs hr (pv 3) (vD 5)) (xd_tup (xa_cons xd_bl (xa_cons xd_bl (xa_cons xd_bl (xa_cons xd_bl xa_nil))))))) sqs_nil)) (eqs_cons (sq_no (qt_ne hr.units (pe_said Fs ms ks bs hr (pv 3) xd_str) (vD 2))) (eqs_cons (sq_set (set_d (i := 10) S_law.nd rfl (Or.inl rfl) (XE.toD (xe_ty call_str_int cd_str rfl z_str bt_str (xva_cons (XE.toV (xe_itemS (vV 1) (XD.toV xd_int))) xva_nil)))) (by decide)) (eqs_cons (sq_if (xt_eq hr.units (XE.toV (xe_itemS (vV 1) (XD.toV xd_int))) (XD.toV xd_str)) (sqs_cons (sq_set (set_d (i := 10) S_law.nd rfl (Or.inl rfl) xd_str) (by decide)) sqs_nil) sqs_nil) (eqs_cons (sq_no (qt_w (qw_or (qt_ne hr.units (pe_said Fs ms ks bs hr (pv 3) (XE.toD (xe_addS (XE.toV (xe_addS (XE.toV (xe_addS (XE.toV (xe_addS (XD.toV xd_str) (vV 10))) (XD.toV xd_str))) (vV 10))) (vV 4)))) xd_str) (qw_or1 (qt_ne hr.units (pe_said Fs ms ks bs hr (pv 3) (XE.toD (xe_addS (XD.toV xd_str) (XE.toV (xe_ty call_str_int cd_str rfl z_str bt_str (xva_cons (vV 6) xva_nil)))))) xd_str))))) (eqs_ret (qv_and (qv_eq hr.units (pe_said Fs ms ks bs hr (pv 3) (XE.toD (xe_addS (XD.toV xd_str) (XE.toV (xe_ty call_str_int cd_str rfl z_str bt_str (xva_cons (vV 6) xva_nil)))))) (xd_tup (xa_cons xd_bl (xa_cons xd_bl (xa_cons xd_bl (xa_cons xd_bl xa_nil)))))) (qv_one (qv_eq hr.units (pe_said Fs ms ks bs hr (pv 3) xd_str) (vD 2))))))))))))))))) h
end
set_option compiler.extract_closed false
set_option hygiene false
local macro_rules | `(tactic| simp_arith $c:optConfig [$xs,*]) => `(tactic| simp $c only [e_lenS_s, e_lenS_l, e_lenS_t, e_lenS_c, e_starts, e_addS_ii, e_addS_ll, e_addS_ss, e_addS_tt, e_inT_ss, e_ixS_l, e_ixS_t, e_ixS_c, e_slS_s, e_slS_l, e_slS_c, e_splitS, e_itemsS_l, e_itemsS_t, e_itemsS_s, e_iseqS, e_fSlS, e_mir, e_om_rt, e_seq, e_bs_nx, e_bs_rt, e_nil, e_set, e_ss_sh, e_ss_fr, e_if, e_if_t, e_if_f, e_ret, e_rs_sh, e_rs_fr, e_app, e_as, e_share, e_sh_ow, e_for, e_fs, e_var, e_vr_sh, e_vr_ow, e_c, e_e, e_ed, e_d, e_dr_sh, e_dr_fr, e_v, e_vv_sh, e_vv_fr, e_vv_vw, e_op, e_o2, e_call, e_cl, e_or_sh, e_or_fr, e_ac, e_ca, e_an, e_lst, e_tup, e_blt, e_bl, e_po, e_pa, e_ap, e_ite, e_it_t, e_it_f, e_isi, e_isi_str, e_isi_lst, e_isi_tup, e_t, e_tr, e_tand, e_ta, e_ta2, e_tor, e_to, e_tnot, e_tn, e_ttru, e_tt_bl, e_vand, e_va, e_va2, e_vor, e_vo, e_vo2, e_vnot, e_vn, e_rg1, e_comp, e_cp, e_neg, e_ng, e_tuple_l, e_st_nx, oEq_ii, oNe_ii, oSub_ii, oLt_ii, oLe_ii, oGt_ii, oGe_ii, at0, at1, at2, oMod_ii, oDiv_ii, subT, entry, Option.bind_some, Option.map_some, List.length_cons, List.length_nil, List.length_map, List.map_cons, List.map_nil, List.cons_append, List.nil_append, List.replicate_succ, List.replicate_zero, List.set_cons_succ, List.set_cons_zero, List.getElem?_cons_succ, List.getElem?_cons_zero, Nat.reduceSub, Nat.reduceAdd, Nat.reduceLT, Int.reduceLT, Int.reduceLE, Int.reduceSub, Int.reduceAdd, Int.reduceMul, Int.reduceMod, Int.reduceDiv, Int.reduceNeg, Int.reducePow, Int.reduceBEq, Int.reduceToNat, ↓reduceIte, Bool.not_true, Bool.true_and, Bool.false_and, Bool.and_true, Bool.and_false, Bool.true_or, Bool.false_or, Bool.or_true, Bool.or_false, Bool.not_false, Nat.zero_add, beq_self_eq_true, Bool.false_eq_true, $xs,*])
set_option compiler.extract_closed true
set_option hygiene true
def digs (m : Nat) : List Nat := (Nat.toDigits 10 m).map Char.toNat
def sgn (i : Int) : List Nat := if i < 0 then 45 :: digs i.natAbs else digs i.natAbs
theorem sgn_at (i : Int) : (PySem.Str.ofString (toString i)).cps.toList = sgn i := by
  cases i with
  | ofNat m => exact (PySem.W.KIN.signs_num m).trans (if_neg (by simp)).symm
  | negSucc m =>
    unfold sgn
    rw [if_pos (Int.negSucc_lt_zero m), PyProof.Rows.signs_ofString]
    show ("-" ++ Nat.repr (m + 1)).toList.map Char.toNat = _
    rw [String.toList_append, List.map_append, Nat.toList_repr]
    rfl
theorem digs_dig {m c : Nat} (h : c ∈ digs m) : 48 ≤ c ∧ c ≤ 57 := by
  obtain ⟨ch, hch, e⟩ := List.mem_map.mp h
  rw [← e]
  exact PyProof.Rows.digit_range (Nat.isDigit_of_mem_toDigits (by decide) (by decide) hch)
theorem digs_small {m : Nat} (h : m < 10) : digs m = [m + 48] := by
  unfold digs
  rw [Nat.toDigits_of_lt_base h]
  have : ∀ d : Nat, d < 10 → (Nat.digitChar d).toNat = d + 48 := by decide
  show [(Nat.digitChar m).toNat] = _
  rw [this m h]
theorem digs_step {m : Nat} (h : ¬ m < 10) : digs m = digs (m / 10) ++ [m % 10 + 48] := by
  have hm : m % 10 < 10 := Nat.mod_lt m (by decide)
  have t : Nat.toDigits 10 (m / 10) ++ Nat.toDigits 10 (m % 10) = Nat.toDigits 10 (10 * (m / 10) + m % 10) := Nat.toDigits_append_toDigits (by decide) (by omega) hm
  rw [Nat.div_add_mod] at t
  have e := digs_small hm
  unfold digs at e ⊢
  rw [← t, List.map_append, e]
theorem digs_len : ∀ {k m : Nat}, m < 10 ^ (k + 1) → (digs m).length ≤ k + 1
  | 0, m, h => by rw [digs_small (by simpa using h)]; exact Nat.le_refl 1
  | k + 1, m, h => by
    by_cases z : m < 10
    · rw [digs_small z]; simp
    · rw [digs_step z, List.length_append]
      have := digs_len (k := k) (m := m / 10) (by rw [Nat.pow_succ] at h; omega)
      simp only [List.length_cons, List.length_nil]
      omega
theorem digs_head (m : Nat) : ∃ c r, digs m = c :: r ∧ (m ≠ 0 → c ≠ 48) := by
  induction m using Nat.strongRecOn with
  | _ m ih =>
    by_cases h : m < 10
    · exact ⟨_, _, digs_small h, fun z => by omega⟩
    · obtain ⟨c, r, e, n⟩ := ih (m / 10) (by omega)
      exact ⟨c, r ++ [m % 10 + 48], by rw [digs_step h, e]; rfl, fun _ => n (by omega)⟩
theorem digs_ne (m : Nat) : digs m ≠ [] := by
  obtain ⟨c, r, e, _⟩ := digs_head m
  rw [e]; simp
theorem len_cps (z : PySem.Str) : z.length = z.cps.toList.length := by simp [PySem.Str.length]
theorem num_len {i : Int} (h : i.natAbs < 10 ^ 40) : (PySem.Str.ofString (toString i)).length ≤ 41 := by
  rw [len_cps, sgn_at]
  have := digs_len (k := 39) h
  unfold sgn
  split
  · simp only [List.length_cons]; omega
  · omega
theorem num_int {i : Int} (h : i.natAbs < 10 ^ 40) : PySem.intText? (PySem.Str.ofString (toString i)) = some i := by
  have hl := num_len h
  by_cases z : i < 0
  · have e : (PySem.Str.ofString (toString i)).cps.toList = 45 :: digs i.natAbs := (sgn_at i).trans (if_pos z)
    rw [PySem.intText_neg e (fun c hc => digs_dig hc) (digs_ne _) (by omega), show PySem.NumText.digitsVal (digs i.natAbs) = i.natAbs from PySem.W.KIN.val_back _]
    congr 1; omega
  · have e : (PySem.Str.ofString (toString i)).cps.toList = digs i.natAbs := (sgn_at i).trans (if_neg z)
    rw [PySem.intText_digits (by rw [e]; exact fun c hc => digs_dig hc) (by rw [e]; exact digs_ne _) (by omega), e, show PySem.NumText.digitsVal (digs i.natAbs) = i.natAbs from PySem.W.KIN.val_back _]
    congr 1; omega
theorem sub_one {x : PySem.Str} {c i : Nat} : (i + 1 ≤ x.length ∧ PySem.Builtin.Str.subAt x ⟨#[c]⟩ i = true) ↔ x.cps.toList[i]? = some c := by
  unfold PySem.Builtin.Str.subAt
  have el : x.length = x.cps.size := rfl
  show (i + 1 ≤ x.cps.size ∧ (x.cps.extract i (i + 1) == #[c]) = true) ↔ _
  rw [Array.getElem?_toList, beq_iff_eq]
  constructor
  · rintro ⟨h1, h2⟩
    have e : (x.cps.extract i (i + 1))[0]? = some c := by rw [h2]; rfl
    rw [Array.getElem?_extract] at e
    split at e
    · simpa using e
    · cases e
  · intro h
    have hi : i < x.cps.size := by
      rcases Nat.lt_or_ge i x.cps.size with z | z
      · exact z
      · rw [Array.getElem?_eq_none z] at h; cases h
    refine ⟨hi, Array.ext_getElem? fun j => ?_⟩
    rw [Array.getElem?_extract]
    rcases Nat.eq_zero_or_pos j with z | z
    · subst z
      rw [if_pos (by omega)]
      simpa using h
    · rw [if_neg (by omega)]
      exact (Array.getElem?_eq_none (by simp; omega)).symm
theorem occ_run (x : PySem.Str) (c : Nat) : ∀ (k i : Nat) (st : Array Nat × Nat), i + k = x.length + 1 → st.1.size ≤ i → st.2 ≤ i →
    (forIn (List.range' i k) st (PySem.StrLaws.occBody x ⟨#[c]⟩ x.length (x.length + 1))).run.fst.toList = st.1.toList ++ (List.range' i k).filter fun j => decide (x.cps.toList[j]? = some c)
  | 0, i, st, _, _, _ => by simp
  | k + 1, i, st, h, h1, h2 => by
    rw [List.range'_succ, List.forIn_cons]
    unfold PySem.StrLaws.occBody
    by_cases z : x.cps.toList[i]? = some c
    · have z' := sub_one.mpr z
      rw [if_pos ⟨⟨⟨by omega, h2⟩, z'.1⟩, z'.2⟩, List.filter_cons_of_pos (by simpa using z)]
      have := occ_run x c k (i + 1) (st.1.push i, i + 1) (by omega) (by simp; omega) (Nat.le_refl _)
      refine this.trans ?_
      simp
    · rw [if_neg (fun w => z (sub_one.mp ⟨w.1.2, w.2⟩)), List.filter_cons_of_neg (by simpa using z)]
      exact occ_run x c k (i + 1) (st.1, st.2) (by omega) (by simp; omega) (by simp; omega)
theorem occ_one (x : PySem.Str) (c : Nat) : PySem.Builtin.Str.occurrences x ⟨#[c]⟩ 0 x.length (x.length + 1) = (List.range' 0 (x.length + 1)).filter fun j => decide (x.cps.toList[j]? = some c) := by
  rw [PySem.StrLaws.occ_eq]
  exact (occ_run x c (x.length + 1) 0 (#[], 0) (by omega) (Nat.zero_le _) (Nat.le_refl _)).trans (List.nil_append _)
def splitL (c : Nat) : List Nat → List (List Nat)
  | [] => [[]]
  | a :: r => if a = c then [] :: splitL c r else match splitL c r with
    | p :: q => (a :: p) :: q
    | [] => [[a]]
theorem sub_list (x : PySem.Str) (a b : Nat) : (PySem.Builtin.Str.strSub x a b).cps.toList = (x.cps.toList.take b).drop a := by
  show (x.cps.extract a b).toList = _
  rw [Array.toList_extract, List.extract_eq_take_drop, List.drop_take]
theorem sub_step {x : PySem.Str} {a b d : Nat} (h : x.cps.toList[a]? = some d) (hb : a < b) : (PySem.Builtin.Str.strSub x a b).cps.toList = d :: (PySem.Builtin.Str.strSub x (a + 1) b).cps.toList := by
  rw [sub_list, sub_list]
  have ha : a < (x.cps.toList.take b).length := by
    rw [List.length_take]
    have := (List.getElem?_eq_some_iff.mp h).1
    omega
  rw [List.drop_eq_getElem_cons ha]
  congr 1
  have e := (List.getElem?_eq_some_iff.mp h).2
  rw [List.getElem_take]
  exact e
def cutsAt (x : PySem.Str) (c a k : Nat) : List Nat := (List.range' a k).filter fun j => decide (x.cps.toList[j]? = some c)
theorem cuts_ge {x : PySem.Str} {c a k j : Nat} (h : j ∈ cutsAt x c a k) : a ≤ j := by
  unfold cutsAt at h
  rw [List.mem_filter, List.mem_range'] at h
  obtain ⟨⟨i, h1, h2⟩, _⟩ := h
  omega
theorem parts_split (x : PySem.Str) (c : Nat) : ∀ (k a : Nat), a + k = x.length → (PySem.StrLaws.partsFrom x 1 a (cutsAt x c a (k + 1))).map (fun z => z.cps.toList) = splitL c (x.cps.toList.drop a)
  | 0, a, h => by
    have hl : x.cps.toList.length = x.length := (len_cps x).symm
    have e : x.cps.toList[a]? = none := List.getElem?_eq_none (by omega)
    have ec : cutsAt x c a 1 = [] := by
      unfold cutsAt
      rw [List.range'_succ, List.filter_cons_of_neg (by simp [e])]; rfl
    rw [ec, List.drop_eq_nil_of_le (by omega)]
    show [(PySem.Builtin.Str.strSub x a x.length).cps.toList] = [[]]
    rw [sub_list, List.drop_eq_nil_of_le (by rw [List.length_take]; omega)]
  | k + 1, a, h => by
    have hl : x.cps.toList.length = x.length := (len_cps x).symm
    have ih := parts_split x c k (a + 1) (by omega)
    have ha : a < x.cps.toList.length := by omega
    have e : x.cps.toList[a]? = some x.cps.toList[a] := List.getElem?_eq_getElem ha
    rw [List.drop_eq_getElem_cons ha]
    have er : List.range' a (k + 1 + 1) = a :: List.range' (a + 1) (k + 1) := List.range'_succ ..
    by_cases z : x.cps.toList[a] = c
    · have ec : cutsAt x c a (k + 1 + 1) = a :: cutsAt x c (a + 1) (k + 1) := by
        unfold cutsAt
        rw [er, List.filter_cons_of_pos (by simp [e, z])]
      rw [ec]
      show (PySem.Builtin.Str.strSub x a a).cps.toList :: (PySem.StrLaws.partsFrom x 1 (a + 1) (cutsAt x c (a + 1) (k + 1))).map (fun z => z.cps.toList) = (if x.cps.toList[a] = c then [] :: splitL c (x.cps.toList.drop (a + 1)) else _)
      rw [if_pos z, ih, sub_list, List.drop_eq_nil_of_le (by rw [List.length_take]; omega)]
    · have ec : cutsAt x c a (k + 1 + 1) = cutsAt x c (a + 1) (k + 1) := by
        unfold cutsAt
        rw [er, List.filter_cons_of_neg (by rw [e, decide_eq_true_iff]; intro y; exact z (Option.some.inj y))]
      rw [ec]
      show _ = (if x.cps.toList[a] = c then _ else match splitL c (x.cps.toList.drop (a + 1)) with | p :: q => (x.cps.toList[a] :: p) :: q | [] => [[x.cps.toList[a]]])
      rw [if_neg z, ← ih]
      cases q : cutsAt x c (a + 1) (k + 1) with
      | nil =>
        show [(PySem.Builtin.Str.strSub x a x.length).cps.toList] = [x.cps.toList[a] :: (PySem.Builtin.Str.strSub x (a + 1) x.length).cps.toList]
        rw [sub_step e (by omega)]
      | cons j r =>
        have hj := cuts_ge (x := x) (c := c) (a := a + 1) (k := k + 1) (j := j) (by rw [q]; exact List.mem_cons_self ..)
        show (PySem.Builtin.Str.strSub x a j).cps.toList :: (PySem.StrLaws.partsFrom x 1 (j + 1) r).map (fun z => z.cps.toList) = (x.cps.toList[a] :: (PySem.Builtin.Str.strSub x (a + 1) j).cps.toList) :: (PySem.StrLaws.partsFrom x 1 (j + 1) r).map (fun z => z.cps.toList)
        rw [sub_step e (by omega)]
theorem split_one {x : PySem.Str} {c : Nat} (hc : c < 256) : (PySem.Txt.split x ⟨#[c]⟩).map (fun z => z.cps.toList) = splitL c x.cps.toList := by
  have key := parts_split x c x.length 0 (by omega)
  rw [List.drop_zero] at key
  rw [← key]
  have whole : (PySem.Builtin.Str.strSub x 0 x.length).cps.toList = x.cps.toList := by
    rw [sub_list, List.drop_zero, List.take_of_length_le (by rw [len_cps]; exact Nat.le_refl _)]
  unfold PySem.Txt.split
  split
  · rename_i h
    have hk : PySem.Builtin.Str.strKind (⟨#[c]⟩ : PySem.Str) = 1 := if_pos (by simpa using hc)
    rw [Bool.or_eq_true, decide_eq_true_iff, decide_eq_true_iff, hk] at h
    have hz : x.length = 0 := by
      rcases h with h | h
      · exact Nat.lt_one_iff.mp h
      · exfalso
        have : 1 ≤ PySem.Builtin.Str.strKind x := by unfold PySem.Builtin.Str.strKind; (repeat' split) <;> decide
        omega
    have ec : cutsAt x c 0 (x.length + 1) = [] := by
      unfold cutsAt
      have : x.cps.toList[0]? = none := List.getElem?_eq_none (by rw [← len_cps, hz]; exact Nat.le_refl _)
      rw [hz, List.range'_succ, List.filter_cons_of_neg (by simp [this])]; rfl
    rw [ec]
    exact (congrArg (fun l => [l]) whole).symm
  · have eo := occ_one x c
    split
    · rename_i h
      rw [List.isEmpty_iff] at h
      have ec : cutsAt x c 0 (x.length + 1) = [] := eo.symm.trans h
      rw [ec]
      exact (congrArg (fun l => [l]) whole).symm
    · rw [PySem.StrLaws.partsBetween_eq, eo]; rfl
def joinL (c : Nat) : List (List Nat) → List Nat
  | [] => []
  | [w] => w
  | w :: v :: r => w ++ c :: joinL c (v :: r)
theorem splitL_no {c : Nat} : ∀ {w : List Nat}, c ∉ w → splitL c w = [w]
  | [], _ => rfl
  | a :: r, h => by
    have h1 : a ≠ c := fun e => h (e ▸ List.mem_cons_self ..)
    have h2 : c ∉ r := fun m => h (List.mem_cons_of_mem _ m)
    show (if a = c then _ else match splitL c r with | p :: q => (a :: p) :: q | [] => [[a]]) = _
    rw [if_neg h1, splitL_no h2]
theorem splitL_app {c : Nat} : ∀ {w l : List Nat}, c ∉ w → splitL c (w ++ c :: l) = w :: splitL c l
  | [], l, _ => if_pos rfl
  | a :: r, l, h => by
    have h1 : a ≠ c := fun e => h (e ▸ List.mem_cons_self ..)
    have h2 : c ∉ r := fun m => h (List.mem_cons_of_mem _ m)
    show (if a = c then _ else match splitL c (r ++ c :: l) with | p :: q => (a :: p) :: q | [] => [[a]]) = _
    rw [if_neg h1, splitL_app h2]
theorem splitL_join {c : Nat} : ∀ {ws : List (List Nat)}, ws ≠ [] → (∀ w ∈ ws, c ∉ w) → splitL c (joinL c ws) = ws
  | [], h, _ => absurd rfl h
  | [w], _, h => splitL_no (h w (List.mem_cons_self ..))
  | w :: v :: r, _, h => by
    show splitL c (w ++ c :: joinL c (v :: r)) = _
    rw [splitL_app (h w (List.mem_cons_self ..)), splitL_join (by simp) fun u hu => h u (List.mem_cons_of_mem _ hu)]
theorem str_ext {x y : PySem.Str} (h : x.cps.toList = y.cps.toList) : x = y := by
  obtain ⟨⟨a⟩⟩ := x
  obtain ⟨⟨b⟩⟩ := y
  cases h
  rfl
theorem map_ext : ∀ {l m : List PySem.Str}, l.map (fun z => z.cps.toList) = m.map (fun z => z.cps.toList) → l = m
  | [], [], _ => rfl
  | [], _ :: _, h => by cases h
  | _ :: _, [], h => by cases h
  | x :: l, y :: m, h => by
    rw [List.map_cons, List.map_cons] at h
    injection h with h1 h2
    rw [str_ext h1, map_ext h2]
theorem glue_fold (c : Nat) : ∀ (r : List PySem.Str) (acc : Array Nat), (r.foldl (fun acc p => acc ++ (⟨#[c]⟩ : PySem.Str).cps ++ p.cps) acc).toList = acc.toList ++ r.flatMap fun p => c :: p.cps.toList
  | [], acc => by simp
  | p :: r, acc => by
    rw [List.foldl_cons, glue_fold c r]
    simp
theorem joinL_flat (c : Nat) : ∀ (w : List Nat) (r : List (List Nat)), joinL c (w :: r) = w ++ r.flatMap fun p => c :: p
  | w, [] => by simp [joinL]
  | w, v :: r => by
    show w ++ c :: joinL c (v :: r) = _
    rw [joinL_flat c v r]
    simp
theorem join_list (c : Nat) : ∀ (ss : List PySem.Str), (PySem.Txt.join ⟨#[c]⟩ ss).cps.toList = joinL c (ss.map fun z => z.cps.toList)
  | [] => rfl
  | x :: r => by
    show ((r.foldl (fun acc p => acc ++ (⟨#[c]⟩ : PySem.Str).cps ++ p.cps) x.cps).toList) = _
    rw [glue_fold, List.map_cons, joinL_flat, List.flatMap_map]
theorem split_join {c : Nat} (hc : c < 256) {ss : List PySem.Str} (h : ss ≠ []) (hn : ∀ z ∈ ss, c ∉ z.cps.toList) : PySem.Txt.split (PySem.Txt.join ⟨#[c]⟩ ss) ⟨#[c]⟩ = ss := by
  apply map_ext
  rw [split_one hc, join_list, splitL_join (by simpa using h)]
  intro w hw
  obtain ⟨z, h1, rfl⟩ := List.mem_map.mp hw
  exact hn z h1
theorem starts_one (z : PySem.Str) (c : Nat) : PySem.Txt.startswith z ⟨#[c]⟩ = decide (z.cps.toList[0]? = some c) := by
  have e := sub_one (x := z) (c := c) (i := 0)
  unfold PySem.Txt.startswith
  show (decide (0 + 1 ≤ z.length) && _) = _
  rw [Bool.eq_iff_iff, Bool.and_eq_true, decide_eq_true_iff, decide_eq_true_iff]
  exact e
theorem in_fig : ∀ c : Nat, 48 ≤ c → c ≤ 57 → inS ⟨#[c]⟩ "0123456789" = true := by
  intro c h1 h2
  obtain ⟨d, rfl⟩ : ∃ d, c = 48 + d := ⟨c - 48, by omega⟩
  have : ∀ d : Nat, d < 10 → inS ⟨#[48 + d]⟩ "0123456789" = true := by decide +kernel
  exact this d (by omega)
theorem sl_from1 {z : PySem.Str} (h : z.cps.toList ≠ []) : (PySem.Txt.slice z (some 1) none).cps.toList = z.cps.toList.drop 1 := by
  have hl : 1 ≤ z.cps.toList.length := List.length_pos_iff.mpr h
  have e : PySem.Txt.slice z (some 1) none = _ := PySem.StrLaws.sliceText_from (x := z) (i := 1) ⟨by decide, by omega⟩
  rw [e]
  show (z.cps.toList.drop 1).take _ = _
  rw [List.take_of_length_le (by rw [List.length_drop]; omega)]
theorem sl_to {z : PySem.Str} (h : z.cps.toList ≠ []) : (PySem.Txt.slice z none (some (-1))).cps.toList = z.cps.toList.dropLast := by
  have hl : 1 ≤ z.cps.toList.length := List.length_pos_iff.mpr h
  have hz := len_cps z
  have e : PySem.Txt.slice z none (some (-1)) = PySem.StrLaws.sliceText z none (some (-1 + z.length)) := PySem.StrLaws.sliceText_neg_hi z none (by decide) (by omega)
  rw [e, PySem.StrLaws.sliceText_to ⟨by omega, by omega⟩]
  show (z.cps.toList.drop 0).take _ = _
  rw [List.drop_zero, List.dropLast_eq_take]
  congr 1
  omega
theorem sl_last {z : PySem.Str} (h : z.cps.toList ≠ []) : (PySem.Txt.slice z (some (-1)) none).cps.toList = [z.cps.toList.getLast h] := by
  have hl : 1 ≤ z.cps.toList.length := List.length_pos_iff.mpr h
  have hz := len_cps z
  have e : PySem.Txt.slice z (some (-1)) none = PySem.StrLaws.sliceText z (some (-1 + z.length)) none := PySem.StrLaws.sliceText_neg_lo z none (by decide) (by omega)
  rw [e, PySem.StrLaws.sliceText_from ⟨by omega, by omega⟩]
  show (z.cps.toList.drop _).take _ = _
  rw [List.take_of_length_le (by rw [List.length_drop]; omega), show ((-1 : Int) + z.length).toNat = z.cps.toList.length - 1 by omega]
  rw [List.drop_eq_getElem_cons (by omega), List.getLast_eq_getElem]
  congr 1
  exact List.drop_eq_nil_of_le (by omega)
theorem compD_relA {α : Type} {g : FG} {c : FT} {f : FD} (P : WSt → Prop) (q : α → Bool) (B F : α → D) : ∀ (xs : List α) {ω : WSt}, P ω →
    (∀ x ∈ xs, ∀ ω, P ω → ∃ w, g (B x) ω = some w ∧ P w ∧ c w = some (q x) ∧ (q x = true → f w = some (F x))) → compD g c f (xs.map B) ω = some ((xs.filter q).map F)
  | [], _, _, _ => rfl
  | x :: xs, ω, h, t => by
    obtain ⟨w, h1, h2, h3, h4⟩ := t x List.mem_cons_self ω h
    have ih := compD_relA P q B F xs h2 (fun e he => t e (List.mem_cons_of_mem _ he))
    rw [List.map_cons, compD, h1, Option.bind_some, h3, Option.bind_some]
    cases hq : q x with
    | true => rw [if_pos rfl, h4 hq, Option.bind_some, ih, List.filter_cons_of_pos hq]; rfl
    | false => rw [if_neg (by decide), ih, List.filter_cons_of_neg (by rw [hq]; decide)]
theorem compD_filA {α : Type} {i : Nat} {c : FT} {f : FD} (q : α → Bool) (B F : α → D) (xs : List α) {ω : WSt} (h : ∀ x ∈ xs, c (ω.set i (some (.sh (B x)))) = some (q x) ∧ (q x = true → f (ω.set i (some (.sh (B x)))) = some (F x))) : compD (gN i) c f (xs.map B) ω = some ((xs.filter q).map F) :=
  compD_relA (g := gN i) (c := c) (f := f) (fun w => ∀ x, w.set i x = ω.set i x) q B F xs (ω := ω) (fun x => rfl) fun d hd w hw =>
    ⟨w.set i (some (.sh (B d))), rfl, fun x => by rw [List.set_set, hw], by rw [hw]; exact (h d hd).1, fun z => by rw [hw]; exact (h d hd).2 z⟩
theorem compD_mapA {α : Type} {i : Nat} {f : FD} (B F : α → D) (xs : List α) {ω : WSt} (h : ∀ x ∈ xs, f (ω.set i (some (.sh (B x)))) = some (F x)) : compD (gN i) tTrue f (xs.map B) ω = some (xs.map F) := by
  have := compD_filA (c := tTrue) (i := i) (f := f) (fun _ => true) B F xs (ω := ω) fun x hx => ⟨rfl, fun _ => h x hx⟩
  rw [this, List.filter_eq_self.mpr (fun _ _ => rfl)]
theorem bAll_a {α : Type} (q : α → Bool) : ∀ bs : List α, allB (bs.map fun p => D.bl (q p)) = some (bs.all q)
  | [] => rfl
  | b :: r => by
    show (allB (r.map fun p => D.bl (q p))).map _ = _
    rw [bAll_a q r]; rfl
def NumT (z : PySem.Str) (fs : List Nat) : Prop := (∀ c ∈ fs, 48 ≤ c ∧ c ≤ 57) ∧ fs ≠ [] ∧ fs.length ≤ 40 ∧ (z.cps.toList = fs ∨ z.cps.toList = 45 :: fs) ∧ (z.cps.toList = [48] ∨ fs[0]? ≠ some 48)
theorem num_T {i : Int} (h : i.natAbs < 10 ^ 40) : NumT (PySem.Str.ofString (toString i)) (digs i.natAbs) := by
  refine ⟨fun c hc => digs_dig hc, digs_ne _, digs_len (k := 39) h, ?_, ?_⟩
  · rw [sgn_at]
    unfold sgn
    split
    · exact .inr rfl
    · exact .inl rfl
  · by_cases z : i = 0
    · subst z
      exact .inl rfl
    · obtain ⟨c, r, e, n⟩ := digs_head i.natAbs
      refine .inr ?_
      rw [e]
      intro y
      exact n (by omega) (Option.some.inj y)
theorem shp_str {z : PySem.Str} (h : ∀ c ∈ z.cps.toList, c < 128) : shp (.str z) = true := by
  have e : PyData.strOk z = true := by
    unfold PyData.strOk
    rw [← Array.all_toList, List.all_eq_true]
    intro c hc
    have := h c hc
    simp
    omega
  show (PyData.strOk z && true) = true
  rw [e]; rfl
theorem oEq_ss {z y : PySem.Str} (h1 : ∀ c ∈ z.cps.toList, c < 128) (h2 : ∀ c ∈ y.cps.toList, c < 128) : oEq false (.str z) (.str y) = some (.sh (.bl (decide (z.cps.toList = y.cps.toList)))) := by
  unfold oEq
  rw [shp_str h1, shp_str h2]
  show some (R.sh (.bl (z == y))) = _
  congr 3
  rw [Bool.eq_iff_iff, decide_eq_true_iff, beq_iff_eq]
  exact ⟨fun e => by rw [e], fun e => str_ext e⟩
theorem is_number_at {z : PySem.Str} {fs : List Nat} (h : NumT z fs) : m_is_number [.str z] = some (.sh (.bl true)) := by
  obtain ⟨h1, h2, h3, h4, h5⟩ := h
  have hz : z.length ≤ 41 := by
    rw [len_cps]
    rcases h4 with h4 | h4
    · rw [h4]; omega
    · rw [h4, List.length_cons]; omega
  have key : ∃ y : PySem.Str, y.cps.toList = fs ∧ (if PySem.Txt.startswith z "-" = true then PySem.Txt.slice z (some 1) none else z) = y := by
    have es : PySem.Txt.startswith z "-" = decide (z.cps.toList[0]? = some 45) := starts_one z 45
    rw [es]
    rcases h4 with h4 | h4
    · refine ⟨z, h4, if_neg ?_⟩
      rw [decide_eq_true_iff, h4]
      intro e
      have := h1 45 (List.mem_of_getElem? e)
      omega
    · refine ⟨_, ?_, if_pos ?_⟩
      · rw [sl_from1 (by rw [h4]; simp), h4]; rfl
      · rw [decide_eq_true_iff, h4]; rfl
  obtain ⟨y, hy, ky⟩ := key
  have hyl : y.length = fs.length := by rw [len_cps, hy]
  have ha : y.cps.all (· < 128) = true := by
    rw [← Array.all_toList, hy, List.all_eq_true]
    intro c hc
    have := h1 c hc
    simp; omega
  have hs : signsOf y = fs.map fun c => D.str ⟨#[c]⟩ := by unfold signsOf; rw [hy]
  have hz6 : z.length ≤ 1000000 := by omega
  have hy6 : y.length ≤ 1000000 := by omega
  have hc : ∀ (ω : WSt), compD (gN 0) tTrue E1_is_number (fs.map fun c => D.str ⟨#[c]⟩) [none] = some (fs.map fun _ => D.bl true) := by
    intro ω
    refine compD_mapA (i := 0) (fun c => D.str ⟨#[c]⟩) (fun _ => D.bl true) fs fun c hc => ?_
    have := in_fig c (h1 c hc).1 (h1 c hc).2
    simp_arith [E1_is_number, this]
  have hall : bAll [.lst (fs.map fun _ => D.bl true)] = some (.sh (.bl true)) := by
    have : ∀ l : List Nat, allB (l.map fun _ => D.bl true) = some true := fun l => by
      induction l with
      | nil => rfl
      | cons a r ih => show (allB (r.map fun _ => D.bl true)).map _ = _; rw [ih]; rfl
    show (allB _).map _ = _
    rw [this]; rfl
  have hm : fs.length ≤ 1000000 := by omega
  have hi : ∀ a b : Option W, inW 1 [] [a, b] = [none] := fun _ _ => rfl
  have eq0 : oEq false (.str z) (.str "0") = some (.sh (.bl (decide (z.cps.toList = [48])))) := by
    refine (oEq_ss ?_ ?_).trans rfl
    · intro c hc
      rcases h4 with h4 | h4
      · rw [h4] at hc
        have := h1 c hc
        omega
      · rw [h4, List.mem_cons] at hc
        rcases hc with hc | hc
        · omega
        · have := h1 c hc
          omega
    · decide
  have fin : (decide (z.cps.toList = [48]) || !decide (fs[0]? = some 48)) = true := by
    rcases h5 with h5 | h5
    · rw [decide_eq_true h5]; rfl
    · rw [decide_eq_false h5, Bool.not_false, Bool.or_true]
  have st0 : PySem.Txt.startswith y "0" = decide (fs[0]? = some 48) := by
    have := starts_one y 48
    rw [hy] at this
    exact this
  have hne : 1 ≤ fs.length := List.length_pos_iff.mpr h2
  have d1 : decide ((y.length : Int) < 1) = false := decide_eq_false (by omega)
  have d2 : decide (40 < (y.length : Int)) = false := decide_eq_false (by omega)
  have hc0 := hc []
  cases hb : PySem.Txt.startswith z "-" with
  | true =>
    rw [hb, if_pos rfl] at ky
    simp_arith [m_is_number, B_is_number, hb, hz6, ky, hy6, hs, ha, hall, d1, d2, hc0, hm, hi, eq0, st0]
    rw [fin]
  | false =>
    rw [hb, if_neg (by decide)] at ky
    subst ky
    simp_arith [m_is_number, B_is_number, hb, hz6, hy6, hs, ha, hall, d1, d2, hc0, hm, hi, eq0, st0]
    rw [fin]
theorem num_no {z : PySem.Str} {fs : List Nat} (h : NumT z fs) {c : Nat} (hc : c ∈ z.cps.toList) : 45 ≤ c ∧ c ≤ 57 := by
  obtain ⟨h1, h2, h3, h4, h5⟩ := h
  rcases h4 with h4 | h4
  · rw [h4] at hc
    have := h1 c hc
    omega
  · rw [h4, List.mem_cons] at hc
    rcases hc with hc | hc
    · omega
    · have := h1 c hc
      omega
theorem num_short {z : PySem.Str} {fs : List Nat} (h : NumT z fs) : z.cps.toList.length ≤ 41 := by
  obtain ⟨h1, h2, h3, h4, h5⟩ := h
  rcases h4 with h4 | h4
  · rw [h4]; omega
  · rw [h4, List.length_cons]; omega
theorem pair_split {w sa sb : PySem.Str} {fa fb : List Nat} (ha : NumT sa fa) (hb : NumT sb fb) (hw : w.cps.toList = sa.cps.toList ++ 62 :: sb.cps.toList) : PySem.Txt.split w ">" = [sa, sb] := by
  apply map_ext
  have e := split_one (x := w) (c := 62) (by decide)
  refine e.trans ?_
  rw [hw, splitL_app (fun m => by have := num_no ha m; omega), splitL_no (fun m => by have := num_no hb m; omega)]
  rfl
theorem is_pair_at {w sa sb : PySem.Str} {fa fb : List Nat} (ha : NumT sa fa) (hb : NumT sb fb) (hw : w.cps.toList = sa.cps.toList ++ 62 :: sb.cps.toList) : m_is_pair [.str w] = some (.sh (.bl true)) := by
  have hs := pair_split ha hb hw
  have h1 := num_short ha
  have h2 := num_short hb
  have hl : w.length + 2 ≤ 1000000 := by rw [len_cps, hw, List.length_append, List.length_cons]; omega
  have hk : ((">" : PySem.Str).length == 0) = false := by decide
  have na := is_number_at ha
  have nb := is_number_at hb
  have es : oSplit (.str w) (.str ">") = some (.fr [.str sa, .str sb]) := by rw [e_splitS ⟨hk, hl⟩, hs]; rfl
  have hc : compD (gN 0) tTrue E1_is_pair [.str sa, .str sb] [none] = some [.bl true, .bl true] := by
    refine compD_mapA (i := 0) (fun z => D.str z) (fun _ => D.bl true) [sa, sb] fun z hz => ?_
    have nz : m_is_number [.str z] = some (.sh (.bl true)) := by
      rcases List.mem_cons.mp hz with rfl | hz
      · exact na
      · rw [List.mem_singleton.mp hz]; exact nb
    simp_arith [E1_is_pair, nz]
  have hi : ∀ a b : Option W, inW 1 [] [a, b] = [none] := fun _ _ => rfl
  have hall : bAll [.lst [.bl true, .bl true]] = some (.sh (.bl true)) := rfl
  have hcr : ∀ a b, compR 1 [] (some [D.str sa, D.str sb]) (gN 0) tTrue E1_is_pair [a, b] = some (.fr [.bl true, .bl true]) := fun a b => by rw [e_cp (by show 2 ≤ 1000000; decide), hi, hc]; rfl
  have two : (((2 : Nat) : Int) == 2) = true := rfl
  simp_arith [m_is_pair, B_is_pair, es, hcr, hall, two, if_true]
theorem read_pair_at {w : PySem.Str} {a b : Int} (ha : a.natAbs < 10 ^ 40) (hb : b.natAbs < 10 ^ 40) (hw : w.cps.toList = sgn a ++ 62 :: sgn b) : m_read_pair [.str w] = some (.sh (.tup [.int a, .int b])) := by
  have hs := pair_split (w := w) (num_T ha) (num_T hb) (by rw [sgn_at, sgn_at]; exact hw)
  have h1 := num_short (num_T ha)
  have h2 := num_short (num_T hb)
  have hl : w.length + 2 ≤ 1000000 := by rw [len_cps, hw, List.length_append, List.length_cons, ← sgn_at, ← sgn_at]; omega
  have hk : ((">" : PySem.Str).length == 0) = false := by decide
  have es : oSplit (.str w) (.str ">") = some (.fr [.str (PySem.Str.ofString (toString a)), .str (PySem.Str.ofString (toString b))]) := by rw [e_splitS ⟨hk, hl⟩, hs]; rfl
  have rd : ∀ i : Int, i.natAbs < 10 ^ 40 → bIntS [.str (PySem.Str.ofString (toString i))] = some (.sh (.int i)) := fun i h => by
    have := num_len h
    unfold bIntS
    dsimp only
    rw [if_pos (by omega), num_int h]; rfl
  have hc : compD (gN 0) tTrue E1_read_pair [.str (PySem.Str.ofString (toString a)), .str (PySem.Str.ofString (toString b))] [none] = some [.int a, .int b] := by
    refine compD_mapA (i := 0) (fun i : Int => D.str (PySem.Str.ofString (toString i))) (fun i => D.int i) [a, b] fun i hi => ?_
    have hi' : i.natAbs < 10 ^ 40 := by
      rcases List.mem_cons.mp hi with rfl | hi
      · exact ha
      · rw [List.mem_singleton.mp hi]; exact hb
    simp_arith [E1_read_pair, rd i hi']
  have hcr : ∀ a', compR 1 [] (some [D.str (PySem.Str.ofString (toString a)), D.str (PySem.Str.ofString (toString b))]) (gN 0) tTrue E1_read_pair [a'] = some (.fr [.int a, .int b]) := fun a' => by
    rw [e_cp (by show 2 ≤ 1000000; decide), show inW 1 [] [a'] = [none] from rfl, hc]; rfl
  simp_arith [m_read_pair, B_read_pair, es, hcr]
theorem kind_eq {k y : PySem.Str} (h1 : (k.cps.toList.all fun c => decide (c < 128)) = true) (h2 : (y.cps.toList.all fun c => decide (c < 128)) = true) : oEq false (.str k) (.str y) = some (.sh (.bl (decide (k.cps.toList = y.cps.toList)))) :=
  oEq_ss (fun c hc => of_decide_eq_true (List.all_eq_true.mp h1 c hc)) fun c hc => of_decide_eq_true (List.all_eq_true.mp h2 c hc)
def ringW (a b : Int) (s : Nat) : List Nat := sgn a ++ 62 :: sgn b ++ [s]
theorem in_sign {y : D} {ys : List D} (h1 : (flatD y && ys.all flatD) = true) (h2 : inD y ys = true) : oIn false y (.tup ys) = some (.sh (.bl true)) := by
  unfold oIn
  dsimp only
  rw [if_pos h1, h2]; rfl
theorem sign_in {y : PySem.Str} {s : Nat} (hs : s = 43 ∨ s = 45) (h : y.cps.toList = [s]) : oInT false (.str y) (.tup [.str "+", .str "-"]) = some (.sh (.bl true)) := by
  rcases hs with rfl | rfl
  · have : y = "+" := str_ext h
    subst this
    exact in_sign (y := .str "+") (ys := [.str "+", .str "-"]) (by decide +kernel) (by decide +kernel)
  · have : y = "-" := str_ext h
    subst this
    exact in_sign (y := .str "-") (ys := [.str "+", .str "-"]) (by decide +kernel) (by decide +kernel)
theorem is_box_word_ring {w : PySem.Str} {a b : Int} {s : Nat} (ha : a.natAbs < 10 ^ 40) (hb : b.natAbs < 10 ^ 40) (hs : s = 43 ∨ s = 45) (hw : w.cps.toList = ringW a b s) : m_is_box_word [.str "ring", .str w] = some (.sh (.bl true)) := by
  have hne : w.cps.toList ≠ [] := by rw [hw]; unfold ringW; simp
  have h1 := num_short (num_T ha)
  have h2 := num_short (num_T hb)
  have hl : w.length ≤ 1000000 := by rw [len_cps, hw]; unfold ringW; rw [List.length_append, List.length_append, List.length_cons, ← sgn_at, ← sgn_at]; simp only [List.length_cons, List.length_nil]; omega
  have l1 : (PySem.Txt.slice w (some (-1)) none).cps.toList = [s] := by
    rw [sl_last hne]
    congr 1
    simp only [hw, ringW, List.getLast_append, List.getLast_singleton]
    simp
  have l2 : (PySem.Txt.slice w none (some (-1))).cps.toList = sgn a ++ 62 :: sgn b := by
    rw [sl_to hne, hw]
    unfold ringW
    rw [List.dropLast_append_of_ne_nil (by simp)]
    simp
  have p1 := sign_in hs l1
  have p2 := is_pair_at (w := PySem.Txt.slice w none (some (-1))) (num_T ha) (num_T hb) (by rw [sgn_at, sgn_at]; exact l2)
  have k1 : oEq false (.str "ring") (.str "ring") = some (.sh (.bl true)) := by rw [kind_eq (by decide) (by decide), decide_eq_true rfl]
  simp_arith [m_is_box_word, B_is_box_word, hl, k1, p1, p2]
def pairW (a b : Int) : List Nat := sgn a ++ 62 :: sgn b
theorem kind_no {k : PySem.Str} (hk : k = "rail" ∨ k = "gate") : oEq false (.str k) (.str "ring") = some (.sh (.bl false)) := by
  rcases hk with rfl | rfl
  · rw [kind_eq (by decide) (by decide), decide_eq_false (by decide)]
  · rw [kind_eq (by decide) (by decide), decide_eq_false (by decide)]
theorem kind_yes : oEq false (.str "ring") (.str "ring") = some (.sh (.bl true)) := by rw [kind_eq (by decide) (by decide), decide_eq_true rfl]
theorem is_box_word_pair {k w : PySem.Str} {a b : Int} (hk : k = "rail" ∨ k = "gate") (ha : a.natAbs < 10 ^ 40) (hb : b.natAbs < 10 ^ 40) (hw : w.cps.toList = pairW a b) : m_is_box_word [.str k, .str w] = some (.sh (.bl true)) := by
  have k1 := kind_no hk
  have p2 := is_pair_at (w := w) (num_T ha) (num_T hb) (by rw [sgn_at, sgn_at]; exact hw)
  simp_arith [m_is_box_word, B_is_box_word, k1, p2]
theorem read_box_pair {k w : PySem.Str} {a b : Int} (hk : k = "rail" ∨ k = "gate") (ha : a.natAbs < 10 ^ 40) (hb : b.natAbs < 10 ^ 40) (hw : w.cps.toList = pairW a b) : m_read_box [.str k, .str w] = some (.sh (.tup [.int a, .int b])) := by
  have k1 := kind_no hk
  have p2 := read_pair_at (w := w) ha hb hw
  simp_arith [m_read_box, B_read_box, k1, p2]
theorem atI_last {l : List Nat} {s : Nat} : atI (l ++ [s]) (-1) = some s := by
  have e : ixN (l ++ [s]).length (-1) = some l.length := by
    unfold ixN
    rw [List.length_append, List.length_singleton]
    simp
    omega
  unfold atI
  rw [e]
  show (l ++ [s])[l.length]? = some s
  simp
theorem read_box_sign {w : PySem.Str} {a b v : Int} {s : Nat} (ha : a.natAbs < 10 ^ 40) (hb : b.natAbs < 10 ^ 40) (hv : (s = 43 ∧ v = 1) ∨ (s = 45 ∧ v = -1)) (hw : w.cps.toList = ringW a b s) : m_read_box [.str "ring", .str w] = some (.sh (.tup [.int a, .int b, .int v])) := by
  have hne : w.cps.toList ≠ [] := by rw [hw]; unfold ringW; simp
  have h1 := num_short (num_T ha)
  have h2 := num_short (num_T hb)
  have hl : w.length ≤ 1000000 := by rw [len_cps, hw]; unfold ringW; rw [List.length_append, List.length_append, List.length_cons, ← sgn_at, ← sgn_at]; simp only [List.length_cons, List.length_nil]; omega
  have l2 : (PySem.Txt.slice w none (some (-1))).cps.toList = sgn a ++ 62 :: sgn b := by
    rw [sl_to hne, hw]
    unfold ringW
    rw [List.dropLast_append_of_ne_nil (by simp)]
    simp
  have k1 := kind_yes
  have p2 := read_pair_at (w := PySem.Txt.slice w none (some (-1))) ha hb l2
  have p3 : oIxS (.str w) (.int (-1)) = some (.sh (.str ⟨#[s]⟩)) := by
    have e : atI w.cps.toList (-1) = some s := by
      rw [hw]
      unfold ringW
      exact atI_last
    show (if w.length ≤ 1000000 then _ else _) = _
    rw [if_pos hl, e]; rfl
  have ad : oAddS (.tup [.int a, .int b]) (.tup [.int v]) = some (.sh (.tup [.int a, .int b, .int v])) := rfl
  rcases hv with ⟨rfl, rfl⟩ | ⟨rfl, rfl⟩
  · have p4 : oEq false (.str ⟨#[43]⟩) (.str "+") = some (.sh (.bl true)) := by rw [kind_eq (by decide) (by decide), decide_eq_true (by decide)]
    simp_arith [m_read_box, B_read_box, k1, hl, p2, p3, p4, ad]
  · have p4 : oEq false (.str ⟨#[45]⟩) (.str "+") = some (.sh (.bl false)) := by rw [kind_eq (by decide) (by decide), decide_eq_false (by decide)]
    simp_arith [m_read_box, B_read_box, k1, hl, p2, p3, p4, ad]
theorem cut_take {α : Type} {xs : List α} {k : Int} (h : 0 ≤ k) : cutD xs none (some k) = xs.take k.toNat := by
  unfold cutD
  have e : HT.sIx xs.length xs.length (some k) = min k.toNat xs.length := by
    have := HT.sIx_nat xs.length xs.length k.toNat
    rw [show ((k.toNat : Nat) : Int) = k by omega] at this
    exact this
  rw [HT.sIx_none, e, Nat.sub_zero, List.drop_zero, List.take_eq_take_iff]
  omega
theorem cut_drop {α : Type} {xs : List α} {k : Int} (h : 0 ≤ k) : cutD xs (some k) none = xs.drop k.toNat := by
  unfold cutD
  have e : HT.sIx xs.length 0 (some k) = min k.toNat xs.length := by
    have := HT.sIx_nat xs.length 0 k.toNat
    rw [show ((k.toNat : Nat) : Int) = k by omega] at this
    exact this
  rw [HT.sIx_none, e, List.take_of_length_le (by rw [List.length_drop]; omega)]
  rcases Nat.le_total k.toNat xs.length with z | z
  · rw [Nat.min_eq_left z]
  · rw [Nat.min_eq_right z, List.drop_length, List.drop_of_length_le z]
structure Bq where
  a : Int
  b : Int
  v : List Int
def Bq.dat (p : Bq) : D := .tup (.int p.a :: .int p.b :: p.v.map D.int)
def sg (v : Int) : Nat := if v = 1 then 43 else 45
def Bq.w (p : Bq) : List Nat := sgn p.a ++ 62 :: sgn p.b ++ p.v.map sg
def strL (l : List Nat) : PySem.Str := ⟨l.toArray⟩
theorem strL_l (l : List Nat) : (strL l).cps.toList = l := List.toList_toArray
def nw (i : Int) : PySem.Str := PySem.Str.ofString (toString i)
def Sm (i : Int) : Prop := i.natAbs < 10 ^ 40
def KO (k : PySem.Str) (p : Bq) : Prop := (((k = "rail" ∨ k = "gate") ∧ p.v = []) ∨ (k = "ring" ∧ (p.v = [1] ∨ p.v = [-1]))) ∧ Sm p.a ∧ Sm p.b
def HN (k : PySem.Str) (n : Nat) : Prop := (k = "rail" ∧ n = 2) ∨ (k = "gate" ∧ n = 1) ∨ (k = "ring" ∧ n = 3)
def wordsOf (k : PySem.Str) (ns : List Int) (bs : List Bq) : List PySem.Str := k :: (ns.map nw ++ bs.map fun p => strL p.w)
theorem box_word_at {k : PySem.Str} {p : Bq} (h : KO k p) : m_is_box_word [.str k, .str (strL p.w)] = some (.sh (.bl true)) := by
  obtain ⟨a, b, v⟩ := p
  obtain ⟨h, ha, hb⟩ := h
  dsimp only at h ha hb
  rcases h with ⟨hk, rfl⟩ | ⟨rfl, rfl | rfl⟩
  · exact is_box_word_pair hk ha hb (by rw [strL_l]; show sgn a ++ 62 :: sgn b ++ [] = _; rw [List.append_nil]; rfl)
  · exact is_box_word_ring ha hb (.inl rfl) (by rw [strL_l]; rfl)
  · exact is_box_word_ring ha hb (.inr rfl) (by rw [strL_l]; rfl)
theorem read_box_at {k : PySem.Str} {p : Bq} (h : KO k p) : m_read_box [.str k, .str (strL p.w)] = some (.sh p.dat) := by
  obtain ⟨a, b, v⟩ := p
  obtain ⟨h, ha, hb⟩ := h
  dsimp only at h ha hb
  rcases h with ⟨hk, rfl⟩ | ⟨rfl, rfl | rfl⟩
  · exact read_box_pair hk ha hb (by rw [strL_l]; show sgn a ++ 62 :: sgn b ++ [] = _; rw [List.append_nil]; rfl)
  · exact read_box_sign ha hb (.inl ⟨rfl, rfl⟩) (by rw [strL_l]; rfl)
  · exact read_box_sign ha hb (.inr ⟨rfl, rfl⟩) (by rw [strL_l]; rfl)
theorem cut_mid {α : Type} {x : α} {xs ys : List α} : cutD (x :: (xs ++ ys)) (some 1) (some (1 + (xs.length : Int))) = xs := by
  unfold cutD
  have e1 : HT.sIx (x :: (xs ++ ys)).length 0 (some 1) = 1 := by
    unfold HT.sIx
    dsimp only
    rw [if_neg (by omega), List.length_cons]
    omega
  have e2 : HT.sIx (x :: (xs ++ ys)).length (x :: (xs ++ ys)).length (some (1 + (xs.length : Int))) = 1 + xs.length := by
    unfold HT.sIx
    dsimp only
    rw [if_neg (by omega), List.length_cons, List.length_append]
    omega
  rw [e1, e2]
  show (xs ++ ys).take (1 + xs.length - 1) = xs
  rw [show 1 + xs.length - 1 = xs.length by omega, List.take_left]
theorem cut_end {α : Type} {x : α} {xs ys : List α} : cutD (x :: (xs ++ ys)) (some (1 + (xs.length : Int))) none = ys := by
  unfold cutD
  have e2 : HT.sIx (x :: (xs ++ ys)).length 0 (some (1 + (xs.length : Int))) = 1 + xs.length := by
    unfold HT.sIx
    dsimp only
    rw [if_neg (by omega), List.length_cons, List.length_append]
    omega
  rw [e2, HT.sIx_none, show 1 + xs.length = xs.length + 1 by omega, List.drop_succ_cons, List.drop_left, List.take_of_length_le (by rw [List.length_cons, List.length_append]; omega)]
theorem hall_a {α : Type} (l : List α) : bAll [.lst (l.map fun _ => D.bl true)] = some (.sh (.bl true)) := by
  show (allB _).map _ = _
  rw [bAll_a (fun _ => true) l, List.all_eq_true.mpr (fun _ _ => rfl)]; rfl
theorem tab_in {k : PySem.Str} {n : Nat} (h : HN k n) : PyProof.Rows.KTD.inKeys k [(("rail" : PySem.Str), (2 : Int)), ("gate", 1), ("ring", 3)] = true := by
  rcases h with ⟨rfl, _⟩ | ⟨rfl, _⟩ | ⟨rfl, _⟩ <;> decide
theorem tab_at {k : PySem.Str} {n : Nat} (h : HN k n) : PyProof.Rows.KTD.datumAt k [(("rail" : PySem.Str), (2 : Int)), ("gate", 1), ("ring", 3)] = some (n : Int) := by
  rcases h with ⟨rfl, rfl⟩ | ⟨rfl, rfl⟩ | ⟨rfl, rfl⟩ <;> decide
theorem words_D (k : PySem.Str) (ns : List Int) (bs : List Bq) : (wordsOf k ns bs).map D.str = .str k :: (ns.map (fun i => D.str (nw i)) ++ bs.map fun p => D.str (strL p.w)) := by
  unfold wordsOf
  rw [List.map_cons, List.map_append, List.map_map, List.map_map]
  rfl
theorem tells_at {k : PySem.Str} {ns : List Int} {bs : List Bq} (hn : HN k ns.length) (h1 : ∀ i ∈ ns, Sm i) (h2 : ∀ p ∈ bs, KO k p) (hb : bs.length ≤ 1000) : m_tells [.lst ((wordsOf k ns bs).map D.str)] = some (.sh (.bl true)) := by
  rw [words_D]
  have t1 := tab_in hn
  have t2 := tab_at hn
  have hl : ns.length ≤ 3 := by rcases hn with ⟨_, e⟩ | ⟨_, e⟩ | ⟨_, e⟩ <;> omega
  generalize hx : (ns.map fun i => D.str (nw i)) = xs
  generalize hy : (bs.map fun p => D.str (strL p.w)) = ys
  have lx : xs.length = ns.length := by rw [← hx, List.length_map]
  have ly : ys.length = bs.length := by rw [← hy, List.length_map]
  have c1 := cut_mid (x := D.str k) (xs := xs) (ys := ys)
  have c2 := cut_end (x := D.str k) (xs := xs) (ys := ys)
  rw [lx] at c1 c2
  have k1 : ∀ a b c, compR 1 [] (some xs) (gN 0) tTrue E1_tells [a, b, c] = some (.fr (ns.map fun _ => D.bl true)) := fun a b c => by
    rw [e_cp (by omega), show inW 1 [] [a, b, c] = [none] from rfl, ← hx, compD_mapA (i := 0) (fun i : Int => D.str (nw i)) (fun _ => D.bl true) ns fun i hi => ?_]
    · rfl
    · have := is_number_at (num_T (h1 i hi))
      simp_arith [E1_tells, nw, this]
  have k2 : ∀ a c, compR 1 [1] (some ys) (gN 0) tTrue E2_tells [a, some (.sh (.str k)), c] = some (.fr (bs.map fun _ => D.bl true)) := fun a c => by
    rw [e_cp (by omega), show inW 1 [1] [a, some (.sh (.str k)), c] = [none, some (.sh (.str k))] from rfl, ← hy, compD_mapA (i := 0) (fun p : Bq => D.str (strL p.w)) (fun _ => D.bl true) bs fun p hp => ?_]
    · rfl
    · have := box_word_at (h2 p hp)
      simp_arith [E2_tells, this]
  have a1 := hall_a ns
  have a2 := hall_a bs
  have d1 : decide ((((D.str k :: (xs ++ ys)).length : Nat) : Int) < 1 + (ns.length : Int)) = false := decide_eq_false (by rw [List.length_cons, List.length_append]; omega)
  have d2 : decide (((ns.length + bs.length + 1 : Nat) : Int) < 1 + (ns.length : Int)) = false := decide_eq_false (by omega)
  simp_arith [m_tells, B_tells, inG, ixG, t1, t2, c1, c2, k1, k2, a1, a2, d1, d2, List.length_append, lx, ly]
theorem tab_two {k : PySem.Str} {n : Nat} (h : HN k n) : 1 ≤ n ∧ n ≤ 3 := by rcases h with ⟨_, e⟩ | ⟨_, e⟩ | ⟨_, e⟩ <;> omega
theorem rd_num {i : Int} (h : Sm i) : bIntS [.str (nw i)] = some (.sh (.int i)) := by
  have := num_len h
  unfold bIntS nw
  dsimp only
  rw [if_pos (by omega), num_int h]; rfl
def thingD (k : PySem.Str) (ns : List Int) (bs : List Bq) : D := .tup (.str k :: (ns.map D.int ++ [.lst (bs.map Bq.dat)]))
theorem read_words_at {k : PySem.Str} {ns : List Int} {bs : List Bq} (hn : HN k ns.length) (h1 : ∀ i ∈ ns, Sm i) (h2 : ∀ p ∈ bs, KO k p) (hb : bs.length ≤ 1000) : m_read_words [.lst ((wordsOf k ns bs).map D.str)] = some (.sh (thingD k ns bs)) := by
  rw [words_D]
  have t1 := tab_in hn
  have t2 := tab_at hn
  have hl := tab_two hn
  generalize hx : (ns.map fun i => D.str (nw i)) = xs
  generalize hy : (bs.map fun p => D.str (strL p.w)) = ys
  have lx : xs.length = ns.length := by rw [← hx, List.length_map]
  have ly : ys.length = bs.length := by rw [← hy, List.length_map]
  have c1 := cut_mid (x := D.str k) (xs := xs) (ys := ys)
  have c2 := cut_end (x := D.str k) (xs := xs) (ys := ys)
  rw [lx] at c1 c2
  have k1 : ∀ a b c d, compR 1 [] (some xs) (gN 0) tTrue E1_read_words [a, b, c, d] = some (.fr (ns.map D.int)) := fun a b c d => by
    rw [e_cp (by omega), show inW 1 [] [a, b, c, d] = [none] from rfl, ← hx, compD_mapA (i := 0) (fun i : Int => D.str (nw i)) D.int ns fun i hi => ?_]
    · rfl
    · have := rd_num (h1 i hi)
      simp_arith [E1_read_words, this]
  have k2 : ∀ a c d, compR 1 [1] (some ys) (gN 0) tTrue E2_read_words [a, some (.sh (.str k)), c, d] = some (.fr (bs.map Bq.dat)) := fun a c d => by
    rw [e_cp (by omega), show inW 1 [1] [a, some (.sh (.str k)), c, d] = [none, some (.sh (.str k))] from rfl, ← hy, compD_mapA (i := 0) (fun p : Bq => D.str (strL p.w)) Bq.dat bs fun p hp => ?_]
    · rfl
    · have := read_box_at (h2 p hp)
      simp_arith [E2_read_words, this]
  have f1 : (D.str k :: ns.map D.int).length + [D.lst (bs.map Bq.dat)].length ≤ 1000000 := by rw [List.length_cons, List.length_map, List.length_singleton]; omega
  have f2 : [D.str k].length + (ns.map D.int).length ≤ 1000000 := by rw [List.length_singleton, List.length_map]; omega
  have g1 := e_addS_tt f1
  have g2 := e_addS_tt f2
  simp only [List.nil_append, List.cons_append] at g1 g2
  simp_arith [m_read_words, B_read_words, inG, ixG, t1, t2, c1, c2, k1, k2, g1, g2]
  rfl
theorem whole_i (i : Int) : m_is_whole [.int i] = some (.sh (.bl true)) := rfl
theorem box_ii (a b : Int) : m_is_box [.tup [.int a, .int b]] = some (.sh (.bl true)) := by
  have := whole_i
  simp_arith [m_is_box, B_is_box, this]
  rfl
def PO (k : PySem.Str) (ns : List Int) (bs : List Bq) : Prop := (k = "rail" ∧ ∃ h l, ns = [h, l]) ∨ (k = "gate" ∧ ∃ g, ns = [g] ∧ ∀ p ∈ bs, g ≤ p.a ∧ g ≤ p.b) ∨
  (k = "ring" ∧ ∃ z h l, ns = [z, h, l] ∧ 0 ≤ h ∧ h < z ∧ 0 ≤ l ∧ l < z ∧ ∀ p ∈ bs, 0 ≤ p.a ∧ p.a < z ∧ 0 ≤ p.b ∧ p.b < z)
theorem errand_at {h l : Int} {bs : List Bq} (hv : ∀ p ∈ bs, p.v = []) (hb : bs.length ≤ 1000) : m_is_errand [.int h, .int l, .lst (bs.map Bq.dat)] = some (.sh (.bl true)) := by
  have w := whole_i
  have k1 : ∀ a b c, compR 1 [] (some (bs.map Bq.dat)) (gN 0) tTrue E1_is_errand [a, b, c] = some (.fr (bs.map fun _ => D.bl true)) := fun a b c => by
    rw [e_cp (by rw [List.length_map]; omega), show inW 1 [] [a, b, c] = [none] from rfl, compD_mapA (i := 0) Bq.dat (fun _ => D.bl true) bs fun p hp => ?_]
    · rfl
    · have : m_is_box [p.dat] = some (.sh (.bl true)) := by
        unfold Bq.dat
        rw [hv p hp]
        exact box_ii _ _
      simp_arith [E1_is_errand, this]
  have a1 := hall_a bs
  simp_arith [m_is_errand, B_is_errand, w, k1, a1]
  all_goals rfl
theorem yard_at {g : Int} {bs : List Bq} (hv : ∀ p ∈ bs, p.v = []) (hb : bs.length ≤ 1000) (hg : ∀ p ∈ bs, g ≤ p.a ∧ g ≤ p.b) : m_is_yard [.int g, .lst (bs.map Bq.dat)] = some (.sh (.bl true)) := by
  have e := errand_at (h := g) (l := g) hv hb
  have k1 : ∀ b, compR 1 [0] (some (bs.map Bq.dat)) (gN 0) tTrue E1_is_yard [some (.sh (.int g)), b] = some (.fr (bs.map fun _ => D.bl true)) := fun b => by
    rw [e_cp (by rw [List.length_map]; omega), show inW 1 [0] [some (.sh (.int g)), b] = [none, some (.sh (.int g))] from rfl, compD_mapA (i := 0) Bq.dat (fun _ => D.bl true) bs fun p hp => ?_]
    · rfl
    · have m : bMinT [p.dat] = some (.sh (.int (minL [p.a, p.b]))) := by
        unfold Bq.dat
        rw [hv p hp]
        exact bMinT_i (ns := [p.a, p.b]) (by simp)
      have d : decide (g ≤ minL [p.a, p.b]) = true := decide_eq_true (by
        have := hg p hp
        simp only [minL]
        omega)
      simp_arith [E1_is_yard, m, d]
  have a1 := hall_a bs
  simp_arith [m_is_yard, B_is_yard, e, k1, a1]
theorem way_at {v : Int} (h : v = 1 ∨ v = -1) : m_is_way [.int v] = some (.sh (.bl true)) := by
  have w := whole_i
  have i : oInT false (.int v) (.tup [.int 1, .int (-1)]) = some (.sh (.bl true)) := by
    rcases h with rfl | rfl
    · exact in_sign (y := .int 1) (ys := [.int 1, .int (-1)]) (by decide +kernel) (by decide +kernel)
    · exact in_sign (y := .int (-1)) (ys := [.int 1, .int (-1)]) (by decide +kernel) (by decide +kernel)
  simp_arith [m_is_way, B_is_way, w, i]
theorem place_at {z i : Int} (h0 : 0 ≤ i) (h1 : i < z) : m_has_place [.int z, .int i] = some (.sh (.bl true)) := by
  have w := whole_i
  have d0 : decide (0 ≤ i) = true := decide_eq_true h0
  have d1 : decide (i < z) = true := decide_eq_true h1
  simp_arith [m_has_place, B_has_place, w, d0, d1]
theorem ring_box_at {z a b v : Int} (h : v = 1 ∨ v = -1) (ha : 0 ≤ a ∧ a < z) (hb : 0 ≤ b ∧ b < z) : m_is_ring_box [.int z, .tup [.int a, .int b, .int v]] = some (.sh (.bl true)) := by
  have w := way_at h
  have p1 := place_at ha.1 ha.2
  have p2 := place_at hb.1 hb.2
  have th : (((3 : Nat) : Int) == 3) = true := rfl
  simp_arith [m_is_ring_box, B_is_ring_box, w, p1, p2, th]
  all_goals rfl
theorem ring_at {z h l : Int} {bs : List Bq} (hv : ∀ p ∈ bs, p.v = [1] ∨ p.v = [-1]) (hb : bs.length ≤ 1000) (hh : 0 ≤ h ∧ h < z) (hl : 0 ≤ l ∧ l < z) (hp : ∀ p ∈ bs, 0 ≤ p.a ∧ p.a < z ∧ 0 ≤ p.b ∧ p.b < z) :
    m_is_ring [.int z, .int h, .int l, .lst (bs.map Bq.dat)] = some (.sh (.bl true)) := by
  have w := whole_i
  have p1 := place_at hh.1 hh.2
  have p2 := place_at hl.1 hl.2
  have k1 : ∀ b c d, compR 1 [0] (some (bs.map Bq.dat)) (gN 0) tTrue E1_is_ring [some (.sh (.int z)), b, c, d] = some (.fr (bs.map fun _ => D.bl true)) := fun b c d => by
    rw [e_cp (by rw [List.length_map]; omega), show inW 1 [0] [some (.sh (.int z)), b, c, d] = [none, some (.sh (.int z))] from rfl, compD_mapA (i := 0) Bq.dat (fun _ => D.bl true) bs fun p hq => ?_]
    · rfl
    · have hpp := hp p hq
      have : m_is_ring_box [.int z, p.dat] = some (.sh (.bl true)) := by
        unfold Bq.dat
        rcases hv p hq with e | e
        · rw [e]; exact ring_box_at (.inl rfl) ⟨hpp.1, hpp.2.1⟩ hpp.2.2
        · rw [e]; exact ring_box_at (.inr rfl) ⟨hpp.1, hpp.2.1⟩ hpp.2.2
      simp_arith [E1_is_ring, this]
  have a1 := hall_a bs
  simp_arith [m_is_ring, B_is_ring, w, p1, p2, k1, a1]
  all_goals rfl
theorem kind_gate : oEq false (.str "gate") (.str "gate") = some (.sh (.bl true)) := by rw [kind_eq (by decide) (by decide), decide_eq_true rfl]
theorem kind_rail : oEq false (.str "rail") (.str "gate") = some (.sh (.bl false)) := by rw [kind_eq (by decide) (by decide), decide_eq_false (by decide)]
theorem possible_at {k : PySem.Str} {ns : List Int} {bs : List Bq} (h : PO k ns bs) (h2 : ∀ p ∈ bs, KO k p) (hb : bs.length ≤ 1000) : m_is_possible [thingD k ns bs] = some (.sh (.bl true)) := by
  have kr : ("rail" : PySem.Str) ≠ "ring" := by decide
  have kg : ("gate" : PySem.Str) ≠ "ring" := by decide
  rcases h with ⟨rfl, x, l, rfl⟩ | ⟨rfl, g, rfl, hg⟩ | ⟨rfl, z, x, l, rfl, a1, a2, a3, a4, hp⟩
  · have hv : ∀ p ∈ bs, p.v = [] := fun p hq => (h2 p hq).1.elim (·.2) fun e => absurd e.1 kr
    have e := errand_at (h := x) (l := l) hv hb
    have k1 := kind_no (k := "rail") (.inl rfl)
    have k2 := kind_rail
    have t0 : ∀ d, atI [D.str "rail", .int x, .int l, d] 0 = some (.str "rail") := fun _ => rfl
    have t1 : ∀ d, atI [D.str "rail", .int x, .int l, d] 1 = some (.int x) := fun _ => rfl
    have t2 : ∀ d, atI [D.str "rail", .int x, .int l, d] 2 = some (.int l) := fun _ => rfl
    have t3 : ∀ d, atI [D.str "rail", .int x, .int l, d] 3 = some d := fun _ => rfl
    simp_arith [m_is_possible, B_is_possible, thingD, k1, k2, e, t0, t1, t2, t3]
  · have hv : ∀ p ∈ bs, p.v = [] := fun p hq => (h2 p hq).1.elim (·.2) fun e => absurd e.1 kg
    have e := yard_at hv hb hg
    have k1 := kind_no (k := "gate") (.inr rfl)
    have k2 := kind_gate
    have t0 : ∀ d, atI [D.str "gate", .int g, d] 0 = some (.str "gate") := fun _ => rfl
    have t1 : ∀ d, atI [D.str "gate", .int g, d] 1 = some (.int g) := fun _ => rfl
    have t2 : ∀ d, atI [D.str "gate", .int g, d] 2 = some d := fun _ => rfl
    simp_arith [m_is_possible, B_is_possible, thingD, k1, k2, e, t0, t1, t2]
  · have hv : ∀ p ∈ bs, p.v = [1] ∨ p.v = [-1] := fun p hq => (h2 p hq).1.elim (fun e => e.1.elim (fun e => absurd e.symm kr) fun e => absurd e.symm kg) (·.2)
    have e := ring_at hv hb ⟨a1, a2⟩ ⟨a3, a4⟩ hp
    have k1 := kind_yes
    have t0 : ∀ d, atI [D.str "ring", .int z, .int x, .int l, d] 0 = some (.str "ring") := fun _ => rfl
    have t1 : ∀ d, atI [D.str "ring", .int z, .int x, .int l, d] 1 = some (.int z) := fun _ => rfl
    have t2 : ∀ d, atI [D.str "ring", .int z, .int x, .int l, d] 2 = some (.int x) := fun _ => rfl
    have t3 : ∀ d, atI [D.str "ring", .int z, .int x, .int l, d] 3 = some (.int l) := fun _ => rfl
    have t4 : ∀ d, atI [D.str "ring", .int z, .int x, .int l, d] 4 = some d := fun _ => rfl
    simp_arith [m_is_possible, B_is_possible, thingD, k1, e, t0, t1, t2, t3, t4]
theorem joinL_len {c m : Nat} : ∀ (ws : List (List Nat)), (∀ w ∈ ws, w.length ≤ m) → (joinL c ws).length ≤ ws.length * (m + 1) := by
  intro ws h
  cases ws with
  | nil => exact Nat.zero_le _
  | cons w r =>
    rw [joinL_flat, List.length_append]
    have h1 := h w List.mem_cons_self
    have h2 : (r.flatMap fun p => c :: p).length ≤ r.length * (m + 1) := by
      have : ∀ l : List (List Nat), (∀ w ∈ l, w.length ≤ m) → (l.flatMap fun p => c :: p).length ≤ l.length * (m + 1) := by
        intro l hl
        induction l with
        | nil => exact Nat.zero_le _
        | cons a r ih =>
          have h1 := hl a List.mem_cons_self
          have h2 := ih fun w hw => hl w (List.mem_cons_of_mem _ hw)
          rw [List.flatMap_cons, List.length_append, List.length_cons, List.length_cons, Nat.add_mul]
          omega
      exact this r fun w hw => h w (List.mem_cons_of_mem _ hw)
    rw [List.length_cons, Nat.add_mul]
    omega
theorem join_ok {sep : PySem.Str} {ss : List PySem.Str} {m : Nat} (hs : sep.length ≤ 1) (h : ∀ z ∈ ss, z.length ≤ m) (hm : ss.length * (m + 1) ≤ 1000000) : PySem.JoinOk sep ss = true := by
  have key : ∀ (l : List PySem.Str) (a : Nat), (∀ z ∈ l, z.length ≤ m) → l.foldl (fun x z => x + z.length + sep.length) a ≤ a + l.length * (m + 1) := by
    intro l
    induction l with
    | nil => intro a _; simp
    | cons z r ih =>
      intro a h
      have h1 := h z List.mem_cons_self
      have h2 := ih (a + z.length + sep.length) fun w hw => h w (List.mem_cons_of_mem _ hw)
      rw [List.foldl_cons, List.length_cons, Nat.add_mul]
      omega
  have k := key ss 0 h
  unfold PySem.JoinOk
  rw [List.foldl_toArray]
  have z : PySem.Builtin.Str.tooLong (ss.foldl (fun x z => x + z.length + sep.length) 0) = false := by
    unfold PySem.Builtin.Str.tooLong
    exact decide_eq_false (by unfold PySem.sizeLine; omega)
  rw [z]; rfl
theorem strs_at (ss : List PySem.Str) : strsOf (ss.map D.str) = some ss := by
  induction ss with
  | nil => rfl
  | cons a r ih => show (strsOf (r.map D.str)).map _ = _; rw [ih]; rfl
theorem join_at {sep : PySem.Str} {ss : List PySem.Str} (h : PySem.JoinOk sep ss = true) : oJoin (.str sep) (.lst (ss.map D.str)) = some (.sh (.str (PySem.Txt.join sep ss))) := by
  show (strsOf (ss.map D.str)).bind _ = _
  rw [strs_at]
  exact if_pos h
theorem sgn_len {i : Int} (h : Sm i) : (sgn i).length ≤ 41 := by rw [← sgn_at]; exact num_short (num_T h)
theorem sgn_no {i : Int} (h : Sm i) {c : Nat} (hc : c ∈ sgn i) : 45 ≤ c ∧ c ≤ 57 := num_no (num_T h) (by rw [sgn_at]; exact hc)
theorem w_len {k : PySem.Str} {p : Bq} (h : KO k p) : p.w.length ≤ 84 := by
  have h1 := sgn_len h.2.1
  have h2 := sgn_len h.2.2
  have h3 : p.v.length ≤ 1 := by
    rcases h.1 with ⟨_, e⟩ | ⟨_, e | e⟩ <;> rw [e] <;> simp
  unfold Bq.w
  rw [List.length_append, List.length_append, List.length_cons, List.length_map]
  omega
theorem w_no {k : PySem.Str} {p : Bq} (h : KO k p) {c : Nat} (hc : c ∈ p.w) : 43 ≤ c ∧ c ≤ 62 := by
  unfold Bq.w at hc
  rw [List.mem_append, List.mem_append, List.mem_cons, List.mem_map] at hc
  rcases hc with (hc | hc | hc) | ⟨v, hv, hc⟩
  · have := sgn_no h.2.1 hc; omega
  · omega
  · have := sgn_no h.2.2 hc; omega
  · unfold sg at hc
    split at hc <;> omega
theorem words_all {k : PySem.Str} {ns : List Int} {bs : List Bq} (hn : HN k ns.length) (h1 : ∀ i ∈ ns, Sm i) (h2 : ∀ p ∈ bs, KO k p) : ∀ z ∈ wordsOf k ns bs, z.length ≤ 84 ∧ ∀ c ∈ z.cps.toList, 43 ≤ c ∧ c < 128 := by
  intro z hz
  unfold wordsOf at hz
  rw [List.mem_cons, List.mem_append, List.mem_map, List.mem_map] at hz
  rcases hz with rfl | ⟨i, hi, rfl⟩ | ⟨p, hp, rfl⟩
  · rcases hn with ⟨rfl, _⟩ | ⟨rfl, _⟩ | ⟨rfl, _⟩ <;> decide
  · have := h1 i hi
    refine ⟨Nat.le_trans (num_len this) (by omega), fun c hc => ?_⟩
    have := num_no (num_T this) hc
    omega
  · refine ⟨by rw [len_cps, strL_l]; exact w_len (h2 p hp), fun c hc => ?_⟩
    rw [strL_l] at hc
    have := w_no (h2 p hp) hc
    omega
theorem words_len (k : PySem.Str) (ns : List Int) (bs : List Bq) : (wordsOf k ns bs).length = 1 + ns.length + bs.length := by
  unfold wordsOf
  rw [List.length_cons, List.length_append, List.length_map, List.length_map]; omega
def textOf (k : PySem.Str) (ns : List Int) (bs : List Bq) : PySem.Str := PySem.Txt.join " " (wordsOf k ns bs)
theorem text_list (k : PySem.Str) (ns : List Int) (bs : List Bq) : (textOf k ns bs).cps.toList = joinL 32 ((wordsOf k ns bs).map fun z => z.cps.toList) := join_list 32 _
theorem text_len {k : PySem.Str} {ns : List Int} {bs : List Bq} (hn : HN k ns.length) (h1 : ∀ i ∈ ns, Sm i) (h2 : ∀ p ∈ bs, KO k p) (hb : bs.length ≤ 1000) : (textOf k ns bs).length + 2 ≤ 1000000 := by
  have h := words_all hn h1 h2
  have e : (textOf k ns bs).length ≤ ((wordsOf k ns bs).map fun z => z.cps.toList).length * (84 + 1) := by
    rw [len_cps, text_list]
    refine joinL_len _ fun w hw => ?_
    obtain ⟨z, hz, rfl⟩ := List.mem_map.mp hw
    rw [← len_cps]
    exact (h z hz).1
  rw [List.length_map, words_len] at e
  have := tab_two hn
  omega
theorem text_ascii {k : PySem.Str} {ns : List Int} {bs : List Bq} (hn : HN k ns.length) (h1 : ∀ i ∈ ns, Sm i) (h2 : ∀ p ∈ bs, KO k p) : ∀ c ∈ (textOf k ns bs).cps.toList, c < 128 := by
  intro c hc
  rw [text_list] at hc
  have h := words_all hn h1 h2
  unfold wordsOf at hc
  rw [List.map_cons, joinL_flat, List.mem_append, List.mem_flatMap] at hc
  rcases hc with hc | ⟨w, hw, hc⟩
  · exact ((h k List.mem_cons_self).2 c hc).2
  · obtain ⟨z, hz, rfl⟩ := List.mem_map.mp hw
    rw [List.mem_cons] at hc
    rcases hc with rfl | hc
    · omega
    · exact ((h z (List.mem_cons_of_mem _ hz)).2 c hc).2
theorem text_split {k : PySem.Str} {ns : List Int} {bs : List Bq} (hn : HN k ns.length) (h1 : ∀ i ∈ ns, Sm i) (h2 : ∀ p ∈ bs, KO k p) (hb : bs.length ≤ 1000) : oSplit (.str (textOf k ns bs)) (.str " ") = some (.fr ((wordsOf k ns bs).map D.str)) := by
  rw [e_splitS ⟨by decide, text_len hn h1 h2 hb⟩]
  have e : PySem.Txt.split (textOf k ns bs) " " = wordsOf k ns bs := split_join (c := 32) (by decide) (by unfold wordsOf; simp) fun z hz hc => by
    have := (words_all hn h1 h2 z hz).2 32 hc
    omega
  rw [e]
theorem read_at {k : PySem.Str} {ns : List Int} {bs : List Bq} (hn : HN k ns.length) (h1 : ∀ i ∈ ns, Sm i) (h2 : ∀ p ∈ bs, KO k p) (hb : bs.length ≤ 1000) (hp : PO k ns bs) : m_read [.str (textOf k ns bs)] = some (.sh (thingD k ns bs)) := by
  have s := text_split hn h1 h2 hb
  have t := tells_at hn h1 h2 hb
  have r := read_words_at hn h1 h2 hb
  have p := possible_at hp h2 hb
  generalize (wordsOf k ns bs).map D.str = ws at *
  simp_arith [m_read, B_read, s, t, r, p]
  all_goals rfl
theorem log_ok {i : Int} (h : Sm i) : i.natAbs.log2 < 1920 := by
  have h' : i.natAbs < 10 ^ 40 := h
  by_cases z : i.natAbs = 0
  · rw [z]; decide
  · have := (Nat.log2_lt z).mpr (Nat.lt_of_lt_of_le h' (Nat.le_trans (show 10 ^ 40 ≤ 2 ^ 133 by decide) (Nat.pow_le_pow_right (by decide) (show 133 ≤ 1920 by decide))))
    exact this
theorem str_app (x y : PySem.Str) : (x ++ y).cps.toList = x.cps.toList ++ y.cps.toList := Array.toList_append
theorem emp_l : (PySem.Str.empty).cps.toList = [] := rfl
theorem nw_l (i : Int) : (nw i).cps.toList = sgn i := sgn_at i
theorem nw_len {i : Int} (h : Sm i) : (nw i).length ≤ 41 := num_len h
theorem part_i {i : Int} (h : Sm i) : partD (.int i) = some (nw i) := if_pos (log_ok h)
theorem part_s {z : PySem.Str} (h : z.length ≤ 1000000) : partD (.str z) = some z := if_pos h
theorem bStr_at {i : Int} (h : Sm i) : bStr [.int i] = some (.sh (.str (nw i))) := if_pos (log_ok h)
theorem fstr_at {a b : Int} {s : PySem.Str} {x : Option W} (ha : Sm a) (hb : Sm b) (hs : s.length ≤ 1) : fFstr (cCons (dOf (fVar 1)) (cCons (fC (.str ">")) (cCons (dOf (fVar 2)) (cCons (dOf (fVar 3)) cNil)))) [x, some (.sh (.int a)), some (.sh (.int b)), some (.sh (.str s))] = some (.str (strL (sgn a ++ 62 :: sgn b ++ s.cps.toList))) := by
  have e : cCons (dOf (fVar 1)) (cCons (fC (.str ">")) (cCons (dOf (fVar 2)) (cCons (dOf (fVar 3)) cNil))) [x, some (.sh (.int a)), some (.sh (.int b)), some (.sh (.str s))] = some [nw a, ">", nw b, s] := by
    show (partD (.int a)).bind (fun z => ((partD (.str ">")).bind fun z2 => ((partD (.int b)).bind fun z3 => ((partD (.str s)).bind fun z4 => some [z4]).map (z3 :: ·)).map (z2 :: ·)).map (z :: ·)) = _
    rw [part_i ha, part_i hb, part_s (z := s) (by omega), part_s (z := ">") (by decide)]; rfl
  have el : (catS PySem.Str.empty [nw a, ">", nw b, s]).cps.toList = sgn a ++ 62 :: sgn b ++ s.cps.toList := by
    show (PySem.Str.empty ++ nw a ++ ">" ++ nw b ++ s).cps.toList = _
    rw [str_app, str_app, str_app, str_app, nw_l, nw_l, emp_l, List.nil_append]
    show sgn a ++ [62] ++ sgn b ++ s.cps.toList = _
    rw [List.append_assoc (sgn a)]; rfl
  have hl : (catS PySem.Str.empty [nw a, ">", nw b, s]).length ≤ 1000000 := by
    rw [len_cps, el, List.length_append, List.length_append, List.length_cons, ← len_cps]
    have := sgn_len ha
    have := sgn_len hb
    omega
  unfold fFstr
  rw [e]
  show (if _ then _ else _) = _
  rw [if_pos hl, show catS PySem.Str.empty [nw a, ">", nw b, s] = strL (sgn a ++ 62 :: sgn b ++ s.cps.toList) from str_ext (by rw [el, strL_l])]
theorem show_way_at {k : PySem.Str} {p : Bq} (h : KO k p) : m_show_way [p.dat] = some (.sh (.str (strL p.w))) := by
  obtain ⟨a, b, v⟩ := p
  obtain ⟨h, ha, hb⟩ := h
  dsimp only at h ha hb
  have h' : v = [] ∨ v = [1] ∨ v = [-1] := h.elim (fun e => .inl e.2) fun e => .inr e.2
  rcases h' with rfl | rfl | rfl
  · have sl : oSlS (.tup [.int a, .int b]) (some 2) none = some (.sh (.tup [])) := rfl
    have j : oJoin (.str "") (.lst []) = some (.sh (.str "")) := rfl
    have k1 : ∀ a b c d, compR 1 [] (some []) (gN 0) tTrue E1_show_way [a, b, c, d] = some (.fr []) := fun _ _ _ _ => rfl
    have f := fun x => fstr_at (s := "") (x := x) ha hb (by decide)
    simp_arith [m_show_way, B_show_way, Bq.dat, sl, j, k1, f]
    rfl
  · have sl : oSlS (.tup [.int a, .int b, .int 1]) (some 2) none = some (.sh (.tup [.int 1])) := rfl
    have j : oJoin (.str "") (.lst [.str "+"]) = some (.sh (.str "+")) := (join_at (sep := "") (ss := ["+"]) (join_ok (m := 1) (by decide) (by decide) (by decide))).trans (by rw [show PySem.Txt.join "" ["+"] = "+" from str_ext (by decide)])
    have k1 : ∀ a b c d, compR 1 [] (some [.int 1]) (gN 0) tTrue E1_show_way [a, b, c, d] = some (.fr [.str "+"]) := fun _ _ _ _ => rfl
    have f := fun x => fstr_at (s := "+") (x := x) ha hb (by decide)
    simp_arith [m_show_way, B_show_way, Bq.dat, sl, j, k1, f]
    rfl
  · have sl : oSlS (.tup [.int a, .int b, .int (-1)]) (some 2) none = some (.sh (.tup [.int (-1)])) := rfl
    have j : oJoin (.str "") (.lst [.str "-"]) = some (.sh (.str "-")) := (join_at (sep := "") (ss := ["-"]) (join_ok (m := 1) (by decide) (by decide) (by decide))).trans (by rw [show PySem.Txt.join "" ["-"] = "-" from str_ext (by decide)])
    have k1 : ∀ a b c d, compR 1 [] (some [.int (-1)]) (gN 0) tTrue E1_show_way [a, b, c, d] = some (.fr [.str "-"]) := fun _ _ _ _ => rfl
    have f := fun x => fstr_at (s := "-") (x := x) ha hb (by decide)
    simp_arith [m_show_way, B_show_way, Bq.dat, sl, j, k1, f]
    rfl
theorem atI_end {α : Type} {l : List α} {s : α} : atI (l ++ [s]) (-1) = some s := by
  have e : ixN (l ++ [s]).length (-1) = some l.length := by
    unfold ixN
    rw [List.length_append, List.length_singleton]
    simp
    omega
  unfold atI
  rw [e]
  show (l ++ [s])[l.length]? = some s
  simp
theorem sl_tup {x y : D} {xs : List D} : oSlS (.tup (x :: (xs ++ [y]))) (some 1) (some (-1)) = some (.sh (.tup xs)) := by
  have e1 : HT.sIx (x :: (xs ++ [y])).length 0 (some 1) = 1 := by
    unfold HT.sIx
    dsimp only
    rw [if_neg (by omega), List.length_cons]
    omega
  have e2 : HT.sIx (x :: (xs ++ [y])).length (x :: (xs ++ [y])).length (some (-1)) = 1 + xs.length := by
    unfold HT.sIx
    dsimp only
    rw [if_pos (by omega), List.length_cons, List.length_append, List.length_singleton]
    omega
  show oSl (.tup (x :: (xs ++ [y]))) (some 1) (some (-1)) = _
  unfold oSl
  dsimp only
  rw [if_neg (by rw [e1]; omega)]
  unfold cutD
  rw [e1, e2]
  show some (R.sh (.tup ((xs ++ [y]).take (1 + xs.length - 1)))) = _
  rw [show 1 + xs.length - 1 = xs.length by omega, List.take_left]
theorem last_tup {x y : D} {xs : List D} : atI (x :: (xs ++ [y])) (-1) = some y := by
  rw [← List.cons_append]; exact atI_end
theorem words_ok {k : PySem.Str} {ns : List Int} {bs : List Bq} (hn : HN k ns.length) (h1 : ∀ i ∈ ns, Sm i) (h2 : ∀ p ∈ bs, KO k p) (hb : bs.length ≤ 1000) : oJoin (.str " ") (.lst (.str k :: (ns.map (fun i => D.str (nw i)) ++ bs.map fun p => D.str (strL p.w)))) = some (.sh (.str (textOf k ns bs))) := by
  rw [← words_D]
  refine join_at (join_ok (m := 84) (by decide) (fun z hz => (words_all hn h1 h2 z hz).1) ?_)
  rw [words_len]
  have := tab_two hn
  omega
theorem show_at {k : PySem.Str} {ns : List Int} {bs : List Bq} (hn : HN k ns.length) (h1 : ∀ i ∈ ns, Sm i) (h2 : ∀ p ∈ bs, KO k p) (hb : bs.length ≤ 1000) : m_show [thingD k ns bs] = some (.sh (.str (textOf k ns bs))) := by
  have hl := tab_two hn
  have s1 := sl_tup (x := .str k) (y := .lst (bs.map Bq.dat)) (xs := ns.map D.int)
  have s2 := last_tup (x := .str k) (y := .lst (bs.map Bq.dat)) (xs := ns.map D.int)
  have w := words_ok hn h1 h2 hb
  have k1 : ∀ a b, compR 1 [] (some (ns.map D.int)) (gN 0) tTrue E1_show [a, b] = some (.fr (ns.map fun i => D.str (nw i))) := fun a b => by
    rw [e_cp (by rw [List.length_map]; omega), show inW 1 [] [a, b] = [none] from rfl, compD_mapA (i := 0) D.int (fun i => D.str (nw i)) ns fun i hi => ?_]
    · rfl
    · have := bStr_at (h1 i hi)
      simp_arith [E1_show, e_strS, this]
  have k2 : ∀ a b, compR 1 [] (some (bs.map Bq.dat)) (gN 0) tTrue E2_show [a, b] = some (.fr (bs.map fun p => D.str (strL p.w))) := fun a b => by
    rw [e_cp (by rw [List.length_map]; omega), show inW 1 [] [a, b] = [none] from rfl, compD_mapA (i := 0) Bq.dat (fun p => D.str (strL p.w)) bs fun p hp => ?_]
    · rfl
    · have := show_way_at (h2 p hp)
      simp_arith [E2_show, this]
  have f1 : (D.str k :: ns.map fun i => D.str (nw i)).length + (bs.map fun p => D.str (strL p.w)).length ≤ 1000000 := by rw [List.length_cons, List.length_map, List.length_map]; omega
  have f2 : [D.str k].length + (ns.map fun i => D.str (nw i)).length ≤ 1000000 := by rw [List.length_singleton, List.length_map]; omega
  have g1 := e_addS_ll f1
  have g2 := e_addS_ll f2
  simp only [List.nil_append, List.cons_append] at g1 g2
  have t0 : ∀ l, atI (D.str k :: l) 0 = some (.str k) := fun _ => at0
  simp_arith [m_show, B_show, thingD, s1, s2, k1, k2, g1, g2, w, t0]
theorem law_word_at {k : PySem.Str} {p : Bq} (h : KO k p) : m__law_word [p.dat] = some (.sh (.str (strL p.w))) := by
  obtain ⟨a, b, v⟩ := p
  obtain ⟨h, ha, hb⟩ := h
  dsimp only at h ha hb
  have h' : v = [] ∨ v = [1] ∨ v = [-1] := h.elim (fun e => .inl e.2) fun e => .inr e.2
  have la := nw_len ha
  have lb := nw_len hb
  have sa := bStr_at ha
  have sb := bStr_at hb
  have l1 : (nw a ++ ">").length ≤ 42 := by rw [PySem.strLen_append]; show (nw a).length + 1 ≤ 42; omega
  have l2 : (nw a ++ ">" ++ nw b).length ≤ 83 := by rw [PySem.strLen_append]; omega
  have a1 : oAddS (.str (nw a)) (.str ">") = some (.sh (.str (nw a ++ ">"))) := e_addS_ss (by show (nw a).length + 1 ≤ _; omega)
  have a2 : oAddS (.str (nw a ++ ">")) (.str (nw b)) = some (.sh (.str (nw a ++ ">" ++ nw b))) := e_addS_ss (by omega)
  have el : (nw a ++ ">" ++ nw b).cps.toList = sgn a ++ 62 :: sgn b := by
    rw [str_app, str_app, nw_l, nw_l]
    show sgn a ++ [62] ++ sgn b = _
    rw [List.append_assoc]; rfl
  have two : (((2 : Nat) : Int) == 3) = false := rfl
  have thr : (((3 : Nat) : Int) == 3) = true := rfl
  rcases h' with rfl | rfl | rfl
  · simp_arith [m__law_word, B__law_word, Bq.dat, sa, sb, a1, a2, two]
    rw [show nw a ++ ">" ++ nw b = strL (Bq.w ⟨a, b, []⟩) from str_ext (by rw [el, strL_l]; show _ = sgn a ++ 62 :: sgn b ++ []; rw [List.append_nil])]
  · have a3 : oAddS (.str (nw a ++ ">" ++ nw b)) (.str "+") = some (.sh (.str (nw a ++ ">" ++ nw b ++ "+"))) := e_addS_ss (by show (nw a ++ ">" ++ nw b).length + 1 ≤ _; omega)
    have i3 : atI [D.str "-", .str "", .str "+"] 2 = some (.str "+") := rfl
    simp_arith [m__law_word, B__law_word, Bq.dat, sa, sb, a1, a2, a3, thr, i3]
    rw [show nw a ++ ">" ++ nw b ++ "+" = strL (Bq.w ⟨a, b, [1]⟩) from str_ext (by rw [str_app, el, strL_l]; rfl)]
  · have a3 : oAddS (.str (nw a ++ ">" ++ nw b)) (.str "-") = some (.sh (.str (nw a ++ ">" ++ nw b ++ "-"))) := e_addS_ss (by show (nw a ++ ">" ++ nw b).length + 1 ≤ _; omega)
    have i3 : atI [D.str "-", .str "", .str "+"] 0 = some (.str "-") := rfl
    simp_arith [m__law_word, B__law_word, Bq.dat, sa, sb, a1, a2, a3, thr, i3]
    rw [show nw a ++ ">" ++ nw b ++ "-" = strL (Bq.w ⟨a, b, [-1]⟩) from str_ext (by rw [str_app, el, strL_l]; rfl)]
theorem law_text_at {k : PySem.Str} {ns : List Int} {bs : List Bq} (hn : HN k ns.length) (h1 : ∀ i ∈ ns, Sm i) (h2 : ∀ p ∈ bs, KO k p) (hb : bs.length ≤ 1000) : m__law_text [thingD k ns bs] = some (.sh (.str (textOf k ns bs))) := by
  have hl := tab_two hn
  have s1 := sl_tup (x := .str k) (y := .lst (bs.map Bq.dat)) (xs := ns.map D.int)
  have s2 := last_tup (x := .str k) (y := .lst (bs.map Bq.dat)) (xs := ns.map D.int)
  have w := words_ok hn h1 h2 hb
  have t0 : ∀ l, atI (D.str k :: l) 0 = some (.str k) := fun _ => at0
  generalize hT : (D.str k :: (ns.map D.int ++ [.lst (bs.map Bq.dat)])) = T at s1 s2
  have eT : thingD k ns bs = .tup T := by rw [← hT]; rfl
  have t0 : atI T 0 = some (.str k) := by rw [← hT]; exact at0
  rw [eT]
  obtain ⟨ω1, e1, x2, rfl⟩ := forD_map (g := gN 2) (b := L1__law_text) D.int ns
    (fun pre ω => ∃ x2 : Option W, ω = [some (.sh (.tup T)), some (.ow (.str k :: pre.map fun i => D.str (nw i))), x2, none])
    (fun pre i post ω hd ⟨x2, hω⟩ => by
      subst hω
      refine ⟨_, rfl, ?_⟩
      have b := bStr_at (h1 i (by rw [hd]; simp))
      have hlen : pre.length < ns.length := by rw [hd, List.length_append, List.length_cons]; omega
      have c : (D.str k :: pre.map fun i => D.str (nw i)).length < 1000000 := by rw [List.length_cons, List.length_map]; omega
      have c' : pre.length + 1 < 1000000 := by omega
      unfold L1__law_text
      simp_arith [b, c']
      exact ⟨_, by rw [List.map_append]; rfl⟩)
    (ω := [some (.sh (.tup T)), some (.ow [.str k]), none, none]) ⟨none, rfl⟩
  obtain ⟨ω2, e2, x3, rfl⟩ := forD_map (g := gN 3) (b := L2__law_text) Bq.dat bs
    (fun pre ω => ∃ x3 : Option W, ω = [some (.sh (.tup T)), some (.ow (.str k :: (ns.map (fun i => D.str (nw i)) ++ pre.map fun p => D.str (strL p.w)))), x2, x3])
    (fun pre p post ω hd ⟨x3, hω⟩ => by
      subst hω
      refine ⟨_, rfl, ?_⟩
      have b := law_word_at (h2 p (by rw [hd]; simp))
      have hlen : pre.length < bs.length := by rw [hd, List.length_append, List.length_cons]; omega
      have c' : ns.length + pre.length + 1 < 1000000 := by omega
      unfold L2__law_text
      simp_arith [b, c', List.length_append]
      exact ⟨_, by rw [List.map_append, List.append_assoc]; rfl⟩)
    (ω := [some (.sh (.tup T)), some (.ow (.str k :: ns.map fun i => D.str (nw i))), x2, none]) ⟨none, by rw [List.map_nil, List.append_nil]⟩
  simp_arith [m__law_text, B__law_text, t0, s1, s2, e1, e2, w]
theorem cell_at {ns : List Int} {k : Int} (h : 0 ≤ k) : m__law_cell_at [.scr ns, .int k] = some (.sh (.int (ns.getD k.toNat 0))) := by
  unfold m__law_cell_at B__law_cell_at
  by_cases hk : k < ns.length
  · simp_arith [hk, decide_true, atI_nn h hk]
    simp [List.getD_eq_getElem?_getD, List.getElem?_eq_getElem (show k.toNat < ns.length by omega)]
  · simp_arith [hk, decide_false]
    simp [List.getD_eq_getElem?_getD, List.getElem?_eq_none (show ns.length ≤ k.toNat by omega)]
theorem pick {xs : List Int} {m c : Int} (P : Int → Prop) (hm : 0 < m) (hl : (xs.length : Int) = m) (h : ∀ x ∈ xs, P x) : ∃ y, atI (xs.map D.int) (c % m) = some (.int y) ∧ P y := by
  have h0 := Int.emod_nonneg c (show m ≠ 0 by omega)
  have h1 := Int.emod_lt_of_pos c hm
  rw [atI_nn h0 (by rw [List.length_map]; omega)]
  exact ⟨_, by rw [List.getElem_map], h _ (List.getElem_mem _)⟩
def Sn (i : Int) : Prop := i.natAbs ≤ 2 * 10 ^ 39
theorem Sn.sm {i : Int} (h : Sn i) : Sm i := by
  unfold Sn at h
  show i.natAbs < 10 ^ 40
  omega
def SpotOk (K z g : Int) (x : Int) : Prop := Sn x ∧ (K = 1 → g ≤ x) ∧ (K = 2 → 0 ≤ x ∧ x < z)
def stT (ns : List Int) (K b z g : Int) (sp : List Int) (x6 x7 x8 : Option W) (bo : Option W) (x10 : Option W) : WSt :=
  [some (.sh (.scr ns)), some (.sh (.int K)), some (.sh (.int b)), some (.sh (.int z)), some (.sh (.int g)), some (.ow (sp.map D.int)), x6, x7, x8, bo, x10]
theorem pow39 : ∃ B : Int, B = 10 ^ 39 ∧ oPow (.int 10) (.int 39) = some (.sh (.int B)) := ⟨_, rfl, rfl⟩
theorem spots_at {ns : List Int} {K b z g : Int} (hK : K = 0 ∨ K = 1 ∨ K = 2) (hz : 0 < z) (hz' : z ≤ 10 ^ 39) (hg : -(10 ^ 39) ≤ g ∧ g < 10 ^ 39) :
    ∃ (sp : List Int) (x6 x7 x8 : Option W), forD (gN 6) L1__law_thing (Hk.upTo 0 6) (stT ns K b z g [] none none none none none) = some (.nx, stT ns K b z g sp x6 x7 x8 none none) ∧ sp.length = 6 ∧ ∀ x ∈ sp, SpotOk K z g x := by
  obtain ⟨B, hB, p39⟩ := pow39
  obtain ⟨ω', e, sp, x6, x7, x8, rfl, hl, hs⟩ := forD_upTo (g := gN 6) (b := L1__law_thing) 0 6
    (fun i ω => ∃ (sp : List Int) (x6 x7 x8 : Option W), ω = stT ns K b z g sp x6 x7 x8 none none ∧ sp.length = i ∧ ∀ x ∈ sp, SpotOk K z g x)
    (fun i ω hi ⟨sp, x6, x7, x8, hω, hl, hs⟩ => by
      subst hω
      refine ⟨_, rfl, ?_⟩
      have c := cell_at (ns := ns) (k := 2 + (0 + (i : Int))) (by omega)
      generalize ns.getD (2 + (0 + (i : Int))).toNat 0 = cell at c
      obtain ⟨m, q1, q2, q3⟩ := pick (xs := [10, 1000, B]) (m := 3) (c := cell) (fun y => 0 < y ∧ y ≤ 10 ^ 39) (by decide) rfl (by rw [hB]; decide)
      have f0 := Int.emod_nonneg (cell / 3) (show m ≠ 0 by omega)
      have f1 := Int.emod_lt_of_pos (cell / 3) q2
      have md := oMod_ii (a := cell / 3) q2
      generalize cell / 3 % m = far at f0 f1 md
      have t0 := Int.emod_nonneg (cell / 2) (show (2 : Int) ≠ 0 by omega)
      have t1 := Int.emod_lt_of_pos (cell / 2) (show (0 : Int) < 2 by omega)
      have mu : oMul (.int B) (.int (cell / 2 % 2)) = some (.sh (.int (B * (cell / 2 % 2)))) := oMulR_ii (by omega) (by omega)
      obtain ⟨tw, htw⟩ : ∃ tw, cell / 2 % 2 = tw := ⟨_, rfl⟩
      rw [htw] at t0 t1 mu
      have mz := oMod_ii (a := far) hz
      have r0 := Int.emod_nonneg far (show z ≠ 0 by omega)
      have r1 := Int.emod_lt_of_pos far hz
      have q1' : atI [D.int 10, .int 1000, .int B] (cell % 3) = some (.int m) := q1
      have lim : sp.length < 1000000 := by omega
      have at2' : ∀ a b c : D, atI [a, b, c] 2 = some c := fun _ _ _ => rfl
      have fin : ∀ (x : Int) (y6 y7 y8 : Option W) (ω : WSt), ω = stT ns K b z g (sp ++ [x]) y6 y7 y8 none none → SpotOk K z g x → ∃ (sp' : List Int) (x6 x7 x8 : Option W), ω = stT ns K b z g sp' x6 x7 x8 none none ∧ sp'.length = i + 1 ∧ ∀ x ∈ sp', SpotOk K z g x := fun x y6 y7 y8 ω hω hx =>
        ⟨_, _, _, _, hω, by rw [List.length_append, List.length_singleton]; omega, fun y hy => by
          rcases List.mem_append.mp hy with hy | hy
          · exact hs y hy
          · rw [List.mem_singleton.mp hy]; exact hx⟩
      show stepS (L1__law_thing [some (.sh (.scr ns)), some (.sh (.int K)), some (.sh (.int b)), some (.sh (.int z)), some (.sh (.int g)), some (.ow (sp.map D.int)), some (.sh (.int (0 + (i : Int)))), x7, x8, none, none]) _
      unfold L1__law_thing
      rcases hK with rfl | rfl | rfl
      · simp -implicitDefEqProofs only [e_lenS_s, e_lenS_l, e_lenS_t, e_lenS_c, e_starts, e_addS_ii, e_addS_ll, e_addS_ss, e_addS_tt, e_inT_ss, e_ixS_l, e_ixS_t, e_ixS_c, e_slS_s, e_slS_l, e_slS_c, e_splitS, e_itemsS_l, e_itemsS_t, e_itemsS_s, e_iseqS, e_fSlS, e_mir, e_om_rt, e_seq, e_bs_nx, e_bs_rt, e_nil, e_set, e_ss_sh, e_ss_fr, e_if, e_if_t, e_if_f, e_ret, e_rs_sh, e_rs_fr, e_app, e_as, e_share, e_sh_ow, e_for, e_fs, e_var, e_vr_sh, e_vr_ow, e_c, e_e, e_ed, e_d, e_dr_sh, e_dr_fr, e_v, e_vv_sh, e_vv_fr, e_vv_vw, e_op, e_o2, e_call, e_cl, e_or_sh, e_or_fr, e_ac, e_ca, e_an, e_lst, e_tup, e_blt, e_bl, e_po, e_pa, e_ap, e_ite, e_it_t, e_it_f, e_isi, e_isi_str, e_isi_lst, e_isi_tup, e_t, e_tr, e_tand, e_ta, e_ta2, e_tor, e_to, e_tnot, e_tn, e_ttru, e_tt_bl, e_vand, e_va, e_va2, e_vor, e_vo, e_vo2, e_vnot, e_vn, e_rg1, e_comp, e_cp, e_neg, e_ng, e_tuple_l, e_st_nx, oEq_ii, oNe_ii, oSub_ii, oLt_ii, oLe_ii, oGt_ii, oGe_ii, at0, at1, at2, oMod_ii, oDiv_ii, subT, entry, Option.bind_some, Option.map_some, List.length_cons, List.length_nil, List.length_map, List.map_cons, List.map_nil, List.cons_append, List.nil_append, List.replicate_succ, List.replicate_zero, List.set_cons_succ, List.set_cons_zero, List.getElem?_cons_succ, List.getElem?_cons_zero, Nat.reduceSub, Nat.reduceAdd, Nat.reduceLT, Int.reduceLT, Int.reduceLE, Int.reduceSub, Int.reduceAdd, Int.reduceMul, Int.reduceMod, Int.reduceDiv, Int.reduceNeg, Int.reducePow, Int.reduceBEq, Int.reduceToNat, ↓reduceIte, Bool.not_true, Bool.true_and, Bool.false_and, Bool.and_true, Bool.and_false, Bool.true_or, Bool.false_or, Bool.or_true, Bool.or_false, Bool.not_false, Nat.zero_add, beq_self_eq_true, Bool.false_eq_true, c, q1', md, htw, mu, mz, p39, lim]
        refine fin (far - B * tw) _ _ _ _ (by unfold stT; rw [List.map_append]; rfl) ⟨?_, fun h => by omega, fun h => by omega⟩
        · show (far - B * tw).natAbs ≤ 2 * 10 ^ 39
          rw [hB]
          omega
      · simp -implicitDefEqProofs only [e_lenS_s, e_lenS_l, e_lenS_t, e_lenS_c, e_starts, e_addS_ii, e_addS_ll, e_addS_ss, e_addS_tt, e_inT_ss, e_ixS_l, e_ixS_t, e_ixS_c, e_slS_s, e_slS_l, e_slS_c, e_splitS, e_itemsS_l, e_itemsS_t, e_itemsS_s, e_iseqS, e_fSlS, e_mir, e_om_rt, e_seq, e_bs_nx, e_bs_rt, e_nil, e_set, e_ss_sh, e_ss_fr, e_if, e_if_t, e_if_f, e_ret, e_rs_sh, e_rs_fr, e_app, e_as, e_share, e_sh_ow, e_for, e_fs, e_var, e_vr_sh, e_vr_ow, e_c, e_e, e_ed, e_d, e_dr_sh, e_dr_fr, e_v, e_vv_sh, e_vv_fr, e_vv_vw, e_op, e_o2, e_call, e_cl, e_or_sh, e_or_fr, e_ac, e_ca, e_an, e_lst, e_tup, e_blt, e_bl, e_po, e_pa, e_ap, e_ite, e_it_t, e_it_f, e_isi, e_isi_str, e_isi_lst, e_isi_tup, e_t, e_tr, e_tand, e_ta, e_ta2, e_tor, e_to, e_tnot, e_tn, e_ttru, e_tt_bl, e_vand, e_va, e_va2, e_vor, e_vo, e_vo2, e_vnot, e_vn, e_rg1, e_comp, e_cp, e_neg, e_ng, e_tuple_l, e_st_nx, oEq_ii, oNe_ii, oSub_ii, oLt_ii, oLe_ii, oGt_ii, oGe_ii, at0, at1, at2, oMod_ii, oDiv_ii, subT, entry, Option.bind_some, Option.map_some, List.length_cons, List.length_nil, List.length_map, List.map_cons, List.map_nil, List.cons_append, List.nil_append, List.replicate_succ, List.replicate_zero, List.set_cons_succ, List.set_cons_zero, List.getElem?_cons_succ, List.getElem?_cons_zero, Nat.reduceSub, Nat.reduceAdd, Nat.reduceLT, Int.reduceLT, Int.reduceLE, Int.reduceSub, Int.reduceAdd, Int.reduceMul, Int.reduceMod, Int.reduceDiv, Int.reduceNeg, Int.reducePow, Int.reduceBEq, Int.reduceToNat, ↓reduceIte, Bool.not_true, Bool.true_and, Bool.false_and, Bool.and_true, Bool.and_false, Bool.true_or, Bool.false_or, Bool.or_true, Bool.or_false, Bool.not_false, Nat.zero_add, beq_self_eq_true, Bool.false_eq_true, c, q1', md, htw, mu, mz, p39, lim]
        refine fin (g + far) _ _ _ _ (by unfold stT; rw [List.map_append]; rfl) ⟨?_, fun h => by omega, fun h => by omega⟩
        · show (g + far).natAbs ≤ 2 * 10 ^ 39
          omega
      · simp -implicitDefEqProofs only [e_lenS_s, e_lenS_l, e_lenS_t, e_lenS_c, e_starts, e_addS_ii, e_addS_ll, e_addS_ss, e_addS_tt, e_inT_ss, e_ixS_l, e_ixS_t, e_ixS_c, e_slS_s, e_slS_l, e_slS_c, e_splitS, e_itemsS_l, e_itemsS_t, e_itemsS_s, e_iseqS, e_fSlS, e_mir, e_om_rt, e_seq, e_bs_nx, e_bs_rt, e_nil, e_set, e_ss_sh, e_ss_fr, e_if, e_if_t, e_if_f, e_ret, e_rs_sh, e_rs_fr, e_app, e_as, e_share, e_sh_ow, e_for, e_fs, e_var, e_vr_sh, e_vr_ow, e_c, e_e, e_ed, e_d, e_dr_sh, e_dr_fr, e_v, e_vv_sh, e_vv_fr, e_vv_vw, e_op, e_o2, e_call, e_cl, e_or_sh, e_or_fr, e_ac, e_ca, e_an, e_lst, e_tup, e_blt, e_bl, e_po, e_pa, e_ap, e_ite, e_it_t, e_it_f, e_isi, e_isi_str, e_isi_lst, e_isi_tup, e_t, e_tr, e_tand, e_ta, e_ta2, e_tor, e_to, e_tnot, e_tn, e_ttru, e_tt_bl, e_vand, e_va, e_va2, e_vor, e_vo, e_vo2, e_vnot, e_vn, e_rg1, e_comp, e_cp, e_neg, e_ng, e_tuple_l, e_st_nx, oEq_ii, oNe_ii, oSub_ii, oLt_ii, oLe_ii, oGt_ii, oGe_ii, at0, at1, at2, oMod_ii, oDiv_ii, subT, entry, Option.bind_some, Option.map_some, List.length_cons, List.length_nil, List.length_map, List.map_cons, List.map_nil, List.cons_append, List.nil_append, List.replicate_succ, List.replicate_zero, List.set_cons_succ, List.set_cons_zero, List.getElem?_cons_succ, List.getElem?_cons_zero, Nat.reduceSub, Nat.reduceAdd, Nat.reduceLT, Int.reduceLT, Int.reduceLE, Int.reduceSub, Int.reduceAdd, Int.reduceMul, Int.reduceMod, Int.reduceDiv, Int.reduceNeg, Int.reducePow, Int.reduceBEq, Int.reduceToNat, ↓reduceIte, Bool.not_true, Bool.true_and, Bool.false_and, Bool.and_true, Bool.and_false, Bool.true_or, Bool.false_or, Bool.or_true, Bool.or_false, Bool.not_false, Nat.zero_add, beq_self_eq_true, Bool.false_eq_true, c, q1', md, htw, mu, mz, p39, lim, at2']
        refine fin (far % z) _ _ _ _ (by unfold stT; rw [List.map_append]; rfl) ⟨?_, fun h => by omega, fun h => ⟨r0, r1⟩⟩
        · show (far % z).natAbs ≤ 2 * 10 ^ 39
          omega)
    (ω := stT ns K b z g [] none none none none none) ⟨[], none, none, none, rfl, rfl, fun _ h => by cases h⟩
  exact ⟨sp, x6, x7, x8, e, hl, hs⟩
def BoxOk (K z g : Int) (p : Bq) : Prop := SpotOk K z g p.a ∧ SpotOk K z g p.b ∧ (if K = 2 then p.v = [1] ∨ p.v = [-1] else p.v = [])
theorem boxes_at {ns cs sp : List Int} {K b z g : Int} {x6 x7 x8 : Option W} (hK : K = 0 ∨ K = 1 ∨ K = 2) (hl : sp.length = 6) (hs : ∀ x ∈ sp, SpotOk K z g x) (hc : cs.length < 1000) :
    ∃ (bs : List Bq) (y7 y10 : Option W), forD (gN 7) L2__law_thing (cs.map D.int) (stT ns K b z g sp x6 x7 x8 (some (.ow [])) none) = some (.nx, stT ns K b z g sp x6 y7 x8 (some (.ow (bs.map Bq.dat))) y10) ∧ bs.length = cs.length ∧ ∀ p ∈ bs, BoxOk K z g p := by
  obtain ⟨ω', e, bs, y7, y10, rfl, h1, h2⟩ := forD_map (g := gN 7) (b := L2__law_thing) D.int cs
    (fun pre ω => ∃ (bs : List Bq) (y7 y10 : Option W), ω = stT ns K b z g sp x6 y7 x8 (some (.ow (bs.map Bq.dat))) y10 ∧ bs.length = pre.length ∧ ∀ p ∈ bs, BoxOk K z g p)
    (fun pre c post ω hd ⟨bs, y7, y10, hω, h1, h2⟩ => by
      subst hω
      refine ⟨_, rfl, ?_⟩
      have hp : pre.length < cs.length := by rw [hd, List.length_append, List.length_cons]; omega
      obtain ⟨p, q1, q2⟩ := pick (xs := sp) (m := 6) (c := c / 2) (SpotOk K z g) (by decide) (by rw [hl]; rfl) hs
      obtain ⟨r, q3, q4⟩ := pick (xs := sp) (m := 6) (c := c / 12) (SpotOk K z g) (by decide) (by rw [hl]; rfl) hs
      obtain ⟨v, q5, q6⟩ := pick (xs := [1, -1]) (m := 2) (c := c) (fun v => v = 1 ∨ v = -1) (by decide) rfl (by decide)
      have q5' : atI [D.int 1, .int (-1)] (c % 2) = some (.int v) := q5
      have lim : bs.length < 1000000 := by omega
      have fin : ∀ (p : Bq) (y7 y10 : Option W) (ω : WSt), ω = stT ns K b z g sp x6 y7 x8 (some (.ow ((bs ++ [p]).map Bq.dat))) y10 → BoxOk K z g p → ∃ (bs : List Bq) (y7 y10 : Option W), ω = stT ns K b z g sp x6 y7 x8 (some (.ow (bs.map Bq.dat))) y10 ∧ bs.length = (pre ++ [c]).length ∧ ∀ p ∈ bs, BoxOk K z g p := fun p y7 y10 ω hω hp =>
        ⟨_, _, _, hω, by rw [List.length_append, List.length_append, h1]; rfl, fun y hy => by
          rcases List.mem_append.mp hy with hy | hy
          · exact h2 y hy
          · rw [List.mem_singleton.mp hy]; exact hp⟩
      have ad : oAddS (.tup [.int p, .int r]) (.tup [.int v]) = some (.sh (.tup [.int p, .int r, .int v])) := rfl
      show stepS (L2__law_thing [some (.sh (.scr ns)), some (.sh (.int K)), some (.sh (.int b)), some (.sh (.int z)), some (.sh (.int g)), some (.ow (sp.map D.int)), x6, some (.sh (.int c)), x8, some (.ow (bs.map Bq.dat)), y10]) _
      unfold L2__law_thing
      rcases hK with rfl | rfl | rfl
      · simp -implicitDefEqProofs only [e_lenS_s, e_lenS_l, e_lenS_t, e_lenS_c, e_starts, e_addS_ii, e_addS_ll, e_addS_ss, e_addS_tt, e_inT_ss, e_ixS_l, e_ixS_t, e_ixS_c, e_slS_s, e_slS_l, e_slS_c, e_splitS, e_itemsS_l, e_itemsS_t, e_itemsS_s, e_iseqS, e_fSlS, e_mir, e_om_rt, e_seq, e_bs_nx, e_bs_rt, e_nil, e_set, e_ss_sh, e_ss_fr, e_if, e_if_t, e_if_f, e_ret, e_rs_sh, e_rs_fr, e_app, e_as, e_share, e_sh_ow, e_for, e_fs, e_var, e_vr_sh, e_vr_ow, e_c, e_e, e_ed, e_d, e_dr_sh, e_dr_fr, e_v, e_vv_sh, e_vv_fr, e_vv_vw, e_op, e_o2, e_call, e_cl, e_or_sh, e_or_fr, e_ac, e_ca, e_an, e_lst, e_tup, e_blt, e_bl, e_po, e_pa, e_ap, e_ite, e_it_t, e_it_f, e_isi, e_isi_str, e_isi_lst, e_isi_tup, e_t, e_tr, e_tand, e_ta, e_ta2, e_tor, e_to, e_tnot, e_tn, e_ttru, e_tt_bl, e_vand, e_va, e_va2, e_vor, e_vo, e_vo2, e_vnot, e_vn, e_rg1, e_comp, e_cp, e_neg, e_ng, e_tuple_l, e_st_nx, oEq_ii, oNe_ii, oSub_ii, oLt_ii, oLe_ii, oGt_ii, oGe_ii, at0, at1, at2, oMod_ii, oDiv_ii, subT, entry, Option.bind_some, Option.map_some, List.length_cons, List.length_nil, List.length_map, List.map_cons, List.map_nil, List.cons_append, List.nil_append, List.replicate_succ, List.replicate_zero, List.set_cons_succ, List.set_cons_zero, List.getElem?_cons_succ, List.getElem?_cons_zero, Nat.reduceSub, Nat.reduceAdd, Nat.reduceLT, Int.reduceLT, Int.reduceLE, Int.reduceSub, Int.reduceAdd, Int.reduceMul, Int.reduceMod, Int.reduceDiv, Int.reduceNeg, Int.reducePow, Int.reduceBEq, Int.reduceToNat, ↓reduceIte, Bool.not_true, Bool.true_and, Bool.false_and, Bool.and_true, Bool.and_false, Bool.true_or, Bool.false_or, Bool.or_true, Bool.or_false, Bool.not_false, Nat.zero_add, beq_self_eq_true, Bool.false_eq_true, q1, q3, q5', lim]
        exact fin ⟨p, r, []⟩ _ _ _ (by unfold stT; rw [List.map_append]; rfl) ⟨q2, q4, rfl⟩
      · simp -implicitDefEqProofs only [e_lenS_s, e_lenS_l, e_lenS_t, e_lenS_c, e_starts, e_addS_ii, e_addS_ll, e_addS_ss, e_addS_tt, e_inT_ss, e_ixS_l, e_ixS_t, e_ixS_c, e_slS_s, e_slS_l, e_slS_c, e_splitS, e_itemsS_l, e_itemsS_t, e_itemsS_s, e_iseqS, e_fSlS, e_mir, e_om_rt, e_seq, e_bs_nx, e_bs_rt, e_nil, e_set, e_ss_sh, e_ss_fr, e_if, e_if_t, e_if_f, e_ret, e_rs_sh, e_rs_fr, e_app, e_as, e_share, e_sh_ow, e_for, e_fs, e_var, e_vr_sh, e_vr_ow, e_c, e_e, e_ed, e_d, e_dr_sh, e_dr_fr, e_v, e_vv_sh, e_vv_fr, e_vv_vw, e_op, e_o2, e_call, e_cl, e_or_sh, e_or_fr, e_ac, e_ca, e_an, e_lst, e_tup, e_blt, e_bl, e_po, e_pa, e_ap, e_ite, e_it_t, e_it_f, e_isi, e_isi_str, e_isi_lst, e_isi_tup, e_t, e_tr, e_tand, e_ta, e_ta2, e_tor, e_to, e_tnot, e_tn, e_ttru, e_tt_bl, e_vand, e_va, e_va2, e_vor, e_vo, e_vo2, e_vnot, e_vn, e_rg1, e_comp, e_cp, e_neg, e_ng, e_tuple_l, e_st_nx, oEq_ii, oNe_ii, oSub_ii, oLt_ii, oLe_ii, oGt_ii, oGe_ii, at0, at1, at2, oMod_ii, oDiv_ii, subT, entry, Option.bind_some, Option.map_some, List.length_cons, List.length_nil, List.length_map, List.map_cons, List.map_nil, List.cons_append, List.nil_append, List.replicate_succ, List.replicate_zero, List.set_cons_succ, List.set_cons_zero, List.getElem?_cons_succ, List.getElem?_cons_zero, Nat.reduceSub, Nat.reduceAdd, Nat.reduceLT, Int.reduceLT, Int.reduceLE, Int.reduceSub, Int.reduceAdd, Int.reduceMul, Int.reduceMod, Int.reduceDiv, Int.reduceNeg, Int.reducePow, Int.reduceBEq, Int.reduceToNat, ↓reduceIte, Bool.not_true, Bool.true_and, Bool.false_and, Bool.and_true, Bool.and_false, Bool.true_or, Bool.false_or, Bool.or_true, Bool.or_false, Bool.not_false, Nat.zero_add, beq_self_eq_true, Bool.false_eq_true, q1, q3, q5', lim]
        exact fin ⟨p, r, []⟩ _ _ _ (by unfold stT; rw [List.map_append]; rfl) ⟨q2, q4, rfl⟩
      · simp -implicitDefEqProofs only [e_lenS_s, e_lenS_l, e_lenS_t, e_lenS_c, e_starts, e_addS_ii, e_addS_ll, e_addS_ss, e_addS_tt, e_inT_ss, e_ixS_l, e_ixS_t, e_ixS_c, e_slS_s, e_slS_l, e_slS_c, e_splitS, e_itemsS_l, e_itemsS_t, e_itemsS_s, e_iseqS, e_fSlS, e_mir, e_om_rt, e_seq, e_bs_nx, e_bs_rt, e_nil, e_set, e_ss_sh, e_ss_fr, e_if, e_if_t, e_if_f, e_ret, e_rs_sh, e_rs_fr, e_app, e_as, e_share, e_sh_ow, e_for, e_fs, e_var, e_vr_sh, e_vr_ow, e_c, e_e, e_ed, e_d, e_dr_sh, e_dr_fr, e_v, e_vv_sh, e_vv_fr, e_vv_vw, e_op, e_o2, e_call, e_cl, e_or_sh, e_or_fr, e_ac, e_ca, e_an, e_lst, e_tup, e_blt, e_bl, e_po, e_pa, e_ap, e_ite, e_it_t, e_it_f, e_isi, e_isi_str, e_isi_lst, e_isi_tup, e_t, e_tr, e_tand, e_ta, e_ta2, e_tor, e_to, e_tnot, e_tn, e_ttru, e_tt_bl, e_vand, e_va, e_va2, e_vor, e_vo, e_vo2, e_vnot, e_vn, e_rg1, e_comp, e_cp, e_neg, e_ng, e_tuple_l, e_st_nx, oEq_ii, oNe_ii, oSub_ii, oLt_ii, oLe_ii, oGt_ii, oGe_ii, at0, at1, at2, oMod_ii, oDiv_ii, subT, entry, Option.bind_some, Option.map_some, List.length_cons, List.length_nil, List.length_map, List.map_cons, List.map_nil, List.cons_append, List.nil_append, List.replicate_succ, List.replicate_zero, List.set_cons_succ, List.set_cons_zero, List.getElem?_cons_succ, List.getElem?_cons_zero, Nat.reduceSub, Nat.reduceAdd, Nat.reduceLT, Int.reduceLT, Int.reduceLE, Int.reduceSub, Int.reduceAdd, Int.reduceMul, Int.reduceMod, Int.reduceDiv, Int.reduceNeg, Int.reducePow, Int.reduceBEq, Int.reduceToNat, ↓reduceIte, Bool.not_true, Bool.true_and, Bool.false_and, Bool.and_true, Bool.and_false, Bool.true_or, Bool.false_or, Bool.or_true, Bool.or_false, Bool.not_false, Nat.zero_add, beq_self_eq_true, Bool.false_eq_true, q1, q3, q5', lim, ad]
        refine fin ⟨p, r, [v]⟩ _ _ _ (by unfold stT; rw [List.map_append]; rfl) ⟨q2, q4, ?_⟩
        show [v] = [1] ∨ [v] = [-1]
        rcases q6 with rfl | rfl
        · exact .inl rfl
        · exact .inr rfl)
    (ω := stT ns K b z g sp x6 x7 x8 (some (.ow [])) none) ⟨[], _, _, rfl, rfl, fun _ h => by cases h⟩
  exact ⟨bs, y7, y10, e, h1, h2⟩
theorem six {sp : List Int} (h : sp.length = 6) : ∃ a b r, sp = a :: b :: r := by
  match sp, h with
  | a :: b :: r, _ => exact ⟨a, b, r, rfl⟩
theorem thing_at {ns : List Int} (hns : ns.length ≤ 63) : ∃ (k : PySem.Str) (xs : List Int) (bs : List Bq), m__law_thing [.scr ns] = some (.sh (thingD k xs bs)) ∧ HN k xs.length ∧ (∀ i ∈ xs, Sn i) ∧ (∀ p ∈ bs, KO k p) ∧ bs.length ≤ 63 ∧ PO k xs bs := by
  obtain ⟨B, hB, p39⟩ := pow39
  have c0 := cell_at (ns := ns) (k := 0) (by omega)
  have c1 := cell_at (ns := ns) (k := 1) (by omega)
  generalize ns.getD (0 : Int).toNat 0 = u at c0
  generalize ns.getD (1 : Int).toNat 0 = b at c1
  have hK : u % 3 = 0 ∨ u % 3 = 1 ∨ u % 3 = 2 := by omega
  obtain ⟨m, q1, q2, q3⟩ := pick (xs := [24, B]) (m := 2) (c := b) (fun y => 0 < y ∧ y ≤ 10 ^ 39) (by decide) rfl (by rw [hB]; decide)
  have q1' : atI [D.int 24, .int B] (b % 2) = some (.int m) := q1
  have z0 := Int.emod_nonneg (b / 2) (show m ≠ 0 by omega)
  have z1 := Int.emod_lt_of_pos (b / 2) q2
  have md := oMod_ii (a := b / 2) q2
  have mu : oMul (.int 2) (.int B) = some (.sh (.int (2 * B))) := oMulL_ii (by decide) (by decide)
  have hB2 : 0 < 2 * B := by omega
  have mg := oMod_ii (a := b / 4) hB2
  have g0 := Int.emod_nonneg (b / 4) (show 2 * B ≠ 0 by omega)
  have g1 := Int.emod_lt_of_pos (b / 4) hB2
  obtain ⟨g, q4, q5⟩ := pick (xs := [b / 4 % 19 - 9, b / 4 % (2 * B) - B]) (m := 2) (c := b / 2) (fun y => -(10 ^ 39) ≤ y ∧ y < 10 ^ 39) (by decide) rfl (by
    intro x hx
    rcases List.mem_cons.mp hx with rfl | hx
    · omega
    · rw [List.mem_singleton.mp hx, hB] at *
      omega)
  have q4' : atI [D.int (b / 4 % 19 - 9), .int (b / 4 % (2 * B) - B)] (b / 2 % 2) = some (.int g) := q4
  have hz : 0 < 1 + b / 2 % m := by omega
  have hz' : 1 + b / 2 % m ≤ 10 ^ 39 := by omega
  generalize b / 2 % m = zz at md hz hz'
  generalize b / 4 % (2 * B) = gg at mg q4'
  generalize hK' : u % 3 = K at hK
  obtain ⟨sp, x6, x7, x8, e1, l1, s1⟩ := spots_at (ns := ns) (b := b) hK hz hz' q5
  obtain ⟨w, q6, -⟩ := pick (xs := [5, 2, 0, 1, 9, 3]) (m := 6) (c := u / 3) (fun _ => True) (by decide) rfl (fun _ _ => trivial)
  have q6' : atI [D.int 5, .int 2, .int 0, .int 1, .int 9, .int 3] (u / 3 % 6) = some (.int w) := q6
  have hcl : (cutD ns (some 8) (some (8 + w))).length < 1000 := Nat.lt_of_le_of_lt cut_len (by omega)
  obtain ⟨bs, y7, y10, e2, l2, s2⟩ := boxes_at (ns := ns) (b := b) (x6 := x6) (x7 := x7) (x8 := x8) hK l1 s1 hcl
  obtain ⟨a0, a1, sr, rfl⟩ := six l1
  have o0 := s1 a0 (by simp)
  have o1 := s1 a1 (by simp)
  have e1' := e1
  have e2' := e2
  unfold stT at e1' e2'
  simp only [List.map_cons, List.map_nil] at e1' e2'
  have bl : bs.length ≤ 63 := by
    have := cut_len (xs := ns) (lo := some 8) (hi := some (8 + w))
    omega
  have rg : rg1I (some [D.int 6]) = some (Hk.upTo 0 6) := rfl
  have r0 : ∀ l, atI (D.int a0 :: D.int a1 :: l) 0 = some (.int a0) := fun _ => at0
  have r1 : ∀ l, atI (D.int a0 :: D.int a1 :: l) 1 = some (.int a1) := fun _ => at1
  rcases hK with rfl | rfl | rfl
  · refine ⟨"rail", [a0, a1], bs, ?_, .inl ⟨rfl, rfl⟩, ?_, ?_, bl, .inl ⟨rfl, _, _, rfl⟩⟩
    · simp_arith [m__law_thing, B__law_thing, c0, c1, hK', p39, q1', md, mu, mg, q4', rg, e1', q6', e2', r0, r1]
      rfl
    · intro i hi
      simp only [List.mem_cons, List.not_mem_nil, or_false] at hi
      rcases hi with rfl | rfl
      · exact o0.1
      · exact o1.1
    · intro p hp
      obtain ⟨t1, t2, t3⟩ := s2 p hp
      exact ⟨.inl ⟨.inl rfl, t3⟩, t1.1.sm, t2.1.sm⟩
  · refine ⟨"gate", [g], bs, ?_, .inr (.inl ⟨rfl, rfl⟩), ?_, ?_, bl, .inr (.inl ⟨rfl, _, rfl, ?_⟩)⟩
    · simp_arith [m__law_thing, B__law_thing, c0, c1, hK', p39, q1', md, mu, mg, q4', rg, e1', q6', e2', r0, r1]
      rfl
    · intro i hi
      rw [List.mem_singleton.mp hi]
      show g.natAbs ≤ 2 * 10 ^ 39
      omega
    · intro p hp
      obtain ⟨t1, t2, t3⟩ := s2 p hp
      exact ⟨.inl ⟨.inr rfl, t3⟩, t1.1.sm, t2.1.sm⟩
    · intro p hp
      obtain ⟨t1, t2, t3⟩ := s2 p hp
      exact ⟨t1.2.1 rfl, t2.2.1 rfl⟩
  · have n0 := o0.2.2 rfl
    have n1 := o1.2.2 rfl
    refine ⟨"ring", [1 + zz, a0, a1], bs, ?_, .inr (.inr ⟨rfl, rfl⟩), ?_, ?_, bl, .inr (.inr ⟨rfl, _, _, _, rfl, n0.1, n0.2, n1.1, n1.2, ?_⟩)⟩
    · simp_arith [m__law_thing, B__law_thing, c0, c1, hK', p39, q1', md, mu, mg, q4', rg, e1', q6', e2', r0, r1]
      rfl
    · intro i hi
      simp only [List.mem_cons, List.not_mem_nil, or_false] at hi
      rcases hi with rfl | rfl | rfl
      · show (1 + zz).natAbs ≤ 2 * 10 ^ 39
        omega
      · exact o0.1
      · exact o1.1
    · intro p hp
      obtain ⟨t1, t2, t3⟩ := s2 p hp
      exact ⟨.inr ⟨rfl, t3⟩, t1.1.sm, t2.1.sm⟩
    · intro p hp
      obtain ⟨t1, t2, t3⟩ := s2 p hp
      exact ⟨(t1.2.2 rfl).1, (t1.2.2 rfl).2, (t2.2.2 rfl).1, (t2.2.2 rfl).2⟩
theorem sl_init {x y : D} {xs : List D} : oSlS (.tup (x :: (xs ++ [y]))) none (some (-1)) = some (.sh (.tup (x :: xs))) := by
  have e2 : HT.sIx (x :: (xs ++ [y])).length (x :: (xs ++ [y])).length (some (-1)) = 1 + xs.length := by
    unfold HT.sIx
    dsimp only
    rw [if_pos (by omega), List.length_cons, List.length_append, List.length_singleton]
    omega
  show oSl (.tup (x :: (xs ++ [y]))) none (some (-1)) = _
  unfold oSl
  dsimp only
  rw [if_neg (by rw [e2, List.length_cons, List.length_append, List.length_singleton]; omega)]
  unfold cutD
  rw [HT.sIx_none, e2]
  show some (R.sh (.tup ((x :: (xs ++ [y])).take (1 + xs.length)))) = _
  rw [Nat.add_comm, List.take_succ_cons, List.take_left]
structure Gd (k : PySem.Str) (xs : List Int) (bs : List Bq) : Prop where
  hn : HN k xs.length
  sm : ∀ i ∈ xs, Sm i
  ko : ∀ p ∈ bs, KO k p
  po : PO k xs bs
  le : bs.length ≤ 900
theorem PO.app {k : PySem.Str} {xs : List Int} {bs : List Bq} {p : Bq} (h : PO k xs bs) (h' : PO k xs [p]) : PO k xs (bs ++ [p]) := by
  have n1 : ("rail" : PySem.Str) ≠ "gate" := by decide
  have n2 : ("rail" : PySem.Str) ≠ "ring" := by decide
  have n3 : ("gate" : PySem.Str) ≠ "ring" := by decide
  rcases h with ⟨a, b⟩ | ⟨a, g, b, c⟩ | ⟨a, z, u, l, b, c1, c2, c3, c4, c5⟩
  · exact .inl ⟨a, b⟩
  · rcases h' with ⟨a', _⟩ | ⟨_, g', b', c'⟩ | ⟨a', _⟩
    · exact absurd (a'.symm.trans a) n1
    · rw [b] at b'
      cases b'
      refine .inr (.inl ⟨a, g, b, fun q hq => ?_⟩)
      rcases List.mem_append.mp hq with hq | hq
      · exact c q hq
      · exact c' q hq
    · exact absurd (a.symm.trans a') n3
  · rcases h' with ⟨a', _⟩ | ⟨a', _⟩ | ⟨_, z', u', l', b', _, _, _, _, d5⟩
    · exact absurd (a'.symm.trans a) n2
    · exact absurd (a'.symm.trans a) n3
    · rw [b] at b'
      cases b'
      refine .inr (.inr ⟨a, z, u, l, b, c1, c2, c3, c4, fun q hq => ?_⟩)
      rcases List.mem_append.mp hq with hq | hq
      · exact c5 q hq
      · exact d5 q hq
theorem Gd.app {k : PySem.Str} {xs : List Int} {bs : List Bq} {p : Bq} (h : Gd k xs bs) (hp : KO k p) (ho : PO k xs [p]) (hl : bs.length < 900) : Gd k xs (bs ++ [p]) :=
  ⟨h.hn, h.sm, fun q hq => (List.mem_append.mp hq).elim (h.ko q) fun z => by rw [List.mem_singleton.mp z]; exact hp, h.po.app ho, by rw [List.length_append, List.length_singleton]; omega⟩
theorem say_text {k : PySem.Str} {xs : List Int} {bs : List Bq} (h : Gd k xs bs) : m_say (thingD k xs bs) (.str "text") = some (thingD k xs bs, .str (textOf k xs bs)) := by
  have hb := h.le
  have sh := show_at h.hn h.sm h.ko (by omega)
  have n1 : oEq false (.str "text") (.str "least") = some (.sh (.bl false)) := by rw [kind_eq (by decide) (by decide), decide_eq_false (by decide)]
  have n2 : oEq false (.str "text") (.str "tour") = some (.sh (.bl false)) := by rw [kind_eq (by decide) (by decide), decide_eq_false (by decide)]
  have n3 : oEq false (.str "text") (.str "text") = some (.sh (.bl true)) := by rw [kind_eq (by decide) (by decide), decide_eq_true rfl]
  have f0 : sy_t0 [none, some (.sh (.str "text"))] = some false := by unfold sy_t0; simp_arith [e_seq]
  have f1 : sy_t1 [none, some (.sh (.str "text"))] = some false := by unfold sy_t1; simp_arith [n1]
  have f2 : sy_t2 [none, some (.sh (.str "text"))] = some false := by unfold sy_t2; simp_arith [n2]
  have f3 : sy_t3 [none, some (.sh (.str "text"))] = some true := by unfold sy_t3; simp_arith [n3]
  unfold m_say mSay
  rw [f0, Option.bind_some, if_neg (by decide), f1, Option.bind_some, if_neg (by decide), f2, Option.bind_some, if_neg (by decide), f3, Option.bind_some, if_pos rfl, sh]
  rfl
theorem row_facts {z a b : PySem.Str} (hz : z.cps.toList = a.cps.toList ++ 32 :: b.cps.toList) (ha : ∀ c ∈ a.cps.toList, 33 ≤ c ∧ c < 128) (hb : ∀ c ∈ b.cps.toList, 33 ≤ c ∧ c < 128) (hd : a.cps.toList[0]? = some 97 ∨ a.cps.toList[0]? = some 100) (hl : z.length ≤ 1000) :
    sy_t0 [none, some (.sh (.str z))] = some false ∧ sy_t1 [none, some (.sh (.str z))] = some false ∧ sy_t2 [none, some (.sh (.str z))] = some false ∧ sy_t3 [none, some (.sh (.str z))] = some false ∧ sy_g [none, some (.sh (.str z))] = some (.lst [.str a, .str b]) := by
  have hza : ∀ c ∈ z.cps.toList, c < 128 := fun c hc => by
    rw [hz] at hc
    rcases List.mem_append.mp hc with hc | hc
    · exact (ha c hc).2
    · rcases List.mem_cons.mp hc with rfl | hc
      · decide
      · exact (hb c hc).2
  have z0 : z.cps.toList[0]? = some 97 ∨ z.cps.toList[0]? = some 100 := by
    rw [hz]
    cases q : a.cps.toList with
    | nil => rw [q] at hd; rcases hd with hd | hd <;> cases hd
    | cons u r => rw [q] at hd; exact hd
  have no : ∀ y : PySem.Str, (∀ c ∈ y.cps.toList, c < 128) → (y.cps.toList[0]? = some 108 ∨ y.cps.toList[0]? = some 116) → oEq false (.str z) (.str y) = some (.sh (.bl false)) := fun y hy h0 => by
    rw [oEq_ss hza hy, decide_eq_false fun e => ?_]
    rw [e] at z0
    rcases h0 with h0 | h0 <;> rw [h0] at z0 <;> rcases z0 with z0 | z0 <;> cases z0
  have n1 := no "least" (by decide) (.inl rfl)
  have n2 := no "tour" (by decide) (.inr rfl)
  have n3 := no "text" (by decide) (.inr rfl)
  have sp : oSplit (.str z) (.str " ") = some (.fr [.str a, .str b]) := by
    rw [e_splitS ⟨by decide, by omega⟩]
    have ez : z = PySem.Txt.join ⟨#[32]⟩ [a, b] := str_ext (by rw [join_list, hz]; rfl)
    have e : PySem.Txt.split z " " = [a, b] := by
      rw [ez]
      refine split_join (c := 32) (by decide) (by simp) fun y hy hc => ?_
      rcases List.mem_cons.mp hy with rfl | hy
      · have := (ha 32 hc).1; omega
      · rw [List.mem_singleton.mp hy] at hc
        have := (hb 32 hc).1; omega
    rw [e]; rfl
  have f0 : sy_t0 [none, some (.sh (.str z))] = some false := by unfold sy_t0; simp_arith [e_seq]
  have f1 : sy_t1 [none, some (.sh (.str z))] = some false := by unfold sy_t1; simp_arith [n1]
  have f2 : sy_t2 [none, some (.sh (.str z))] = some false := by unfold sy_t2; simp_arith [n2]
  have f3 : sy_t3 [none, some (.sh (.str z))] = some false := by unfold sy_t3; simp_arith [n3]
  have g : sy_g [none, some (.sh (.str z))] = some (.lst [.str a, .str b]) := by unfold sy_g; simp_arith [sp]
  exact ⟨f0, f1, f2, f3, g⟩
theorem say_row {d : D} {z a b : PySem.Str} (hz : z.cps.toList = a.cps.toList ++ 32 :: b.cps.toList) (ha : ∀ c ∈ a.cps.toList, 33 ≤ c ∧ c < 128) (hb : ∀ c ∈ b.cps.toList, 33 ≤ c ∧ c < 128) (hd : a.cps.toList[0]? = some 97 ∨ a.cps.toList[0]? = some 100) (hl : z.length ≤ 1000) :
    m_say d (.str z) = m_change d (.lst [.str a, .str b]) := by
  obtain ⟨f0, f1, f2, f3, g⟩ := row_facts hz ha hb hd hl
  unfold m_say mSay
  rw [f0, Option.bind_some, if_neg (by decide), f1, Option.bind_some, if_neg (by decide), f2, Option.bind_some, if_neg (by decide), f3, Option.bind_some, if_neg (by decide), g]
  rfl
theorem thing_add {k : PySem.Str} {xs : List Int} {y : D} (hx : xs.length ≤ 3) : oAddS (.tup (.str k :: xs.map D.int)) (.tup [y]) = some (.sh (.tup (.str k :: (xs.map D.int ++ [y])))) := by
  rw [e_addS_tt (by rw [List.length_cons, List.length_map, List.length_singleton]; omega)]; rfl
theorem with_at {k : PySem.Str} {xs : List Int} {bs : List Bq} {p : Bq} (h : Gd k xs (bs ++ [p])) : m_with_box [thingD k xs bs, p.dat] = some (.sh (thingD k xs (bs ++ [p]))) := by
  have hx := tab_two h.hn
  have hb := h.le
  rw [List.length_append, List.length_singleton] at hb
  have s1 := sl_init (x := .str k) (y := .lst (bs.map Bq.dat)) (xs := xs.map D.int)
  have s2 := last_tup (x := .str k) (y := .lst (bs.map Bq.dat)) (xs := xs.map D.int)
  have a1 : oAddS (.lst (bs.map Bq.dat)) (.lst [p.dat]) = some (.fr ((bs ++ [p]).map Bq.dat)) := by
    rw [e_addS_ll (by rw [List.length_map, List.length_singleton]; omega), List.map_append]; rfl
  have a2 := thing_add (k := k) (y := .lst ((bs ++ [p]).map Bq.dat)) hx.2
  have po := possible_at h.po h.ko (by have := h.le; omega)
  unfold m_with_box B_with_box
  unfold thingD at po ⊢
  generalize (bs ++ [p]).map Bq.dat = q at *
  simp_arith [s1, s2, a1, a2, po]
theorem without_at {k : PySem.Str} {xs : List Int} {bs : List Bq} {n : Nat} (h : Gd k xs bs) (hn : n < bs.length) : m_without_box [thingD k xs bs, .int (n : Int)] = some (.sh (thingD k xs (bs.take n ++ bs.drop (n + 1)))) := by
  have hx := tab_two h.hn
  have hb := h.le
  have s1 := sl_init (x := .str k) (y := .lst (bs.map Bq.dat)) (xs := xs.map D.int)
  have s2 := last_tup (x := .str k) (y := .lst (bs.map Bq.dat)) (xs := xs.map D.int)
  have c1 := cut_take (xs := bs.map Bq.dat) (k := (n : Int)) (by omega)
  have c2 := cut_drop (xs := bs.map Bq.dat) (k := (n : Int) + 1) (by omega)
  rw [Int.toNat_natCast, ← List.map_take] at c1
  rw [show ((n : Int) + 1).toNat = n + 1 by omega, ← List.map_drop] at c2
  have a1 : oAddS (.lst ((bs.take n).map Bq.dat)) (.lst ((bs.drop (n + 1)).map Bq.dat)) = some (.fr ((bs.take n ++ bs.drop (n + 1)).map Bq.dat)) := by
    rw [e_addS_ll (by rw [List.length_map, List.length_map, List.length_take, List.length_drop]; omega), List.map_append]
  have a2 := thing_add (k := k) (y := .lst ((bs.take n ++ bs.drop (n + 1)).map Bq.dat)) hx.2
  have z1 : decide ((n : Int) < 0) = false := decide_eq_false (by omega)
  have z2 : decide ((bs.length : Int) ≤ (n : Int)) = false := decide_eq_false (by omega)
  unfold m_without_box B_without_box thingD
  simp_arith [s1, s2, z1, z2, c1, c2, a1, a2]
theorem change_drop {k : PySem.Str} {xs : List Int} {bs : List Bq} {n : Nat} (h : Gd k xs bs) (hn : n < bs.length) : m_change (thingD k xs bs) (.lst [.str "drop", .str (nw (n : Int))]) = some (thingD k xs (bs.take n ++ bs.drop (n + 1)), .str "ok") := by
  have hs : Sm (n : Int) := by
    have := h.le
    show ((n : Int)).natAbs < 10 ^ 40
    omega
  have d1 : oEq false (.str "drop") (.str "add") = some (.sh (.bl false)) := by rw [kind_eq (by decide) (by decide), decide_eq_false (by decide)]
  have d2 : oEq false (.str "drop") (.str "drop") = some (.sh (.bl true)) := by rw [kind_eq (by decide) (by decide), decide_eq_true rfl]
  have nm : m_is_number [.str (nw (n : Int))] = some (.sh (.bl true)) := is_number_at (num_T hs)
  have ri := rd_num hs
  have w := without_at h hn
  have l2 : ((2 : Int) == 2) = true := rfl
  have t1 : ch_t1 [none, some (.sh (.lst [.str "drop", .str (nw (n : Int))])), some (.sh (.str k))] = some false := by
    unfold ch_t1
    simp_arith [d1]
    try rfl
  have t2 : ch_t2 [none, some (.sh (.lst [.str "drop", .str (nw (n : Int))])), some (.sh (.str k))] = some true := by
    unfold ch_t2
    simp_arith [d2, nm]
    try rfl
  have g2 : ch_g2 [none, some (.sh (.lst [.str "drop", .str (nw (n : Int))])), some (.sh (.str k))] = some (.int (n : Int)) := by
    unfold ch_g2
    simp_arith [ri]
  show (ch_t1 [none, some (.sh (.lst [.str "drop", .str (nw (n : Int))])), some (.sh (.str k))]).bind _ = _
  rw [t1, Option.bind_some, if_neg (by decide), t2, Option.bind_some, if_pos rfl, g2, Option.bind_some]
  show okD (m_without_box [thingD k xs bs, .int (n : Int)]) = _
  rw [w]; rfl
theorem change_add {k : PySem.Str} {xs : List Int} {bs : List Bq} {p : Bq} (h : Gd k xs (bs ++ [p])) : m_change (thingD k xs bs) (.lst [.str "add", .str (strL p.w)]) = some (thingD k xs (bs ++ [p]), .str "ok") := by
  have kp := h.ko p (by simp)
  have d2 : oEq false (.str "add") (.str "add") = some (.sh (.bl true)) := by rw [kind_eq (by decide) (by decide), decide_eq_true rfl]
  have nm := box_word_at kp
  have ri := read_box_at kp
  have w := with_at h
  have t1 : ch_t1 [none, some (.sh (.lst [.str "add", .str (strL p.w)])), some (.sh (.str k))] = some true := by
    unfold ch_t1
    simp_arith [d2, nm]
    try rfl
  have g1 : ch_g1 [none, some (.sh (.lst [.str "add", .str (strL p.w)])), some (.sh (.str k))] = some p.dat := by
    unfold ch_g1
    simp_arith [ri]
  show (ch_t1 [none, some (.sh (.lst [.str "add", .str (strL p.w)])), some (.sh (.str k))]).bind _ = _
  rw [t1, Option.bind_some, if_pos rfl, g1, Option.bind_some]
  show okD (m_with_box [thingD k xs bs, p.dat]) = _
  rw [w]; rfl
def refd (k : PySem.Str) (d : D) : Bool := (sy_t0 [none, some (.sh d)] == some true) || ((sy_t0 [none, some (.sh d)] == some false) && (sy_t1 [none, some (.sh d)] == some false) && (sy_t2 [none, some (.sh d)] == some false) && (sy_t3 [none, some (.sh d)] == some false) &&
  (match sy_g [none, some (.sh d)] with
  | some y => (ch_t1 [none, some (.sh y), some (.sh (.str k))] == some false) && (ch_t2 [none, some (.sh y), some (.sh (.str k))] == some false)
  | none => false))
theorem refd_no {k : PySem.Str} {xs : List Int} {bs : List Bq} {d : D} (h : refd k d = true) : mx_say (thingD k xs bs) d = some "NoWord" := by
  unfold refd at h
  unfold mx_say mSayX
  rcases Bool.or_eq_true_iff.mp h with h | h
  · rw [eq_of_beq h]; rfl
  · rw [Bool.and_eq_true, Bool.and_eq_true, Bool.and_eq_true, Bool.and_eq_true] at h
    obtain ⟨⟨⟨⟨h0, h1⟩, h2⟩, h3⟩, h4⟩ := h
    rw [eq_of_beq h0, Option.bind_some, if_neg Bool.false_ne_true, eq_of_beq h1, Option.bind_some, if_neg Bool.false_ne_true, eq_of_beq h2, Option.bind_some, if_neg Bool.false_ne_true, eq_of_beq h3, Option.bind_some, if_neg Bool.false_ne_true]
    split at h4
    · rename_i y e
      rw [Bool.and_eq_true] at h4
      rw [e, Option.bind_some]
      show (ch_t1 [none, some (.sh y), some (.sh (.str k))]).bind _ = _
      rw [eq_of_beq h4.1, Option.bind_some, if_neg Bool.false_ne_true, eq_of_beq h4.2, Option.bind_some, if_neg Bool.false_ne_true]
      rfl
    · cases h4
def rowsOf (s : PySem.Str) : Option (List D) := iSeq (dOf (fCall m__law_no_rows (aCons (dOf (fVar 0)) aNil))) [some (.sh (.str s))]
def okR (k s : PySem.Str) : Bool := match rowsOf s with
  | some cs => cs.all (refd k)
  | none => false
theorem okR_all : (okR "rail" "" && okR "gate" "" && okR "ring" "+") = true := by decide +kernel
def T4 (a b : Bool) : D := .tup [.bl true, .bl a, .bl b, .bl false]
theorem said_w {d x : D} (h : mx_say d x = some "NoWord") : m__law_said d x = some (d, T4 true false) := by
  have e1 : sd_g1 (sa0 x) = some (.tup []) := rfl
  have e2 : sd_g2 ((sa0 x).set 2 (some (.sh (.tup [])))) = some .non := rfl
  have e3 : sd_g (((sa0 x).set 2 (some (.sh (.tup [])))).set 3 (some (.sh .non))) = some x := rfl
  unfold m__law_said mSaid
  rw [e1, Option.bind_some, e2, Option.bind_some, e3, Option.bind_some, h]
  rfl
theorem said_b {d x : D} (h : mx_say d x = some "NoBox") : m__law_said d x = some (d, T4 false true) := by
  have e1 : sd_g1 (sa0 x) = some (.tup []) := rfl
  have e2 : sd_g2 ((sa0 x).set 2 (some (.sh (.tup [])))) = some .non := rfl
  have e3 : sd_g (((sa0 x).set 2 (some (.sh (.tup [])))).set 3 (some (.sh .non))) = some x := rfl
  unfold m__law_said mSaid
  rw [e1, Option.bind_some, e2, Option.bind_some, e3, Option.bind_some, h]
  rfl
theorem said_yes {d x d' r : D} (h : mx_say d x = none) (h2 : m_say d x = some (d', r)) : m__law_said d x = some (d', r) := by
  have e1 : sd_g1 (sa0 x) = some (.tup []) := rfl
  have e2 : sd_g2 ((sa0 x).set 2 (some (.sh (.tup [])))) = some .non := rfl
  have e3 : sd_g (((sa0 x).set 2 (some (.sh (.tup [])))).set 3 (some (.sh .non))) = some x := rfl
  unfold m__law_said mSaid
  rw [e1, Option.bind_some, e2, Option.bind_some, e3, Option.bind_some, h]
  show (m_say d x).bind _ = _
  rw [h2, Option.bind_some]
  rfl
theorem ys0 {f : FS} {g : FX} {ω w : WSt} (h : f ω = some (.nx, w)) : ySeq yNo f g ω = g w := by
  show (f ω).bind _ = _
  rw [h]; rfl
theorem without_x {k : PySem.Str} {xs : List Int} {bs : List Bq} {i : Int} : mx_without_box [thingD k xs bs, .int i] = if i < 0 ∨ (bs.length : Int) ≤ i then some ("NoBox" : PySem.Str) else none := by
  have s2 := last_tup (x := .str k) (y := .lst (bs.map Bq.dat)) (xs := xs.map D.int)
  unfold mx_without_box Y_without_box
  rw [ys0 (w := [some (.sh (thingD k xs bs)), some (.sh (.int i)), some (.sh (.lst (bs.map Bq.dat)))]) (by unfold thingD; simp_arith [s2])]
  unfold thingD
  by_cases h1 : i < 0
  · have z1 : decide (i < 0) = true := decide_eq_true h1
    rw [if_pos (.inl h1)]
    show (tOrF _ _ _).bind _ = _
    simp_arith [z1]
    try rfl
  · have z1 : decide (i < 0) = false := decide_eq_false h1
    by_cases h2 : (bs.length : Int) ≤ i
    · have z2 : decide ((bs.length : Int) ≤ i) = true := decide_eq_true h2
      rw [if_pos (.inr h2)]
      show (tOrF _ _ _).bind _ = _
      simp_arith [z1, z2]
      try rfl
    · have z2 : decide ((bs.length : Int) ≤ i) = false := decide_eq_false h2
      rw [if_neg fun h => h.elim h1 h2]
      show (tOrF _ _ _).bind _ = _
      simp_arith [z1, z2]
      try rfl
theorem drop_x {k : PySem.Str} {xs : List Int} {bs : List Bq} {i : Int} (hs : Sm i) : mx_change (thingD k xs bs) (.lst [.str "drop", .str (nw i)]) = if i < 0 ∨ (bs.length : Int) ≤ i then some ("NoBox" : PySem.Str) else none := by
  have d1 : oEq false (.str "drop") (.str "add") = some (.sh (.bl false)) := by rw [kind_eq (by decide) (by decide), decide_eq_false (by decide)]
  have d2 : oEq false (.str "drop") (.str "drop") = some (.sh (.bl true)) := by rw [kind_eq (by decide) (by decide), decide_eq_true rfl]
  have nm : m_is_number [.str (nw i)] = some (.sh (.bl true)) := is_number_at (num_T hs)
  have ri := rd_num hs
  have l2 : ((2 : Int) == 2) = true := rfl
  have t1 : ch_t1 [none, some (.sh (.lst [.str "drop", .str (nw i)])), some (.sh (.str k))] = some false := by
    unfold ch_t1
    simp_arith [d1]
    try rfl
  have t2 : ch_t2 [none, some (.sh (.lst [.str "drop", .str (nw i)])), some (.sh (.str k))] = some true := by
    unfold ch_t2
    simp_arith [d2, nm]
    try rfl
  have g2 : ch_g2 [none, some (.sh (.lst [.str "drop", .str (nw i)])), some (.sh (.str k))] = some (.int i) := by
    unfold ch_g2
    simp_arith [ri]
  show (ch_t1 [none, some (.sh (.lst [.str "drop", .str (nw i)])), some (.sh (.str k))]).bind _ = _
  rw [t1, Option.bind_some, if_neg Bool.false_ne_true, t2, Option.bind_some, if_pos rfl, g2, Option.bind_some]
  exact without_x
theorem with_x {k : PySem.Str} {xs : List Int} {bs : List Bq} {p : Bq} {b : Bool} (hn : HN k xs.length) (hb : bs.length ≤ 900) (po : m_is_possible [thingD k xs (bs ++ [p])] = some (.sh (.bl b))) : mx_with_box [thingD k xs bs, p.dat] = if b = true then none else some ("NoBox" : PySem.Str) := by
  have hx := tab_two hn
  have s1 := sl_init (x := .str k) (y := .lst (bs.map Bq.dat)) (xs := xs.map D.int)
  have s2 := last_tup (x := .str k) (y := .lst (bs.map Bq.dat)) (xs := xs.map D.int)
  have a1 : oAddS (.lst (bs.map Bq.dat)) (.lst [p.dat]) = some (.fr ((bs ++ [p]).map Bq.dat)) := by
    rw [e_addS_ll (by rw [List.length_map, List.length_singleton]; omega), List.map_append]; rfl
  have a2 := thing_add (k := k) (y := .lst ((bs ++ [p]).map Bq.dat)) hx.2
  unfold mx_with_box Y_with_box
  rw [ys0 (w := [some (.sh (thingD k xs bs)), some (.sh p.dat), some (.sh (thingD k xs (bs ++ [p])))]) (by
    unfold thingD
    generalize (bs ++ [p]).map Bq.dat = q at *
    simp_arith [s1, s2, a1, a2])]
  show (tNotF _ _).bind _ = _
  generalize thingD k xs (bs ++ [p]) = q at *
  cases b <;> (simp_arith [po]; try rfl)
theorem add_x {k : PySem.Str} {xs : List Int} {bs : List Bq} {p : Bq} {b : Bool} (hn : HN k xs.length) (hb : bs.length ≤ 900) (kp : KO k p) (po : m_is_possible [thingD k xs (bs ++ [p])] = some (.sh (.bl b))) : mx_change (thingD k xs bs) (.lst [.str "add", .str (strL p.w)]) = if b = true then none else some ("NoBox" : PySem.Str) := by
  have d2 : oEq false (.str "add") (.str "add") = some (.sh (.bl true)) := by rw [kind_eq (by decide) (by decide), decide_eq_true rfl]
  have nm := box_word_at kp
  have ri := read_box_at kp
  have t1 : ch_t1 [none, some (.sh (.lst [.str "add", .str (strL p.w)])), some (.sh (.str k))] = some true := by
    unfold ch_t1
    simp_arith [d2, nm]
    try rfl
  have g1 : ch_g1 [none, some (.sh (.lst [.str "add", .str (strL p.w)])), some (.sh (.str k))] = some p.dat := by
    unfold ch_g1
    simp_arith [ri]
  show (ch_t1 [none, some (.sh (.lst [.str "add", .str (strL p.w)])), some (.sh (.str k))]).bind _ = _
  rw [t1, Option.bind_some, if_pos rfl, g1, Option.bind_some]
  exact with_x hn hb po
theorem sayx_row {d : D} {z a b : PySem.Str} (hz : z.cps.toList = a.cps.toList ++ 32 :: b.cps.toList) (ha : ∀ c ∈ a.cps.toList, 33 ≤ c ∧ c < 128) (hb : ∀ c ∈ b.cps.toList, 33 ≤ c ∧ c < 128) (hd : a.cps.toList[0]? = some 97 ∨ a.cps.toList[0]? = some 100) (hl : z.length ≤ 1000) :
    mx_say d (.str z) = mx_change d (.lst [.str a, .str b]) := by
  obtain ⟨f0, f1, f2, f3, g⟩ := row_facts hz ha hb hd hl
  unfold mx_say mSayX
  rw [f0, Option.bind_some, if_neg Bool.false_ne_true, f1, Option.bind_some, if_neg Bool.false_ne_true, f2, Option.bind_some, if_neg Bool.false_ne_true, f3, Option.bind_some, if_neg Bool.false_ne_true, g]
  rfl
theorem sayx_text {d : D} : mx_say d (.str "text") = none := by
  have n1 : oEq false (.str "text") (.str "least") = some (.sh (.bl false)) := by rw [kind_eq (by decide) (by decide), decide_eq_false (by decide)]
  have n2 : oEq false (.str "text") (.str "tour") = some (.sh (.bl false)) := by rw [kind_eq (by decide) (by decide), decide_eq_false (by decide)]
  have n3 : oEq false (.str "text") (.str "text") = some (.sh (.bl true)) := by rw [kind_eq (by decide) (by decide), decide_eq_true rfl]
  have f0 : sy_t0 [none, some (.sh (.str "text"))] = some false := by unfold sy_t0; simp_arith [e_seq]
  have f1 : sy_t1 [none, some (.sh (.str "text"))] = some false := by unfold sy_t1; simp_arith [n1]
  have f2 : sy_t2 [none, some (.sh (.str "text"))] = some false := by unfold sy_t2; simp_arith [n2]
  have f3 : sy_t3 [none, some (.sh (.str "text"))] = some true := by unfold sy_t3; simp_arith [n3]
  unfold mx_say mSayX
  rw [f0, Option.bind_some, if_neg Bool.false_ne_true, f1, Option.bind_some, if_neg Bool.false_ne_true, f2, Option.bind_some, if_neg Bool.false_ne_true, f3, Option.bind_some, if_pos rfl]
theorem yard_no {g : Int} {bs : List Bq} (hv : ∀ p ∈ bs, p.v = []) (hb : bs.length ≤ 1000) (hg : ∃ p ∈ bs, ¬(g ≤ p.a ∧ g ≤ p.b)) : m_is_yard [.int g, .lst (bs.map Bq.dat)] = some (.sh (.bl false)) := by
  have e := errand_at (h := g) (l := g) hv hb
  have k1 : ∀ b, compR 1 [0] (some (bs.map Bq.dat)) (gN 0) tTrue E1_is_yard [some (.sh (.int g)), b] = some (.fr (bs.map fun p => D.bl (decide (g ≤ minL [p.a, p.b])))) := fun b => by
    rw [e_cp (by rw [List.length_map]; omega), show inW 1 [0] [some (.sh (.int g)), b] = [none, some (.sh (.int g))] from rfl, compD_mapA (i := 0) Bq.dat (fun p => D.bl (decide (g ≤ minL [p.a, p.b]))) bs fun p hp => ?_]
    · rfl
    · have m : bMinT [p.dat] = some (.sh (.int (minL [p.a, p.b]))) := by
        unfold Bq.dat
        rw [hv p hp]
        exact bMinT_i (ns := [p.a, p.b]) (by simp)
      simp_arith [E1_is_yard, m]
  have a1 : bAll [.lst (bs.map fun p => D.bl (decide (g ≤ minL [p.a, p.b])))] = some (.sh (.bl false)) := by
    show (allB _).map _ = _
    obtain ⟨p, hp, h⟩ := hg
    rw [bAll_a (fun p => decide (g ≤ minL [p.a, p.b])) bs, List.all_eq_false.mpr ⟨p, hp, fun z => h (by
      have := of_decide_eq_true z
      simp only [minL] at this
      omega)⟩]; rfl
  simp_arith [m_is_yard, B_is_yard, e, k1, a1]
def inn (z i : Int) : Bool := decide (0 ≤ i) && decide (i < z)
theorem place_any {z i : Int} : m_has_place [.int z, .int i] = some (.sh (.bl (inn z i))) := by
  have w := whole_i
  unfold inn
  cases d0 : decide (0 ≤ i) <;> cases d1 : decide (i < z) <;> (simp_arith [m_has_place, B_has_place, w, d0, d1]; try rfl)
theorem ring_box_any {z a b v : Int} (h : v = 1 ∨ v = -1) : m_is_ring_box [.int z, .tup [.int a, .int b, .int v]] = some (.sh (.bl (inn z a && inn z b))) := by
  have w := way_at h
  have p1 := place_any (z := z) (i := a)
  have p2 := place_any (z := z) (i := b)
  have th : (((3 : Nat) : Int) == 3) = true := rfl
  generalize inn z a = u at *
  generalize inn z b = u' at *
  cases u <;> cases u' <;> (simp_arith [m_is_ring_box, B_is_ring_box, w, p1, p2, th]; try rfl)
theorem ring_no {z h l : Int} {bs : List Bq} (hv : ∀ p ∈ bs, p.v = [1] ∨ p.v = [-1]) (hb : bs.length ≤ 1000) (hh : 0 ≤ h ∧ h < z) (hl : 0 ≤ l ∧ l < z) (hp : ∃ p ∈ bs, (inn z p.a && inn z p.b) = false) :
    m_is_ring [.int z, .int h, .int l, .lst (bs.map Bq.dat)] = some (.sh (.bl false)) := by
  have w := whole_i
  have p1 := place_at hh.1 hh.2
  have p2 := place_at hl.1 hl.2
  have k1 : ∀ b c d, compR 1 [0] (some (bs.map Bq.dat)) (gN 0) tTrue E1_is_ring [some (.sh (.int z)), b, c, d] = some (.fr (bs.map fun p => D.bl (inn z p.a && inn z p.b))) := fun b c d => by
    rw [e_cp (by rw [List.length_map]; omega), show inW 1 [0] [some (.sh (.int z)), b, c, d] = [none, some (.sh (.int z))] from rfl, compD_mapA (i := 0) Bq.dat (fun p => D.bl (inn z p.a && inn z p.b)) bs fun p hq => ?_]
    · rfl
    · have : m_is_ring_box [.int z, p.dat] = some (.sh (.bl (inn z p.a && inn z p.b))) := by
        unfold Bq.dat
        rcases hv p hq with e | e
        · rw [e]; exact ring_box_any (.inl rfl)
        · rw [e]; exact ring_box_any (.inr rfl)
      simp_arith [E1_is_ring, this]
  have a1 : bAll [.lst (bs.map fun p => D.bl (inn z p.a && inn z p.b))] = some (.sh (.bl false)) := by
    show (allB _).map _ = _
    obtain ⟨p, hq, e⟩ := hp
    rw [bAll_a (fun p => inn z p.a && inn z p.b) bs, List.all_eq_false.mpr ⟨p, hq, by rw [e]; exact Bool.false_ne_true⟩]; rfl
  simp_arith [m_is_ring, B_is_ring, w, p1, p2, k1, a1]
  all_goals rfl
theorem poss_gate {g : Int} {bs : List Bq} (h2 : ∀ q ∈ bs, KO "gate" q) (hb : bs.length ≤ 1000) (hp : ∃ p ∈ bs, ¬(g ≤ p.a ∧ g ≤ p.b)) : m_is_possible [thingD "gate" [g] bs] = some (.sh (.bl false)) := by
  have kg : ("gate" : PySem.Str) ≠ "ring" := by decide
  have hv : ∀ p ∈ bs, p.v = [] := fun p hq => (h2 p hq).1.elim (·.2) fun e => absurd e.1 kg
  have e := yard_no hv hb hp
  have k1 := kind_no (k := "gate") (.inr rfl)
  have k2 := kind_gate
  have t0 : ∀ d, atI [D.str "gate", .int g, d] 0 = some (.str "gate") := fun _ => rfl
  have t1 : ∀ d, atI [D.str "gate", .int g, d] 1 = some (.int g) := fun _ => rfl
  have t2 : ∀ d, atI [D.str "gate", .int g, d] 2 = some d := fun _ => rfl
  simp_arith [m_is_possible, B_is_possible, thingD, k1, k2, e, t0, t1, t2]
theorem poss_ring {z x l : Int} {bs : List Bq} (h2 : ∀ q ∈ bs, KO "ring" q) (hb : bs.length ≤ 1000) (hh : 0 ≤ x ∧ x < z) (hl : 0 ≤ l ∧ l < z) (hp : ∃ p ∈ bs, (inn z p.a && inn z p.b) = false) : m_is_possible [thingD "ring" [z, x, l] bs] = some (.sh (.bl false)) := by
  have kr : ("rail" : PySem.Str) ≠ "ring" := by decide
  have kg : ("gate" : PySem.Str) ≠ "ring" := by decide
  have hv : ∀ p ∈ bs, p.v = [1] ∨ p.v = [-1] := fun p hq => (h2 p hq).1.elim (fun e => e.1.elim (fun e => absurd e.symm kr) fun e => absurd e.symm kg) (·.2)
  have e := ring_no hv hb hh hl hp
  have k1 := kind_yes
  have t0 : ∀ d, atI [D.str "ring", .int z, .int x, .int l, d] 0 = some (.str "ring") := fun _ => rfl
  have t1 : ∀ d, atI [D.str "ring", .int z, .int x, .int l, d] 1 = some (.int z) := fun _ => rfl
  have t2 : ∀ d, atI [D.str "ring", .int z, .int x, .int l, d] 2 = some (.int x) := fun _ => rfl
  have t3 : ∀ d, atI [D.str "ring", .int z, .int x, .int l, d] 3 = some (.int l) := fun _ => rfl
  have t4 : ∀ d, atI [D.str "ring", .int z, .int x, .int l, d] 4 = some d := fun _ => rfl
  simp_arith [m_is_possible, B_is_possible, thingD, k1, e, t0, t1, t2, t3, t4]
def NoB (k : PySem.Str) (xs : List Int) (bs : List Bq) (d : D) : Prop := m__law_said (thingD k xs bs) d = some (thingD k xs bs, T4 false true)
theorem add_len {z : PySem.Str} {k : PySem.Str} {p : Bq} (kp : KO k p) (hz : z.cps.toList = [97, 100, 100, 32] ++ p.w) : z.length ≤ 1000 := by
  have wl := w_len kp
  rw [len_cps, hz, List.length_append]
  show 4 + _ ≤ _
  omega
theorem w_ok {k : PySem.Str} {p : Bq} (kp : KO k p) : ∀ c ∈ (strL p.w).cps.toList, 33 ≤ c ∧ c < 128 := fun c hc => by
  rw [strL_l] at hc
  have := w_no kp hc
  omega
theorem add_no {k : PySem.Str} {xs : List Int} {bs : List Bq} {p : Bq} {z : PySem.Str} (g : Gd k xs bs) (kp : KO k p) (hz : z.cps.toList = [97, 100, 100, 32] ++ p.w) (po : m_is_possible [thingD k xs (bs ++ [p])] = some (.sh (.bl false))) : NoB k xs bs (.str z) :=
  said_b ((sayx_row (a := "add") (b := strL p.w) (by rw [hz, strL_l]; rfl) (by decide) (w_ok kp) (.inl rfl) (add_len kp hz)).trans (add_x g.hn g.le kp po))
theorem add_yes {k : PySem.Str} {xs : List Int} {bs : List Bq} {p : Bq} {z : PySem.Str} (g : Gd k xs (bs ++ [p])) (hz : z.cps.toList = [97, 100, 100, 32] ++ p.w) : m__law_said (thingD k xs bs) (.str z) = some (thingD k xs (bs ++ [p]), .str "ok") := by
  have kp := g.ko p (by simp)
  have hb := g.le
  have po := possible_at g.po g.ko (by omega)
  rw [List.length_append, List.length_singleton] at hb
  exact said_yes ((sayx_row (a := "add") (b := strL p.w) (by rw [hz, strL_l]; rfl) (by decide) (w_ok kp) (.inl rfl) (add_len kp hz)).trans (add_x g.hn (by omega) kp po)) ((say_row (a := "add") (b := strL p.w) (by rw [hz, strL_l]; rfl) (by decide) (w_ok kp) (.inl rfl) (add_len kp hz)).trans (change_add g))
theorem nw_no {i : Int} (h : Sm i) : ∀ c ∈ (nw i).cps.toList, 33 ≤ c ∧ c < 128 := fun c hc => by
  rw [nw_l] at hc
  have := sgn_no h hc
  omega
theorem drop_len {i : Int} (hs : Sm i) : ("drop " ++ nw i).length ≤ 1000 := by
  have := nw_len hs
  rw [PySem.strLen_append]
  show 5 + _ ≤ _
  omega
theorem drop_no {k : PySem.Str} {xs : List Int} {bs : List Bq} {i : Int} (hs : Sm i) (h : i < 0 ∨ (bs.length : Int) ≤ i) : NoB k xs bs (.str ("drop " ++ nw i)) :=
  said_b ((sayx_row (a := "drop") (b := nw i) (by rw [str_app]; rfl) (by decide) (nw_no hs) (.inr rfl) (drop_len hs)).trans (drop_x hs |>.trans (if_pos h)))
theorem drop_yes {k : PySem.Str} {xs : List Int} {bs : List Bq} {n : Nat} (g : Gd k xs bs) (hn : n < bs.length) : m__law_said (thingD k xs bs) (.str ("drop " ++ nw (n : Int))) = some (thingD k xs (bs.take n ++ bs.drop (n + 1)), .str "ok") := by
  have hs : Sm (n : Int) := by
    have := g.le
    show ((n : Int)).natAbs < 10 ^ 40
    omega
  exact said_yes ((sayx_row (a := "drop") (b := nw (n : Int)) (by rw [str_app]; rfl) (by decide) (nw_no hs) (.inr rfl) (drop_len hs)).trans (drop_x hs |>.trans (if_neg (by omega)))) ((say_row (a := "drop") (b := nw (n : Int)) (by rw [str_app]; rfl) (by decide) (nw_no hs) (.inr rfl) (drop_len hs)).trans (change_drop g hn))
theorem text_yes {k : PySem.Str} {xs : List Int} {bs : List Bq} (g : Gd k xs bs) : m__law_said (thingD k xs bs) (.str "text") = some (thingD k xs bs, .str (textOf k xs bs)) := said_yes sayx_text (say_text g)
theorem sgn_0 : sgn 0 = [48] := by rw [← nw_l]; decide +kernel
theorem sgn_m : sgn (-1) = [45, 49] := by rw [← nw_l]; decide +kernel
theorem sm_of {i : Int} (h : i.natAbs ≤ 2 * 10 ^ 39 + 1) : Sm i := by
  show i.natAbs < 10 ^ 40
  omega
theorem ko_ring {a b v : Int} (ha : Sm a) (hb : Sm b) (hv : v = 1 ∨ v = -1) : KO "ring" ⟨a, b, [v]⟩ := ⟨.inr ⟨rfl, hv.elim (fun e => .inl (by rw [e])) fun e => .inr (by rw [e])⟩, ha, hb⟩
theorem ko_app {k : PySem.Str} {bs : List Bq} {p : Bq} (h : ∀ q ∈ bs, KO k q) (hp : KO k p) : ∀ q ∈ bs ++ [p], KO k q := fun q hq => (List.mem_append.mp hq).elim (h q) fun z => by rw [List.mem_singleton.mp z]; exact hp
theorem nbx_at {k : PySem.Str} {xs : List Int} {bs : List Bq} (g : Gd k xs bs) (hs : ∀ i ∈ xs, Sn i) : ∃ rows : List D, m__law_no_boxes [thingD k xs bs] = some (.fr rows) ∧ rows.length ≤ 4 ∧ ∀ r ∈ rows, NoB k xs bs r := by
  have hb := g.le
  have ko := g.ko
  have lb : ∀ p : Bq, (bs ++ [p]).length ≤ 1000 := fun p => by rw [List.length_append, List.length_singleton]; omega
  have g0 := g
  rcases g.po with ⟨rfl, h, l, rfl⟩ | ⟨rfl, i, rfl, hi⟩ | ⟨rfl, z, h, l, rfl, z1, z2, z3, z4, hp⟩
  · have k1 := kind_no (k := "rail") (.inl rfl)
    have k2 := kind_rail
    refine ⟨[], ?_, Nat.zero_le _, fun r hr => by cases hr⟩
    have t0 : ∀ d, atI [D.str "rail", .int h, .int l, d] 0 = some (.str "rail") := fun _ => rfl
    simp_arith [m__law_no_boxes, B__law_no_boxes, thingD, k1, k2, t0]
  · have k2 := kind_gate
    have si := hs i (by simp)
    have s1 : Sm i := si.sm
    have s2 : Sm (i - 1) := sm_of (by unfold Sn at si; omega)
    have b1 := bStr_at s1
    have b2 := bStr_at s2
    have n1 := nw_len s1
    have n2 := nw_len s2
    have t0 : ∀ d, atI [D.str "gate", .int i, d] 0 = some (.str "gate") := fun _ => rfl
    have t1 : ∀ d, atI [D.str "gate", .int i, d] 1 = some (.int i) := fun _ => rfl
    have c1 : ∀ j, Sm j → oAddS (.str "add ") (.str (nw j)) = some (.sh (.str ("add " ++ nw j))) := fun j hj => e_addS_ss (by have := nw_len hj; show 4 + _ ≤ _; omega)
    have c2 : ∀ j, Sm j → oAddS (.str ("add " ++ nw j)) (.str ">") = some (.sh (.str ("add " ++ nw j ++ ">"))) := fun j hj => e_addS_ss (by have := nw_len hj; rw [PySem.strLen_append]; show 4 + _ + 1 ≤ _; omega)
    have c3 : ∀ j m, Sm j → Sm m → oAddS (.str ("add " ++ nw j ++ ">")) (.str (nw m)) = some (.sh (.str ("add " ++ nw j ++ ">" ++ nw m))) := fun j m hj hm => e_addS_ss (by have := nw_len hj; have := nw_len hm; rw [PySem.strLen_append, PySem.strLen_append]; show 4 + _ + 1 + _ ≤ _; omega)
    have d1 := c1 i s1
    have d2 := c1 _ s2
    have d3 := c2 i s1
    have d4 := c2 _ s2
    have d5 := c3 _ _ s2 s1
    have d6 := c3 _ _ s1 s2
    have wd : ∀ a b : Int, ("add " ++ nw a ++ ">" ++ nw b).cps.toList = [97, 100, 100, 32] ++ (⟨a, b, []⟩ : Bq).w := fun a b => by
      rw [str_app, str_app, str_app, nw_l, nw_l]
      show [97, 100, 100, 32] ++ sgn a ++ [62] ++ sgn b = [97, 100, 100, 32] ++ (sgn a ++ 62 :: sgn b ++ [])
      simp only [List.append_assoc, List.append_nil, List.cons_append, List.nil_append]
    have kp : ∀ a b : Int, Sm a → Sm b → KO "gate" ⟨a, b, []⟩ := fun a b ha hb => ⟨.inl ⟨.inr rfl, rfl⟩, ha, hb⟩
    refine ⟨[.str ("add " ++ nw (i - 1) ++ ">" ++ nw i), .str ("add " ++ nw i ++ ">" ++ nw (i - 1))], ?_, show 2 ≤ 4 by decide, fun r hr => ?_⟩
    · simp_arith [m__law_no_boxes, B__law_no_boxes, thingD, k2, t0, t1, b1, b2, d1, d2, d3, d4, d5, d6]
    · rcases List.mem_cons.mp hr with rfl | hr
      · exact add_no g0 (kp _ _ s2 s1) (wd _ _) (poss_gate (ko_app ko (kp _ _ s2 s1)) (lb _) ⟨_, List.mem_append_right _ List.mem_cons_self, fun z => by have : i ≤ i - 1 := z.1; omega⟩)
      · rw [List.mem_singleton.mp hr]
        exact add_no g0 (kp _ _ s1 s2) (wd _ _) (poss_gate (ko_app ko (kp _ _ s1 s2)) (lb _) ⟨_, List.mem_append_right _ List.mem_cons_self, fun z => by have : i ≤ i - 1 := z.2; omega⟩)
  · have k1 := kind_yes
    have k2 : oEq false (.str "ring") (.str "gate") = some (.sh (.bl false)) := by rw [kind_eq (by decide) (by decide), decide_eq_false (by decide)]
    have sz := hs z (by simp)
    have s1 : Sm z := sz.sm
    have s0 : Sm 0 := sm_of (by decide)
    have sm : Sm (-1) := sm_of (by decide)
    have b1 := bStr_at s1
    have n1 := nw_len s1
    have t0 : ∀ d, atI [D.str "ring", .int z, .int h, .int l, d] 0 = some (.str "ring") := fun _ => rfl
    have t1 : ∀ d, atI [D.str "ring", .int z, .int h, .int l, d] 1 = some (.int z) := fun _ => rfl
    have c1 : oAddS (.str "add 0>") (.str (nw z)) = some (.sh (.str ("add 0>" ++ nw z))) := e_addS_ss (by show 6 + _ ≤ _; omega)
    have c2 : oAddS (.str ("add 0>" ++ nw z)) (.str "+") = some (.sh (.str ("add 0>" ++ nw z ++ "+"))) := e_addS_ss (by rw [PySem.strLen_append]; show 6 + _ + 1 ≤ _; omega)
    have c3 : oAddS (.str "add ") (.str (nw z)) = some (.sh (.str ("add " ++ nw z))) := e_addS_ss (by show 4 + _ ≤ _; omega)
    have c4 : oAddS (.str ("add " ++ nw z)) (.str ">0-") = some (.sh (.str ("add " ++ nw z ++ ">0-"))) := e_addS_ss (by rw [PySem.strLen_append]; show 4 + _ + 3 ≤ _; omega)
    have no : ∀ (a b v : Int) (y : PySem.Str), Sm a → Sm b → (v = 1 ∨ v = -1) → y.cps.toList = [97, 100, 100, 32] ++ (⟨a, b, [v]⟩ : Bq).w → (inn z a && inn z b) = false → NoB "ring" [z, h, l] bs (.str y) := fun a b v y ha hb hv hy hq =>
      add_no g0 (ko_ring ha hb hv) hy (poss_ring (ko_app ko (ko_ring ha hb hv)) (lb _) ⟨z1, z2⟩ ⟨z3, z4⟩ ⟨_, List.mem_append_right _ List.mem_cons_self, hq⟩)
    have iz : inn z z = false := by unfold inn; rw [decide_eq_false (Int.lt_irrefl z), Bool.and_false]
    have im : inn z (-1) = false := by unfold inn; rw [decide_eq_false (by decide), Bool.false_and]
    refine ⟨[.str ("add 0>" ++ nw z ++ "+"), .str ("add " ++ nw z ++ ">0-"), .str "add -1>0+", .str "add 0>-1-"], ?_, Nat.le_refl 4, fun r hr => ?_⟩
    · simp_arith [m__law_no_boxes, B__law_no_boxes, thingD, k1, k2, t0, t1, b1, c1, c2, c3, c4]
    · simp only [List.mem_cons, List.not_mem_nil, or_false] at hr
      rcases hr with rfl | rfl | rfl | rfl
      · refine no 0 z 1 _ s0 s1 (.inl rfl) ?_ (by rw [iz, Bool.and_false])
        rw [str_app, str_app, nw_l]
        show [97, 100, 100, 32, 48, 62] ++ sgn z ++ [43] = [97, 100, 100, 32] ++ (sgn 0 ++ 62 :: sgn z ++ [43])
        rw [sgn_0]; rfl
      · refine no z 0 (-1) _ s1 s0 (.inr rfl) ?_ (by rw [iz, Bool.false_and])
        rw [str_app, str_app, nw_l]
        show [97, 100, 100, 32] ++ sgn z ++ [62, 48, 45] = [97, 100, 100, 32] ++ (sgn z ++ 62 :: sgn 0 ++ [45])
        rw [sgn_0]; simp only [List.append_assoc, List.cons_append, List.nil_append]
      · refine no (-1) 0 1 _ sm s0 (.inl rfl) ?_ (by rw [im, Bool.false_and])
        show [97, 100, 100, 32, 45, 49, 62, 48, 43] = [97, 100, 100, 32] ++ (sgn (-1) ++ 62 :: sgn 0 ++ [43])
        rw [sgn_0, sgn_m]; rfl
      · refine no 0 (-1) (-1) _ s0 sm (.inr rfl) ?_ (by rw [im, Bool.and_false])
        show [97, 100, 100, 32, 48, 62, 45, 49, 45] = [97, 100, 100, 32] ++ (sgn 0 ++ 62 :: sgn (-1) ++ [45])
        rw [sgn_0, sgn_m]; rfl
structure Kd (k : PySem.Str) (xs : List Int) (r : Bool) (i : Int) (sg hm : PySem.Str) (p : Bq) : Prop where
  eq : oEq false (.str k) (.str "ring") = some (.sh (.bl r))
  hs : sg = if r = true then ("+" : PySem.Str) else ("" : PySem.Str)
  rows : okR k sg = true
  x1 : ∀ y, atI (D.str k :: (xs.map D.int ++ [y])) 1 = some (.int i)
  si : Sm i
  hh : hm = if r = true then ("0" : PySem.Str) else nw i
  ko : KO k p
  po : PO k xs [p]
  w : ("add " ++ hm ++ ">" ++ hm ++ sg).cps.toList = [97, 100, 100, 32] ++ p.w
  len : hm.length ≤ 41 ∧ sg.length ≤ 1
theorem kd_at {k : PySem.Str} {xs : List Int} {bs : List Bq} (g : Gd k xs bs) : ∃ r i sg hm p, Kd k xs r i sg hm p := by
  have ok := okR_all
  rw [Bool.and_eq_true, Bool.and_eq_true] at ok
  have sm := g.sm
  have wd : ∀ a : Int, ("add " ++ nw a ++ ">" ++ nw a ++ "").cps.toList = [97, 100, 100, 32] ++ (⟨a, a, []⟩ : Bq).w := fun a => by
    rw [str_app, str_app, str_app, str_app, nw_l]
    show [97, 100, 100, 32] ++ sgn a ++ [62] ++ sgn a ++ [] = [97, 100, 100, 32] ++ (sgn a ++ 62 :: sgn a ++ [])
    simp only [List.append_assoc, List.append_nil, List.cons_append, List.nil_append]
  rcases g.po with ⟨rfl, h, l, rfl⟩ | ⟨rfl, i, rfl, hi⟩ | ⟨rfl, z, h, l, rfl, z1, z2, z3, z4, hp⟩
  · have s := sm h (by simp)
    exact ⟨false, h, "", nw h, ⟨h, h, []⟩, kind_no (.inl rfl), rfl, ok.1.1, fun _ => rfl, s, rfl, ⟨.inl ⟨.inl rfl, rfl⟩, s, s⟩, .inl ⟨rfl, h, l, rfl⟩, wd h, nw_len s, by decide⟩
  · have s := sm i (by simp)
    exact ⟨false, i, "", nw i, ⟨i, i, []⟩, kind_no (.inr rfl), rfl, ok.1.2, fun _ => rfl, s, rfl, ⟨.inl ⟨.inr rfl, rfl⟩, s, s⟩, .inr (.inl ⟨rfl, i, rfl, fun q hq => by rw [List.mem_singleton.mp hq]; exact ⟨Int.le_refl _, Int.le_refl _⟩⟩), wd i, nw_len s, by decide⟩
  · have s := sm z (by simp)
    have s0 : Sm 0 := sm_of (by decide)
    refine ⟨true, z, "+", "0", ⟨0, 0, [1]⟩, kind_yes, rfl, ok.2, fun _ => rfl, s, rfl, ko_ring s0 s0 (.inl rfl), .inr (.inr ⟨rfl, z, h, l, rfl, z1, z2, z3, z4, fun q hq => ?_⟩), ?_, by decide, by decide⟩
    · rw [List.mem_singleton.mp hq]
      exact ⟨Int.le_refl _, by show 0 < z; omega, Int.le_refl _, by show 0 < z; omega⟩
    · show [97, 100, 100, 32, 48, 62, 48, 43] = [97, 100, 100, 32] ++ (sgn 0 ++ 62 :: sgn 0 ++ [43])
      rw [sgn_0]; rfl
def S11 (ns : List Int) (T : D) (tx : PySem.Str) (x4 x5 x6 x7 x8 x9 x10 : Option W) : WSt := [some (.sh (.scr ns)), some (.sh T), some (.sh (.str tx)), none, x4, x5, x6, x7, x8, x9, x10]
theorem qe {f : FQ} {g : FQT} {ω ω' : WSt} {d d' : D} (h : f ω d = some (ω', d')) : qEnd f g ω d = g ω' d' := by
  show (f ω d).bind _ = _
  rw [h]; rfl
theorem cmp_ne {m : D → D → Option (D × D)} {g g2 : FD} {ω : WSt} {d x d' r : D} (h1 : g ω = some x) (h2 : m d x = some (d', r)) (h3 : g2 ω = some r) (hs : shp r = true) : qNo (qCmp true m g g2) ω d = some (ω, d') := by
  unfold qNo qCmp
  rw [h1, Option.bind_some, h2, Option.bind_some]
  show (((g2 ω).bind fun y => (blR (oEq true r y)).bind fun b => some (b, d')).bind _) = _
  rw [h3, Option.bind_some, oNe_self hs]
  rfl
theorem cmp_eq {m : D → D → Option (D × D)} {g g2 : FD} {ω : WSt} {d x d' r : D} (h1 : g ω = some x) (h2 : m d x = some (d', r)) (h3 : g2 ω = some r) (hs : shp r = true) : qCmp false m g g2 ω d = some (true, d') := by
  unfold qCmp
  rw [h1, Option.bind_some, h2, Option.bind_some]
  show ((g2 ω).bind fun y => (blR (oEq false r y)).bind fun b => some (b, d')) = _
  rw [h3, Option.bind_some, oEq_self hs]
  rfl
theorem cmp_nn {m : D → D → Option (D × D)} {g g2 : FD} {ω : WSt} {d x d' r : D} (h1 : g ω = some x) (h2 : m d x = some (d', r)) (h3 : g2 ω = some r) (hs : shp r = true) : qCmp true m g g2 ω d = some (false, d') := by
  unfold qCmp
  rw [h1, Option.bind_some, h2, Option.bind_some]
  show ((g2 ω).bind fun y => (blR (oEq true r y)).bind fun b => some (b, d')) = _
  rw [h3, Option.bind_some, oNe_self hs]
  rfl
theorem run_rows {ns : List Int} {T : D} {tx : PySem.Str} {x4 x6 x7 x8 x9 x10 : Option W} {d : D} {f : FQ} : ∀ (cs : List D) (x5 : Option W), (∀ c ∈ cs, f (S11 ns T tx x4 (some (.sh c)) x6 x7 x8 x9 x10) d = some (S11 ns T tx x4 (some (.sh c)) x6 x7 x8 x9 x10, d)) →
    ∃ y5, qRun 5 f cs (S11 ns T tx x4 x5 x6 x7 x8 x9 x10) d = some (S11 ns T tx x4 y5 x6 x7 x8 x9 x10, d)
  | [], x5, _ => ⟨x5, rfl⟩
  | c :: cs, x5, h => by
    obtain ⟨y5, e⟩ := run_rows cs (some (.sh c)) fun b hb => h b (List.mem_cons_of_mem _ hb)
    refine ⟨y5, ?_⟩
    show (f (S11 ns T tx x4 (some (.sh c)) x6 x7 x8 x9 x10) d).bind _ = _
    rw [h c List.mem_cons_self, Option.bind_some]
    exact e
theorem t4_shp : ∀ a b : Bool, shp (T4 a b) = true := by decide +kernel
theorem ok_shp : shp (.str "ok") = true := by decide +kernel
theorem law_true (ns : List Int) (hl : ns.length ≤ 63) : m_law [.scr ns] = some (.sh (.bl true)) := by
  obtain ⟨k, xs, bs, e, hn, h1, h2, hb, hp⟩ := thing_at hl
  have g : Gd k xs bs := ⟨hn, fun i hi => (h1 i hi).sm, h2, hp, by omega⟩
  have t := law_text_at hn g.sm h2 (by omega)
  have r := read_at hn g.sm h2 (by omega) hp
  obtain ⟨rg, i, sg, hm, p, kd⟩ := kd_at g
  obtain ⟨rows, nb, rl, rn⟩ := nbx_at g h1
  have tshp : shp (.str (textOf k xs bs)) = true := shp_str (text_ascii hn g.sm h2)
  have te := text_yes g
  have gp : Gd k xs (bs ++ [p]) := g.app kd.ko kd.po (by omega)
  have ay := add_yes (z := "add " ++ hm ++ ">" ++ hm ++ sg) gp kd.w
  have dy : m__law_said (thingD k xs (bs ++ [p])) (.str ("drop " ++ nw (bs.length : Int))) = some (thingD k xs bs, .str "ok") := by
    have := drop_yes (n := bs.length) gp (by rw [List.length_append, List.length_singleton]; omega)
    rw [List.take_left, List.drop_of_length_le (by rw [List.length_append, List.length_singleton]; omega), List.append_nil] at this
    exact this
  have sb : Sm (bs.length : Int) := sm_of (by omega)
  have dn := drop_no (k := k) (xs := xs) (bs := bs) sb (.inr (Int.le_refl _))
  have i0 : oIxS (thingD k xs bs) (.int 0) = some (.sh (.str k)) := by
    show (atI _ 0).map R.sh = _
    rw [atI_nn (by decide) (by rw [List.length_cons]; omega)]; rfl
  have i1 : oIxS (thingD k xs bs) (.int 1) = some (.sh (.int i)) := by
    show (atI _ 1).map R.sh = _
    rw [kd.x1]; rfl
  have i2 : oIxS (thingD k xs bs) (.int (-1)) = some (.sh (.lst (bs.map Bq.dat))) := by
    show (atI _ (-1)).map R.sh = _
    rw [last_tup]; rfl
  obtain ⟨B, hB, p39⟩ := pow39
  have hB0 : 0 < B := by rw [hB]; decide
  have c20 := cell_at (ns := ns) (k := 20) (by omega)
  have c21 := cell_at (ns := ns) (k := 21) (by omega)
  generalize ns.getD (20 : Int).toNat 0 = u at c20
  generalize ns.getD (21 : Int).toNat 0 = v at c21
  have mu := oMod_ii (a := u) hB0
  have mv := oMod_ii (a := v) hB0
  have u0 := Int.emod_nonneg u (show B ≠ 0 by omega)
  have u1 := Int.emod_lt_of_pos u hB0
  have v0 := Int.emod_nonneg v (show B ≠ 0 by omega)
  have v1 := Int.emod_lt_of_pos v hB0
  generalize u % B = u' at *
  generalize v % B = v' at *
  have sm1 : Sm ((bs.length : Int) + 1 + u') := sm_of (by rw [hB] at u1; omega)
  have sm2 : Sm (-1 - v') := sm_of (by rw [hB] at v1; omega)
  have sm3 : Sm (-1) := sm_of (by decide)
  have e1 : lw_g1 (entry 11 [.scr ns]) = some (thingD k xs bs) := by unfold lw_g1; simp_arith -implicitDefEqProofs [e]
  have e2 : lw_g2 ((entry 11 [.scr ns]).set 1 (some (.sh (thingD k xs bs)))) = some (.str (textOf k xs bs)) := by unfold lw_g2; simp_arith -implicitDefEqProofs [t]
  have e3 : lw_g3 (((entry 11 [.scr ns]).set 1 (some (.sh (thingD k xs bs)))).set 2 (some (.sh (.str (textOf k xs bs))))) = some (.str (textOf k xs bs)) := by unfold lw_g3; simp_arith -implicitDefEqProofs [e_seq]
  have e4 : rdD m_read (.str (textOf k xs bs)) = some (thingD k xs bs) := by unfold rdD; simp_arith -implicitDefEqProofs [r]
  have main : lw_e (S11 ns (thingD k xs bs) (textOf k xs bs) none none none none none none none) (thingD k xs bs) = some (true, thingD k xs bs) := by
    have rk := kd.rows
    have aL : ∀ j, Sm j → oAddS (.str "drop ") (.str (nw j)) = some (.sh (.str ("drop " ++ nw j))) := fun j hj => e_addS_ss (by have := nw_len hj; show 5 + _ ≤ _; omega)
    have l2 := kd.len
    have b1 : oAddS (.str "add ") (.str hm) = some (.sh (.str ("add " ++ hm))) := e_addS_ss (by show 4 + _ ≤ _; omega)
    have b2 : oAddS (.str ("add " ++ hm)) (.str ">") = some (.sh (.str ("add " ++ hm ++ ">"))) := e_addS_ss (by rw [PySem.strLen_append]; show 4 + _ + 1 ≤ _; omega)
    have b3 : oAddS (.str ("add " ++ hm ++ ">")) (.str hm) = some (.sh (.str ("add " ++ hm ++ ">" ++ hm))) := e_addS_ss (by rw [PySem.strLen_append, PySem.strLen_append]; show 4 + _ + 1 + _ ≤ _; omega)
    have b4 : oAddS (.str ("add " ++ hm ++ ">" ++ hm)) (.str sg) = some (.sh (.str ("add " ++ hm ++ ">" ++ hm ++ sg))) := e_addS_ss (by rw [PySem.strLen_append, PySem.strLen_append, PySem.strLen_append]; show 4 + _ + 1 + _ + _ ≤ _; omega)
    have bl : bLenS [.lst (bs.map Bq.dat)] = some (.sh (.int (bs.length : Int))) := by
      show some (R.sh (.int ((bs.map Bq.dat).length : Int))) = _
      rw [List.length_map]
    have sN := bStr_at sb
    have sI := bStr_at kd.si
    have aN := aL _ sb
    have keq := kd.eq
    have hsg := kd.hs
    have hhm := kd.hh
    obtain ⟨cs, hcs, hall⟩ : ∃ cs, rowsOf sg = some cs ∧ ∀ c ∈ cs, refd k c = true := by
      unfold okR at rk
      split at rk
      · rename_i cs q; exact ⟨cs, q, fun c hc => List.all_eq_true.mp rk c hc⟩
      · cases rk
    let dr : List Int := [(bs.length : Int), (bs.length : Int) + 1 + u', -1, -1 - v']
    have hdr : ∀ j ∈ dr, Sm j ∧ (j < 0 ∨ (bs.length : Int) ≤ j) := fun j hj => by
      simp only [dr, List.mem_cons, List.not_mem_nil, or_false] at hj
      rcases hj with rfl | rfl | rfl | rfl
      · exact ⟨sb, .inr (Int.le_refl _)⟩
      · exact ⟨sm1, .inr (by omega)⟩
      · exact ⟨sm3, .inl (by decide)⟩
      · exact ⟨sm2, .inl (by omega)⟩
    have cp : ∀ ω, compR 1 [] (some (dr.map D.int)) (gN 0) tTrue E1_law ω = some (.fr (dr.map fun j => D.str ("drop " ++ nw j))) := fun ω => by
      rw [e_cp (by show 4 ≤ _; decide), show inW 1 [] ω = [none] from rfl, compD_mapA (i := 0) D.int (fun j => D.str ("drop " ++ nw j)) dr fun j hj => ?_]
      · rfl
      · have s1 := bStr_at (hdr j hj).1
        have s2 := aL j (hdr j hj).1
        simp_arith -implicitDefEqProofs [E1_law, s1, s2]
    have al : oAddS (.lst rows) (.lst (dr.map fun j => D.str ("drop " ++ nw j))) = some (.fr (rows ++ dr.map fun j => D.str ("drop " ++ nw j))) := e_addS_ll (by rw [List.length_map]; show _ + 4 ≤ _; omega)
    have hrows : ∀ c ∈ rows ++ dr.map fun j => D.str ("drop " ++ nw j), NoB k xs bs c := fun c hc => by
      rcases List.mem_append.mp hc with hc | hc
      · exact rn c hc
      · obtain ⟨j, hj, rfl⟩ := List.mem_map.mp hc
        exact drop_no (hdr j hj).1 (hdr j hj).2
    have hq12 : ∀ d, q12_law (S11 ns (thingD k xs bs) (textOf k xs bs) none none none none none none none) d = some (S11 ns (thingD k xs bs) (textOf k xs bs) (some (.sh (.str ""))) none none none none none none, d) := fun d => rfl
    have hq11 : ∀ d, q11_law (S11 ns (thingD k xs bs) (textOf k xs bs) (some (.sh (.str ""))) none none none none none none) d = some (S11 ns (thingD k xs bs) (textOf k xs bs) (some (.sh (.str sg))) none none none none none none, d) := fun d => by
      unfold q11_law qIf S11
      generalize thingD k xs bs = T at *
      have tq : tOf (fOpE (oEq false) (vOf (fOpE oIxS (vOf (fVar 1)) (fC (.int 0)))) (fC (.str "ring"))) [some (.sh (.scr ns)), some (.sh T), some (.sh (.str (textOf k xs bs))), none, some (.sh (.str "")), none, none, none, none, none, none] = some rg := by simp_arith -implicitDefEqProofs [i0, keq]
      rw [tq, Option.bind_some, hsg]
      cases rg <;> rfl
    have hq10 : ∃ y5, q10_law (S11 ns (thingD k xs bs) (textOf k xs bs) (some (.sh (.str sg))) none none none none none none) (thingD k xs bs) = some (S11 ns (thingD k xs bs) (textOf k xs bs) (some (.sh (.str sg))) y5 none none none none none, thingD k xs bs) := by
      obtain ⟨y5, er⟩ := run_rows (ns := ns) (T := thingD k xs bs) (tx := textOf k xs bs) (x4 := some (.sh (.str sg))) (x6 := none) (x7 := none) (x8 := none) (x9 := none) (x10 := none) (d := thingD k xs bs)
        (f := qSeq (qNo (qCmp true m__law_said (dOf (fVar 5)) (fTup (aCons (fC (.bl true)) (aCons (fC (.bl true)) (aCons (fC (.bl false)) (aCons (fC (.bl false)) aNil))))))) qNil) cs none fun c hc => by
          have q := cmp_ne (m := m__law_said) (g := dOf (fVar 5)) (g2 := fTup (aCons (fC (.bl true)) (aCons (fC (.bl true)) (aCons (fC (.bl false)) (aCons (fC (.bl false)) aNil))))) (ω := S11 ns (thingD k xs bs) (textOf k xs bs) (some (.sh (.str sg))) (some (.sh c)) none none none none none) rfl (said_w (refd_no (xs := xs) (bs := bs) (hall c hc))) rfl (t4_shp true false)
          show (qNo _ _ _).bind _ = _
          rw [q]; rfl
      refine ⟨y5, ?_⟩
      show (rowsOf sg).bind _ = _
      rw [hcs, Option.bind_some]
      exact er
    obtain ⟨y5, hq10⟩ := hq10
    have hq9 : ∀ d, q9_law (S11 ns (thingD k xs bs) (textOf k xs bs) (some (.sh (.str sg))) y5 none none none none none) d = some (S11 ns (thingD k xs bs) (textOf k xs bs) (some (.sh (.str sg))) y5 (some (.sh (.int (bs.length : Int)))) none none none none, d) := fun d => by
      unfold q9_law qSet S11
      generalize thingD k xs bs = T at *
      simp_arith -implicitDefEqProofs [i2, bl]
      try rfl
    have hq8 : ∀ d, q8_law (S11 ns (thingD k xs bs) (textOf k xs bs) (some (.sh (.str sg))) y5 (some (.sh (.int (bs.length : Int)))) none none none none) d = some (S11 ns (thingD k xs bs) (textOf k xs bs) (some (.sh (.str sg))) y5 (some (.sh (.int (bs.length : Int)))) (some (.sh (.int ((bs.length : Int) + 1 + u')))) none none none, d) := fun d => by
      unfold q8_law qSet S11
      generalize thingD k xs bs = T at *
      simp_arith -implicitDefEqProofs [c20, p39, mu]
      try rfl
    have hq7 : ∀ d x7, q7_law (S11 ns (thingD k xs bs) (textOf k xs bs) (some (.sh (.str sg))) y5 (some (.sh (.int (bs.length : Int)))) x7 none none none) d = some (S11 ns (thingD k xs bs) (textOf k xs bs) (some (.sh (.str sg))) y5 (some (.sh (.int (bs.length : Int)))) x7 (some (.sh (.int (-1 - v')))) none none, d) := fun d x7 => by
      unfold q7_law qSet S11
      generalize thingD k xs bs = T at *
      simp_arith -implicitDefEqProofs [c21, p39, mv]
      try rfl
    have hq6 : ∀ d, q6_law (S11 ns (thingD k xs bs) (textOf k xs bs) (some (.sh (.str sg))) y5 (some (.sh (.int (bs.length : Int)))) (some (.sh (.int ((bs.length : Int) + 1 + u')))) (some (.sh (.int (-1 - v')))) none none) d = some (S11 ns (thingD k xs bs) (textOf k xs bs) (some (.sh (.str sg))) y5 (some (.sh (.int (bs.length : Int)))) (some (.sh (.int ((bs.length : Int) + 1 + u')))) (some (.sh (.int (-1 - v')))) (some (.sh (.lst (rows ++ dr.map fun j => D.str ("drop " ++ nw j))))) none, d) := fun d => by
      unfold q6_law qSet S11
      have cp' := cp
      simp only [dr, List.map_cons, List.map_nil] at cp' al ⊢
      generalize thingD k xs bs = T at *
      simp_arith -implicitDefEqProofs [nb, cp', al]
      try rfl
    have hq5 : ∃ y5', q5_law (S11 ns (thingD k xs bs) (textOf k xs bs) (some (.sh (.str sg))) y5 (some (.sh (.int (bs.length : Int)))) (some (.sh (.int ((bs.length : Int) + 1 + u')))) (some (.sh (.int (-1 - v')))) (some (.sh (.lst (rows ++ dr.map fun j => D.str ("drop " ++ nw j))))) none) (thingD k xs bs) = some (S11 ns (thingD k xs bs) (textOf k xs bs) (some (.sh (.str sg))) y5' (some (.sh (.int (bs.length : Int)))) (some (.sh (.int ((bs.length : Int) + 1 + u')))) (some (.sh (.int (-1 - v')))) (some (.sh (.lst (rows ++ dr.map fun j => D.str ("drop " ++ nw j))))) none, thingD k xs bs) := by
      exact run_rows (d := thingD k xs bs) (f := qSeq (qNo (qCmp true m__law_said (dOf (fVar 5)) (fTup (aCons (fC (.bl true)) (aCons (fC (.bl false)) (aCons (fC (.bl true)) (aCons (fC (.bl false)) aNil))))))) qNil) _ y5 fun c hc => by
          have q := cmp_ne (m := m__law_said) (g := dOf (fVar 5)) (g2 := fTup (aCons (fC (.bl true)) (aCons (fC (.bl false)) (aCons (fC (.bl true)) (aCons (fC (.bl false)) aNil))))) (ω := S11 ns (thingD k xs bs) (textOf k xs bs) (some (.sh (.str sg))) (some (.sh c)) (some (.sh (.int (bs.length : Int)))) (some (.sh (.int ((bs.length : Int) + 1 + u')))) (some (.sh (.int (-1 - v')))) (some (.sh (.lst (rows ++ dr.map fun j => D.str ("drop " ++ nw j))))) none) rfl (hrows c hc) rfl (t4_shp false true)
          show (qNo _ _ _).bind _ = _
          rw [q]; rfl
    obtain ⟨y5', hq5⟩ := hq5
    generalize (some (W.sh (.lst (rows ++ dr.map fun j => D.str ("drop " ++ nw j))))) = y9 at hq6 hq5
    generalize (some (W.sh (.int ((bs.length : Int) + 1 + u')))) = y7 at hq8 hq6 hq5
    generalize (some (W.sh (.int (-1 - v')))) = y8 at hq7 hq6 hq5
    have hq4 : q4_law (S11 ns (thingD k xs bs) (textOf k xs bs) (some (.sh (.str sg))) y5' (some (.sh (.int (bs.length : Int)))) y7 y8 y9 none) (thingD k xs bs) = some (S11 ns (thingD k xs bs) (textOf k xs bs) (some (.sh (.str sg))) y5' (some (.sh (.int (bs.length : Int)))) y7 y8 y9 none, thingD k xs bs) := cmp_ne rfl te rfl tshp
    have hq3 : ∀ d, q3_law (S11 ns (thingD k xs bs) (textOf k xs bs) (some (.sh (.str sg))) y5' (some (.sh (.int (bs.length : Int)))) y7 y8 y9 none) d = some (S11 ns (thingD k xs bs) (textOf k xs bs) (some (.sh (.str sg))) y5' (some (.sh (.int (bs.length : Int)))) y7 y8 y9 (some (.sh (.str (nw i)))), d) := fun d => by
      unfold q3_law qSet S11
      generalize thingD k xs bs = T at *
      simp_arith -implicitDefEqProofs [i1, sI]
      try rfl
    have hq2 : ∀ d, q2_law (S11 ns (thingD k xs bs) (textOf k xs bs) (some (.sh (.str sg))) y5' (some (.sh (.int (bs.length : Int)))) y7 y8 y9 (some (.sh (.str (nw i))))) d = some (S11 ns (thingD k xs bs) (textOf k xs bs) (some (.sh (.str sg))) y5' (some (.sh (.int (bs.length : Int)))) y7 y8 y9 (some (.sh (.str hm))), d) := fun d => by
      unfold q2_law qIf S11
      generalize thingD k xs bs = T at *
      have tq : tOf (fOpE (oEq false) (vOf (fOpE oIxS (vOf (fVar 1)) (fC (.int 0)))) (fC (.str "ring"))) [some (.sh (.scr ns)), some (.sh T), some (.sh (.str (textOf k xs bs))), none, some (.sh (.str sg)), y5', some (.sh (.int (bs.length : Int))), y7, y8, y9, some (.sh (.str (nw i)))] = some rg := by simp_arith -implicitDefEqProofs [i0, keq]
      rw [tq, Option.bind_some, hhm]
      cases rg <;> rfl
    have ga : dOf (fOpE oAddS (vOf (fOpE oAddS (vOf (fOpE oAddS (vOf (fOpE oAddS (fC (.str "add ")) (vOf (fVar 10)))) (fC (.str ">")))) (vOf (fVar 10)))) (vOf (fVar 4))) (S11 ns (thingD k xs bs) (textOf k xs bs) (some (.sh (.str sg))) y5' (some (.sh (.int (bs.length : Int)))) y7 y8 y9 (some (.sh (.str hm)))) = some (.str ("add " ++ hm ++ ">" ++ hm ++ sg)) := by
      unfold S11
      simp_arith -implicitDefEqProofs [b1, b2, b3, b4]
    have gd : dOf (fOpE oAddS (fC (.str "drop ")) (vOf (fBlt bStr (aCons (vOf (fVar 6)) aNil)))) (S11 ns (thingD k xs bs) (textOf k xs bs) (some (.sh (.str sg))) y5' (some (.sh (.int (bs.length : Int)))) y7 y8 y9 (some (.sh (.str hm)))) = some (.str ("drop " ++ nw (bs.length : Int))) := by
      unfold S11
      simp_arith -implicitDefEqProofs [sN, aN]
    have hq1 : q1_law (S11 ns (thingD k xs bs) (textOf k xs bs) (some (.sh (.str sg))) y5' (some (.sh (.int (bs.length : Int)))) y7 y8 y9 (some (.sh (.str hm)))) (thingD k xs bs) = some (S11 ns (thingD k xs bs) (textOf k xs bs) (some (.sh (.str sg))) y5' (some (.sh (.int (bs.length : Int)))) y7 y8 y9 (some (.sh (.str hm))), thingD k xs bs) := by
      unfold q1_law qNo qOr
      rw [cmp_nn ga ay rfl ok_shp, Option.bind_some, if_neg Bool.false_ne_true, cmp_nn gd dy rfl ok_shp, Option.bind_some]
      rfl
    unfold lw_e
    rw [qe (hq12 _), qe (hq11 _), qe hq10, qe (hq9 _), qe (hq8 _), qe (hq7 _ _), qe (hq6 _), qe hq5, qe hq4, qe (hq3 _), qe (hq2 _), qe hq1]
    unfold qAnd
    rw [cmp_eq gd dn rfl (t4_shp false true), Option.bind_some, if_pos rfl, cmp_eq rfl te rfl tshp]
  show (lw_g1 (entry 11 [.scr ns])).bind _ = _
  rw [e1, Option.bind_some, e2, Option.bind_some, e3, Option.bind_some, e4, Option.bind_some]
  show (lw_e (S11 ns (thingD k xs bs) (textOf k xs bs) none none none none none none none) (thingD k xs bs)).bind _ = _
  rw [main, Option.bind_some]
theorem all_mk {l : PySem.W.OpenLaw} {w : World} {K : PySem.W.Frag} {h : Heap} {mg : Str → Option Value} {fa : Addr} (X : K.In h) (G : h.Ns mainGlobals mg) (hfa : mg "law" = some (.ref fa))
    {od0 an0 : Option Addr} {sl0 : Array (Option Value)} {oc0 kV0 dc0 pm0 cd0 ct0 : Value} {f0 : Addr}
    {od1 an1 : Option Addr} {sl1 : Array (Option Value)} {oc1 kV1 dc1 pm1 cd1 ct1 : Value} {f1 : Addr}
    {od2 an2 : Option Addr} {sl2 : Array (Option Value)} {oc2 kV2 dc2 pm2 cd2 ct2 : Value} {f2 : Addr}
    {od3 an3 : Option Addr} {sl3 : Array (Option Value)} {oc3 kV3 dc3 pm3 cd3 ct3 : Value} {f3 : Addr}
    {od4 an4 : Option Addr} {sl4 : Array (Option Value)} {oc4 kV4 dc4 pm4 cd4 ct4 : Value} {f4 : Addr}
    {od5 an5 : Option Addr} {sl5 : Array (Option Value)} {oc5 kV5 dc5 pm5 cd5 ct5 : Value} {f5 : Addr}
    {od6 an6 : Option Addr} {sl6 : Array (Option Value)} {oc6 kV6 dc6 pm6 cd6 ct6 : Value} {f6 : Addr}
    {od7 an7 : Option Addr} {sl7 : Array (Option Value)} {oc7 kV7 dc7 pm7 cd7 ct7 : Value} {f7 : Addr}
    {od8 an8 : Option Addr} {sl8 : Array (Option Value)} {oc8 kV8 dc8 pm8 cd8 ct8 : Value} {f8 : Addr}
    {od9 an9 : Option Addr} {sl9 : Array (Option Value)} {oc9 kV9 dc9 pm9 cd9 ct9 : Value} {f9 : Addr}
    {od10 an10 : Option Addr} {sl10 : Array (Option Value)} {oc10 kV10 dc10 pm10 cd10 ct10 : Value} {f10 : Addr}
    {od11 an11 : Option Addr} {sl11 : Array (Option Value)} {oc11 kV11 dc11 pm11 cd11 ct11 : Value} {f11 : Addr}
    {od12 an12 : Option Addr} {sl12 : Array (Option Value)} {oc12 kV12 dc12 pm12 cd12 ct12 : Value} {f12 : Addr}
    {od13 an13 : Option Addr} {sl13 : Array (Option Value)} {oc13 kV13 dc13 pm13 cd13 ct13 : Value} {f13 : Addr}
    {od14 an14 : Option Addr} {sl14 : Array (Option Value)} {oc14 kV14 dc14 pm14 cd14 ct14 : Value} {f14 : Addr}
    {od15 an15 : Option Addr} {sl15 : Array (Option Value)} {oc15 kV15 dc15 pm15 cd15 ct15 : Value} {f15 : Addr}
    {od16 an16 : Option Addr} {sl16 : Array (Option Value)} {oc16 kV16 dc16 pm16 cd16 ct16 : Value} {f16 : Addr}
    {od17 an17 : Option Addr} {sl17 : Array (Option Value)} {oc17 kV17 dc17 pm17 cd17 ct17 : Value} {f17 : Addr}
    {od18 an18 : Option Addr} {sl18 : Array (Option Value)} {oc18 kV18 dc18 pm18 cd18 ct18 : Value} {f18 : Addr}
    {od19 an19 : Option Addr} {sl19 : Array (Option Value)} {oc19 kV19 dc19 pm19 cd19 ct19 : Value} {f19 : Addr}
    {od20 an20 : Option Addr} {sl20 : Array (Option Value)} {oc20 kV20 dc20 pm20 cd20 ct20 : Value} {f20 : Addr}
    {od21 an21 : Option Addr} {sl21 : Array (Option Value)} {oc21 kV21 dc21 pm21 cd21 ct21 : Value} {f21 : Addr}
    {od22 an22 : Option Addr} {sl22 : Array (Option Value)} {oc22 kV22 dc22 pm22 cd22 ct22 : Value} {f22 : Addr}
    {od23 an23 : Option Addr} {sl23 : Array (Option Value)} {oc23 kV23 dc23 pm23 cd23 ct23 : Value} {f23 : Addr}
    {od24 an24 : Option Addr} {sl24 : Array (Option Value)} {oc24 kV24 dc24 pm24 cd24 ct24 : Value} {f24 : Addr}
    {od25 an25 : Option Addr} {sl25 : Array (Option Value)} {oc25 kV25 dc25 pm25 cd25 ct25 : Value} {f25 : Addr}
    {od26 an26 : Option Addr} {sl26 : Array (Option Value)} {oc26 kV26 dc26 pm26 cd26 ct26 : Value} {f26 : Addr}
    {od27 an27 : Option Addr} {sl27 : Array (Option Value)} {oc27 kV27 dc27 pm27 cd27 ct27 : Value} {f27 : Addr}
    {od28 an28 : Option Addr} {sl28 : Array (Option Value)} {oc28 kV28 dc28 pm28 cd28 ct28 : Value} {f28 : Addr}
    {A_NoText : Addr}
    {A_NoBox : Addr}
    {A_RailError : Addr}
    {A_NoReason : Addr}
    {A_NoRow : Addr}
    {A_NoErrand : Addr}
    {A_NoRing : Addr}
    {A_NoYard : Addr}
    {A_NoWord : Addr}
    {gt_FIGURES : Tok}
    {gA_HEADS : Addr} {gc_HEADS : Value} {gd_HEADS : Option Addr} {ges_HEADS : Array DictEntry} {gep_HEADS : Nat} {gsl_HEADS : Array (Option Value)}
    {C_Desk fI_Desk : Addr} {odI_Desk anI_Desk : Option Addr} {slI_Desk : Array (Option Value)} {ocI_Desk kVI_Desk dcI_Desk pmI_Desk cdI_Desk ctI_Desk : Value}
    {f_Desk_change : Addr} {od_Desk_change an_Desk_change : Option Addr} {sl_Desk_change : Array (Option Value)} {oc_Desk_change kV_Desk_change dc_Desk_change pm_Desk_change cd_Desk_change ct_Desk_change : Value}
    {f_Desk_say : Addr} {od_Desk_say an_Desk_say : Option Addr} {sl_Desk_say : Array (Option Value)} {oc_Desk_say kV_Desk_say dc_Desk_say pm_Desk_say cd_Desk_say ct_Desk_say : Value}
    (a0 : PySem.W.nsIn K mainGlobals "is_whole" = some (some (.ref f0))) (l0 : K.lookup f0 = some ⟨oc0, od0, .func (PySem.W.fnOf "is_whole" "is_whole" (defArgs s_is_whole) (defBody s_is_whole) (defScope s_is_whole) .none kV0 dc0 pm0 an0 cd0 ct0), sl0⟩) (c0 : PySem.W.codeIn K cd0 "is_whole" = true) (k0 : PySem.W.keepIn K (.ref f0) = true)
    (a1 : PySem.W.nsIn K mainGlobals "is_box" = some (some (.ref f1))) (l1 : K.lookup f1 = some ⟨oc1, od1, .func (PySem.W.fnOf "is_box" "is_box" (defArgs s_is_box) (defBody s_is_box) (defScope s_is_box) .none kV1 dc1 pm1 an1 cd1 ct1), sl1⟩) (c1 : PySem.W.codeIn K cd1 "is_box" = true) (k1 : PySem.W.keepIn K (.ref f1) = true)
    (a2 : PySem.W.nsIn K mainGlobals "is_errand" = some (some (.ref f2))) (l2 : K.lookup f2 = some ⟨oc2, od2, .func (PySem.W.fnOf "is_errand" "is_errand" (defArgs s_is_errand) (defBody s_is_errand) (defScope s_is_errand) .none kV2 dc2 pm2 an2 cd2 ct2), sl2⟩) (c2 : PySem.W.codeIn K cd2 "is_errand" = true) (k2 : PySem.W.keepIn K (.ref f2) = true)
    (a3 : PySem.W.nsIn K mainGlobals "is_way" = some (some (.ref f3))) (l3 : K.lookup f3 = some ⟨oc3, od3, .func (PySem.W.fnOf "is_way" "is_way" (defArgs s_is_way) (defBody s_is_way) (defScope s_is_way) .none kV3 dc3 pm3 an3 cd3 ct3), sl3⟩) (c3 : PySem.W.codeIn K cd3 "is_way" = true) (k3 : PySem.W.keepIn K (.ref f3) = true)
    (a4 : PySem.W.nsIn K mainGlobals "has_place" = some (some (.ref f4))) (l4 : K.lookup f4 = some ⟨oc4, od4, .func (PySem.W.fnOf "has_place" "has_place" (defArgs s_has_place) (defBody s_has_place) (defScope s_has_place) .none kV4 dc4 pm4 an4 cd4 ct4), sl4⟩) (c4 : PySem.W.codeIn K cd4 "has_place" = true) (k4 : PySem.W.keepIn K (.ref f4) = true)
    (a5 : PySem.W.nsIn K mainGlobals "is_ring_box" = some (some (.ref f5))) (l5 : K.lookup f5 = some ⟨oc5, od5, .func (PySem.W.fnOf "is_ring_box" "is_ring_box" (defArgs s_is_ring_box) (defBody s_is_ring_box) (defScope s_is_ring_box) .none kV5 dc5 pm5 an5 cd5 ct5), sl5⟩) (c5 : PySem.W.codeIn K cd5 "is_ring_box" = true) (k5 : PySem.W.keepIn K (.ref f5) = true)
    (a6 : PySem.W.nsIn K mainGlobals "is_ring" = some (some (.ref f6))) (l6 : K.lookup f6 = some ⟨oc6, od6, .func (PySem.W.fnOf "is_ring" "is_ring" (defArgs s_is_ring) (defBody s_is_ring) (defScope s_is_ring) .none kV6 dc6 pm6 an6 cd6 ct6), sl6⟩) (c6 : PySem.W.codeIn K cd6 "is_ring" = true) (k6 : PySem.W.keepIn K (.ref f6) = true)
    (a7 : PySem.W.nsIn K mainGlobals "is_yard" = some (some (.ref f7))) (l7 : K.lookup f7 = some ⟨oc7, od7, .func (PySem.W.fnOf "is_yard" "is_yard" (defArgs s_is_yard) (defBody s_is_yard) (defScope s_is_yard) .none kV7 dc7 pm7 an7 cd7 ct7), sl7⟩) (c7 : PySem.W.codeIn K cd7 "is_yard" = true) (k7 : PySem.W.keepIn K (.ref f7) = true)
    (a8 : PySem.W.nsIn K mainGlobals "is_number" = some (some (.ref f8))) (l8 : K.lookup f8 = some ⟨oc8, od8, .func (PySem.W.fnOf "is_number" "is_number" (defArgs s_is_number) (defBody s_is_number) (defScope s_is_number) .none kV8 dc8 pm8 an8 cd8 ct8), sl8⟩) (c8 : PySem.W.codeIn K cd8 "is_number" = true) (k8 : PySem.W.keepIn K (.ref f8) = true)
    (a9 : PySem.W.nsIn K mainGlobals "is_pair" = some (some (.ref f9))) (l9 : K.lookup f9 = some ⟨oc9, od9, .func (PySem.W.fnOf "is_pair" "is_pair" (defArgs s_is_pair) (defBody s_is_pair) (defScope s_is_pair) .none kV9 dc9 pm9 an9 cd9 ct9), sl9⟩) (c9 : PySem.W.codeIn K cd9 "is_pair" = true) (k9 : PySem.W.keepIn K (.ref f9) = true)
    (a10 : PySem.W.nsIn K mainGlobals "is_box_word" = some (some (.ref f10))) (l10 : K.lookup f10 = some ⟨oc10, od10, .func (PySem.W.fnOf "is_box_word" "is_box_word" (defArgs s_is_box_word) (defBody s_is_box_word) (defScope s_is_box_word) .none kV10 dc10 pm10 an10 cd10 ct10), sl10⟩) (c10 : PySem.W.codeIn K cd10 "is_box_word" = true) (k10 : PySem.W.keepIn K (.ref f10) = true)
    (a11 : PySem.W.nsIn K mainGlobals "read_pair" = some (some (.ref f11))) (l11 : K.lookup f11 = some ⟨oc11, od11, .func (PySem.W.fnOf "read_pair" "read_pair" (defArgs s_read_pair) (defBody s_read_pair) (defScope s_read_pair) .none kV11 dc11 pm11 an11 cd11 ct11), sl11⟩) (c11 : PySem.W.codeIn K cd11 "read_pair" = true) (k11 : PySem.W.keepIn K (.ref f11) = true)
    (a12 : PySem.W.nsIn K mainGlobals "read_box" = some (some (.ref f12))) (l12 : K.lookup f12 = some ⟨oc12, od12, .func (PySem.W.fnOf "read_box" "read_box" (defArgs s_read_box) (defBody s_read_box) (defScope s_read_box) .none kV12 dc12 pm12 an12 cd12 ct12), sl12⟩) (c12 : PySem.W.codeIn K cd12 "read_box" = true) (k12 : PySem.W.keepIn K (.ref f12) = true)
    (a13 : PySem.W.nsIn K mainGlobals "is_possible" = some (some (.ref f13))) (l13 : K.lookup f13 = some ⟨oc13, od13, .func (PySem.W.fnOf "is_possible" "is_possible" (defArgs s_is_possible) (defBody s_is_possible) (defScope s_is_possible) .none kV13 dc13 pm13 an13 cd13 ct13), sl13⟩) (c13 : PySem.W.codeIn K cd13 "is_possible" = true) (k13 : PySem.W.keepIn K (.ref f13) = true)
    (a14 : PySem.W.nsIn K mainGlobals "tells" = some (some (.ref f14))) (l14 : K.lookup f14 = some ⟨oc14, od14, .func (PySem.W.fnOf "tells" "tells" (defArgs s_tells) (defBody s_tells) (defScope s_tells) .none kV14 dc14 pm14 an14 cd14 ct14), sl14⟩) (c14 : PySem.W.codeIn K cd14 "tells" = true) (k14 : PySem.W.keepIn K (.ref f14) = true)
    (a15 : PySem.W.nsIn K mainGlobals "read_words" = some (some (.ref f15))) (l15 : K.lookup f15 = some ⟨oc15, od15, .func (PySem.W.fnOf "read_words" "read_words" (defArgs s_read_words) (defBody s_read_words) (defScope s_read_words) .none kV15 dc15 pm15 an15 cd15 ct15), sl15⟩) (c15 : PySem.W.codeIn K cd15 "read_words" = true) (k15 : PySem.W.keepIn K (.ref f15) = true)
    (a16 : PySem.W.nsIn K mainGlobals "read" = some (some (.ref f16))) (l16 : K.lookup f16 = some ⟨oc16, od16, .func (PySem.W.fnOf "read" "read" (defArgs s_read) (defBody s_read) (defScope s_read) .none kV16 dc16 pm16 an16 cd16 ct16), sl16⟩) (c16 : PySem.W.codeIn K cd16 "read" = true) (k16 : PySem.W.keepIn K (.ref f16) = true)
    (a17 : PySem.W.nsIn K mainGlobals "show_way" = some (some (.ref f17))) (l17 : K.lookup f17 = some ⟨oc17, od17, .func (PySem.W.fnOf "show_way" "show_way" (defArgs s_show_way) (defBody s_show_way) (defScope s_show_way) .none kV17 dc17 pm17 an17 cd17 ct17), sl17⟩) (c17 : PySem.W.codeIn K cd17 "show_way" = true) (k17 : PySem.W.keepIn K (.ref f17) = true)
    (a18 : PySem.W.nsIn K mainGlobals "show" = some (some (.ref f18))) (l18 : K.lookup f18 = some ⟨oc18, od18, .func (PySem.W.fnOf "show" "show" (defArgs s_show) (defBody s_show) (defScope s_show) .none kV18 dc18 pm18 an18 cd18 ct18), sl18⟩) (c18 : PySem.W.codeIn K cd18 "show" = true) (k18 : PySem.W.keepIn K (.ref f18) = true)
    (a19 : PySem.W.nsIn K mainGlobals "with_box" = some (some (.ref f19))) (l19 : K.lookup f19 = some ⟨oc19, od19, .func (PySem.W.fnOf "with_box" "with_box" (defArgs s_with_box) (defBody s_with_box) (defScope s_with_box) .none kV19 dc19 pm19 an19 cd19 ct19), sl19⟩) (c19 : PySem.W.codeIn K cd19 "with_box" = true) (k19 : PySem.W.keepIn K (.ref f19) = true)
    (a20 : PySem.W.nsIn K mainGlobals "without_box" = some (some (.ref f20))) (l20 : K.lookup f20 = some ⟨oc20, od20, .func (PySem.W.fnOf "without_box" "without_box" (defArgs s_without_box) (defBody s_without_box) (defScope s_without_box) .none kV20 dc20 pm20 an20 cd20 ct20), sl20⟩) (c20 : PySem.W.codeIn K cd20 "without_box" = true) (k20 : PySem.W.keepIn K (.ref f20) = true)
    (a21 : PySem.W.nsIn K mainGlobals "_law_cell_at" = some (some (.ref f21))) (l21 : K.lookup f21 = some ⟨oc21, od21, .func (PySem.W.fnOf "_law_cell_at" "_law_cell_at" (defArgs s__law_cell_at) (defBody s__law_cell_at) (defScope s__law_cell_at) .none kV21 dc21 pm21 an21 cd21 ct21), sl21⟩) (c21 : PySem.W.codeIn K cd21 "_law_cell_at" = true) (k21 : PySem.W.keepIn K (.ref f21) = true)
    (a22 : PySem.W.nsIn K mainGlobals "_law_thing" = some (some (.ref f22))) (l22 : K.lookup f22 = some ⟨oc22, od22, .func (PySem.W.fnOf "_law_thing" "_law_thing" (defArgs s__law_thing) (defBody s__law_thing) (defScope s__law_thing) .none kV22 dc22 pm22 an22 cd22 ct22), sl22⟩) (c22 : PySem.W.codeIn K cd22 "_law_thing" = true) (k22 : PySem.W.keepIn K (.ref f22) = true)
    (a23 : PySem.W.nsIn K mainGlobals "_law_word" = some (some (.ref f23))) (l23 : K.lookup f23 = some ⟨oc23, od23, .func (PySem.W.fnOf "_law_word" "_law_word" (defArgs s__law_word) (defBody s__law_word) (defScope s__law_word) .none kV23 dc23 pm23 an23 cd23 ct23), sl23⟩) (c23 : PySem.W.codeIn K cd23 "_law_word" = true) (k23 : PySem.W.keepIn K (.ref f23) = true)
    (a24 : PySem.W.nsIn K mainGlobals "_law_text" = some (some (.ref f24))) (l24 : K.lookup f24 = some ⟨oc24, od24, .func (PySem.W.fnOf "_law_text" "_law_text" (defArgs s__law_text) (defBody s__law_text) (defScope s__law_text) .none kV24 dc24 pm24 an24 cd24 ct24), sl24⟩) (c24 : PySem.W.codeIn K cd24 "_law_text" = true) (k24 : PySem.W.keepIn K (.ref f24) = true)
    (a25 : PySem.W.nsIn K mainGlobals "_law_said" = some (some (.ref f25))) (l25 : K.lookup f25 = some ⟨oc25, od25, .func (PySem.W.fnOf "_law_said" "_law_said" (defArgs s__law_said) (defBody s__law_said) (defScope s__law_said) .none kV25 dc25 pm25 an25 cd25 ct25), sl25⟩) (c25 : PySem.W.codeIn K cd25 "_law_said" = true) (k25 : PySem.W.keepIn K (.ref f25) = true)
    (a26 : PySem.W.nsIn K mainGlobals "_law_no_rows" = some (some (.ref f26))) (l26 : K.lookup f26 = some ⟨oc26, od26, .func (PySem.W.fnOf "_law_no_rows" "_law_no_rows" (defArgs s__law_no_rows) (defBody s__law_no_rows) (defScope s__law_no_rows) .none kV26 dc26 pm26 an26 cd26 ct26), sl26⟩) (c26 : PySem.W.codeIn K cd26 "_law_no_rows" = true) (k26 : PySem.W.keepIn K (.ref f26) = true)
    (a27 : PySem.W.nsIn K mainGlobals "_law_no_boxes" = some (some (.ref f27))) (l27 : K.lookup f27 = some ⟨oc27, od27, .func (PySem.W.fnOf "_law_no_boxes" "_law_no_boxes" (defArgs s__law_no_boxes) (defBody s__law_no_boxes) (defScope s__law_no_boxes) .none kV27 dc27 pm27 an27 cd27 ct27), sl27⟩) (c27 : PySem.W.codeIn K cd27 "_law_no_boxes" = true) (k27 : PySem.W.keepIn K (.ref f27) = true)
    (a28 : PySem.W.nsIn K mainGlobals "law" = some (some (.ref f28))) (l28 : K.lookup f28 = some ⟨oc28, od28, .func (PySem.W.fnOf "law" "law" (defArgs s_law) (defBody s_law) (defScope s_law) .none kV28 dc28 pm28 an28 cd28 ct28), sl28⟩) (c28 : PySem.W.codeIn K cd28 "law" = true) (k28 : PySem.W.keepIn K (.ref f28) = true)
    (z_isinstance : PySem.W.nsIn K mainGlobals "isinstance" = some none)
    (z_bool : PySem.W.nsIn K mainGlobals "bool" = some none)
    (z_int : PySem.W.nsIn K mainGlobals "int" = some none)
    (z_len : PySem.W.nsIn K mainGlobals "len" = some none)
    (z_tuple : PySem.W.nsIn K mainGlobals "tuple" = some none)
    (z_list : PySem.W.nsIn K mainGlobals "list" = some none)
    (z_all : PySem.W.nsIn K mainGlobals "all" = some none)
    (z_min : PySem.W.nsIn K mainGlobals "min" = some none)
    (z_str : PySem.W.nsIn K mainGlobals "str" = some none)
    (z_range : PySem.W.nsIn K mainGlobals "range" = some none)
    (z_ValueError : PySem.W.nsIn K mainGlobals "ValueError" = some none)
    (i_int : IsT K .int)
    (i_bool : IsT K .bl)
    (i_tuple : IsT K .tup)
    (i_list : IsT K .lst)
    (i_str : IsT K .str)
    (ea_NoText : PySem.W.nsIn K mainGlobals "NoText" = some (some (.ref A_NoText)))
    (ea_NoBox : PySem.W.nsIn K mainGlobals "NoBox" = some (some (.ref A_NoBox)))
    (ea_RailError : PySem.W.nsIn K mainGlobals "RailError" = some (some (.ref A_RailError)))
    (ea_NoReason : PySem.W.nsIn K mainGlobals "NoReason" = some (some (.ref A_NoReason)))
    (ea_NoRow : PySem.W.nsIn K mainGlobals "NoRow" = some (some (.ref A_NoRow)))
    (ea_NoErrand : PySem.W.nsIn K mainGlobals "NoErrand" = some (some (.ref A_NoErrand)))
    (ea_NoRing : PySem.W.nsIn K mainGlobals "NoRing" = some (some (.ref A_NoRing)))
    (ea_NoYard : PySem.W.nsIn K mainGlobals "NoYard" = some (some (.ref A_NoYard)))
    (ea_NoWord : PySem.W.nsIn K mainGlobals "NoWord" = some (some (.ref A_NoWord)))
    (ex_NoText : PySem.W.excIn K A_NoText vErr "ValueError.__new__" = true)
    (ex_NoBox : PySem.W.excIn K A_NoBox vErr "ValueError.__new__" = true)
    (ex_RailError : PySem.W.excIn K A_RailError vErr "ValueError.__new__" = true)
    (ex_NoWord : PySem.W.excIn K A_NoWord vErr "ValueError.__new__" = true)
    (em_RailError_NoBox : PySem.W.mroIn K A_NoBox (.ref A_RailError) = some true)
    (em_RailError_NoWord : PySem.W.mroIn K A_NoWord (.ref A_RailError) = some true)
    (q1_NoBox : PySem.W.findIn K (.ref A_NoBox) "__getattribute__" = some (some (.builtin "BaseException.__getattribute__")))
    (q2_NoBox : PySem.W.findIn K (.ref A_NoBox) "__getattr__" = some none)
    (q3_NoBox : PySem.W.findIn K (.ref A_NoBox) "__class__" = some (some (.builtin "object.__class__")))
    (q4_NoBox : PySem.W.mroIn K A_NoBox (.type "object") = some true)
    (q5_NoBox : PySem.W.mroIn K A_NoBox (.type "BaseException") = some true)
    (q1_NoWord : PySem.W.findIn K (.ref A_NoWord) "__getattribute__" = some (some (.builtin "BaseException.__getattribute__")))
    (q2_NoWord : PySem.W.findIn K (.ref A_NoWord) "__getattr__" = some none)
    (q3_NoWord : PySem.W.findIn K (.ref A_NoWord) "__class__" = some (some (.builtin "object.__class__")))
    (q4_NoWord : PySem.W.mroIn K A_NoWord (.type "object") = some true)
    (q5_NoWord : PySem.W.mroIn K A_NoWord (.type "BaseException") = some true)
    (ek_NoReason_NoBox : PySem.W.kitOne K (.ref A_NoBox) (.ref A_NoReason) = some false)
    (ek_NoReason_NoWord : PySem.W.kitOne K (.ref A_NoWord) (.ref A_NoReason) = some false)
    (ek_NoRow_NoBox : PySem.W.kitOne K (.ref A_NoBox) (.ref A_NoRow) = some false)
    (ek_NoRow_NoWord : PySem.W.kitOne K (.ref A_NoWord) (.ref A_NoRow) = some false)
    (ek_NoErrand_NoBox : PySem.W.kitOne K (.ref A_NoBox) (.ref A_NoErrand) = some false)
    (ek_NoErrand_NoWord : PySem.W.kitOne K (.ref A_NoWord) (.ref A_NoErrand) = some false)
    (ek_NoText_NoBox : PySem.W.kitOne K (.ref A_NoBox) (.ref A_NoText) = some false)
    (ek_NoText_NoWord : PySem.W.kitOne K (.ref A_NoWord) (.ref A_NoText) = some false)
    (ek_NoRing_NoBox : PySem.W.kitOne K (.ref A_NoBox) (.ref A_NoRing) = some false)
    (ek_NoRing_NoWord : PySem.W.kitOne K (.ref A_NoWord) (.ref A_NoRing) = some false)
    (ek_NoYard_NoBox : PySem.W.kitOne K (.ref A_NoBox) (.ref A_NoYard) = some false)
    (ek_NoYard_NoWord : PySem.W.kitOne K (.ref A_NoWord) (.ref A_NoYard) = some false)
    (ek_NoBox_NoBox : PySem.W.kitOne K (.ref A_NoBox) (.ref A_NoBox) = some true)
    (ek_NoBox_NoWord : PySem.W.kitOne K (.ref A_NoWord) (.ref A_NoBox) = some false)
    (ek_NoWord_NoBox : PySem.W.kitOne K (.ref A_NoBox) (.ref A_NoWord) = some false)
    (ek_NoWord_NoWord : PySem.W.kitOne K (.ref A_NoWord) (.ref A_NoWord) = some true)
    (ek_ValueError_NoBox : PySem.W.kitOne K (.ref A_NoBox) (.type "ValueError") = some true)
    (ek_ValueError_NoWord : PySem.W.kitOne K (.ref A_NoWord) (.type "ValueError") = some true)
    (ga_FIGURES : PySem.W.nsIn K mainGlobals "FIGURES" = some (some (.str "0123456789" gt_FIGURES)))
    (ga_HEADS : PySem.W.nsIn K mainGlobals "HEADS" = some (some (.ref gA_HEADS)))
    (gL_HEADS : K.lookup gA_HEADS = some ⟨gc_HEADS, gd_HEADS, .dict ges_HEADS gep_HEADS, gsl_HEADS⟩)
    (gM_HEADS : (gA_HEADS == sysModules) = false)
    (gE_HEADS : gc_HEADS = .type "dict" ∧ gd_HEADS = none ∧ gsl_HEADS = #[])
    (gR_HEADS : PyProof.Rows.KTD.Rows (fun (d : Int) v => ∃ t, v = .int d t) ges_HEADS.toList [("rail", 2), ("gate", 1), ("ring", 3)])
    (aC_Desk : PySem.W.nsIn K mainGlobals "Desk" = some (some (.ref C_Desk)))
    (aI_Desk : PySem.W.findIn K (.ref C_Desk) "__init__" = some (some (.ref fI_Desk)))
    (iI_Desk : PySem.W.isFn K (.ref fI_Desk) = true)
    (lI_Desk : K.lookup fI_Desk = some ⟨ocI_Desk, odI_Desk, .func (PySem.W.fnOf "__init__" "Desk.__init__" (defArgs s_Desk_init) (defBody s_Desk_init) (defScope s_Desk_init) .none kVI_Desk dcI_Desk pmI_Desk anI_Desk cdI_Desk ctI_Desk), slI_Desk⟩)
    (cI_Desk : PySem.W.codeIn K cdI_Desk "Desk.__init__" = true)
    (kI_Desk : PySem.W.keepIn K (.ref fI_Desk) = true)
    (pg_Desk : PySem.W.plainGet K C_Desk Str.empty = true)
    (hd_Desk : PySem.W.hasDictIn K C_Desk = true)
    (po_Desk : PySem.W.plainOver K C_Desk = true)
    (sa_Desk : PySem.W.findIn K (.ref C_Desk) "__setattr__" = some (some (.builtin "object.__setattr__")))
    (mk_Desk : PySem.W.makesIn K C_Desk = true)
    (kc_Desk : PySem.W.keepIn K (.ref C_Desk) = true)
    (nA_Desk : PySem.W.findIn K (.ref C_Desk) "told" = some none)
    (aM_Desk_change : PySem.W.findIn K (.ref C_Desk) "change" = some (some (.ref f_Desk_change)))
    (iM_Desk_change : PySem.W.isFn K (.ref f_Desk_change) = true)
    (lM_Desk_change : K.lookup f_Desk_change = some ⟨oc_Desk_change, od_Desk_change, .func (PySem.W.fnOf "change" "Desk.change" (defArgs s_Desk_change) (defBody s_Desk_change) (defScope s_Desk_change) .none kV_Desk_change dc_Desk_change pm_Desk_change an_Desk_change cd_Desk_change ct_Desk_change), sl_Desk_change⟩)
    (cM_Desk_change : PySem.W.codeIn K cd_Desk_change "Desk.change" = true)
    (kM_Desk_change : PySem.W.keepIn K (.ref f_Desk_change) = true)
    (aM_Desk_say : PySem.W.findIn K (.ref C_Desk) "say" = some (some (.ref f_Desk_say)))
    (iM_Desk_say : PySem.W.isFn K (.ref f_Desk_say) = true)
    (lM_Desk_say : K.lookup f_Desk_say = some ⟨oc_Desk_say, od_Desk_say, .func (PySem.W.fnOf "say" "Desk.say" (defArgs s_Desk_say) (defBody s_Desk_say) (defScope s_Desk_say) .none kV_Desk_say dc_Desk_say pm_Desk_say an_Desk_say cd_Desk_say ct_Desk_say), sl_Desk_say⟩)
    (cM_Desk_say : PySem.W.codeIn K cd_Desk_say "Desk.say" = true)
    (kM_Desk_say : PySem.W.keepIn K (.ref f_Desk_say) = true)
    : ∃ fd : FuncData, (∀ (s : Shared) (v : Value), BindsTo s fd ⟨[v], []⟩ [("script", v)]) ∧ ∀ base : Heap, K.In base → base.Ns mainGlobals mg → FnOk l.prog w K mg base CX0 10 fa fd ["script"] (spD K 1 m_law) := by
  have e := hfa.symm.trans (PySem.W.mg_of X G a28)
  cases e
  have F0 := fun_mk (st := s_is_whole) l0 c0 k0
  have b0 := F0.binds (ps := ["thing"]) fun _ _ _ _ _ _ us hl => match us, hl with | [_], _ => rfl
  have F1 := fun_mk (st := s_is_box) l1 c1 k1
  have b1 := F1.binds (ps := ["thing"]) fun _ _ _ _ _ _ us hl => match us, hl with | [_], _ => rfl
  have F2 := fun_mk (st := s_is_errand) l2 c2 k2
  have b2 := F2.binds (ps := ["home", "last", "boxes"]) fun _ _ _ _ _ _ us hl => match us, hl with | [_, _, _], _ => rfl
  have F3 := fun_mk (st := s_is_way) l3 c3 k3
  have b3 := F3.binds (ps := ["thing"]) fun _ _ _ _ _ _ us hl => match us, hl with | [_], _ => rfl
  have F4 := fun_mk (st := s_has_place) l4 c4 k4
  have b4 := F4.binds (ps := ["size", "thing"]) fun _ _ _ _ _ _ us hl => match us, hl with | [_, _], _ => rfl
  have F5 := fun_mk (st := s_is_ring_box) l5 c5 k5
  have b5 := F5.binds (ps := ["size", "thing"]) fun _ _ _ _ _ _ us hl => match us, hl with | [_, _], _ => rfl
  have F6 := fun_mk (st := s_is_ring) l6 c6 k6
  have b6 := F6.binds (ps := ["size", "home", "last", "boxes"]) fun _ _ _ _ _ _ us hl => match us, hl with | [_, _, _, _], _ => rfl
  have F7 := fun_mk (st := s_is_yard) l7 c7 k7
  have b7 := F7.binds (ps := ["gate", "boxes"]) fun _ _ _ _ _ _ us hl => match us, hl with | [_, _], _ => rfl
  have F8 := fun_mk (st := s_is_number) l8 c8 k8
  have b8 := F8.binds (ps := ["word"]) fun _ _ _ _ _ _ us hl => match us, hl with | [_], _ => rfl
  have F9 := fun_mk (st := s_is_pair) l9 c9 k9
  have b9 := F9.binds (ps := ["word"]) fun _ _ _ _ _ _ us hl => match us, hl with | [_], _ => rfl
  have F10 := fun_mk (st := s_is_box_word) l10 c10 k10
  have b10 := F10.binds (ps := ["kind", "word"]) fun _ _ _ _ _ _ us hl => match us, hl with | [_, _], _ => rfl
  have F11 := fun_mk (st := s_read_pair) l11 c11 k11
  have b11 := F11.binds (ps := ["word"]) fun _ _ _ _ _ _ us hl => match us, hl with | [_], _ => rfl
  have F12 := fun_mk (st := s_read_box) l12 c12 k12
  have b12 := F12.binds (ps := ["kind", "word"]) fun _ _ _ _ _ _ us hl => match us, hl with | [_, _], _ => rfl
  have F13 := fun_mk (st := s_is_possible) l13 c13 k13
  have b13 := F13.binds (ps := ["thing"]) fun _ _ _ _ _ _ us hl => match us, hl with | [_], _ => rfl
  have F14 := fun_mk (st := s_tells) l14 c14 k14
  have b14 := F14.binds (ps := ["words"]) fun _ _ _ _ _ _ us hl => match us, hl with | [_], _ => rfl
  have F15 := fun_mk (st := s_read_words) l15 c15 k15
  have b15 := F15.binds (ps := ["words"]) fun _ _ _ _ _ _ us hl => match us, hl with | [_], _ => rfl
  have F16 := fun_mk (st := s_read) l16 c16 k16
  have b16 := F16.binds (ps := ["text"]) fun _ _ _ _ _ _ us hl => match us, hl with | [_], _ => rfl
  have F17 := fun_mk (st := s_show_way) l17 c17 k17
  have b17 := F17.binds (ps := ["parts"]) fun _ _ _ _ _ _ us hl => match us, hl with | [_], _ => rfl
  have F18 := fun_mk (st := s_show) l18 c18 k18
  have b18 := F18.binds (ps := ["thing"]) fun _ _ _ _ _ _ us hl => match us, hl with | [_], _ => rfl
  have F19 := fun_mk (st := s_with_box) l19 c19 k19
  have b19 := F19.binds (ps := ["thing", "box"]) fun _ _ _ _ _ _ us hl => match us, hl with | [_, _], _ => rfl
  have F20 := fun_mk (st := s_without_box) l20 c20 k20
  have b20 := F20.binds (ps := ["thing", "number"]) fun _ _ _ _ _ _ us hl => match us, hl with | [_, _], _ => rfl
  have F21 := fun_mk (st := s__law_cell_at) l21 c21 k21
  have b21 := F21.binds (ps := ["script", "k"]) fun _ _ _ _ _ _ us hl => match us, hl with | [_, _], _ => rfl
  have F22 := fun_mk (st := s__law_thing) l22 c22 k22
  have b22 := F22.binds (ps := ["script"]) fun _ _ _ _ _ _ us hl => match us, hl with | [_], _ => rfl
  have F23 := fun_mk (st := s__law_word) l23 c23 k23
  have b23 := F23.binds (ps := ["box"]) fun _ _ _ _ _ _ us hl => match us, hl with | [_], _ => rfl
  have F24 := fun_mk (st := s__law_text) l24 c24 k24
  have b24 := F24.binds (ps := ["thing"]) fun _ _ _ _ _ _ us hl => match us, hl with | [_], _ => rfl
  have F25 := fun_mk (st := s__law_said) l25 c25 k25
  have b25 := F25.binds (ps := ["desk", "row"]) fun _ _ _ _ _ _ us hl => match us, hl with | [_, _], _ => rfl
  have F26 := fun_mk (st := s__law_no_rows) l26 c26 k26
  have b26 := F26.binds (ps := ["sign"]) fun _ _ _ _ _ _ us hl => match us, hl with | [_], _ => rfl
  have F27 := fun_mk (st := s__law_no_boxes) l27 c27 k27
  have b27 := F27.binds (ps := ["thing"]) fun _ _ _ _ _ _ us hl => match us, hl with | [_], _ => rfl
  have F28 := fun_mk (st := s_law) l28 c28 k28
  have y_isinstance := PySem.W.mg_none_of X G z_isinstance
  have y_bool := PySem.W.mg_none_of X G z_bool
  have y_int := PySem.W.mg_none_of X G z_int
  have y_len := PySem.W.mg_none_of X G z_len
  have y_tuple := PySem.W.mg_none_of X G z_tuple
  have y_list := PySem.W.mg_none_of X G z_list
  have y_all := PySem.W.mg_none_of X G z_all
  have y_min := PySem.W.mg_none_of X G z_min
  have y_str := PySem.W.mg_none_of X G z_str
  have y_range := PySem.W.mg_none_of X G z_range
  have y_ValueError := PySem.W.mg_none_of X G z_ValueError
  have g_FIGURES : ∃ t, mg "FIGURES" = some (.str "0123456789" t) := ⟨_, PySem.W.mg_of X G ga_FIGURES⟩
  have g_HEADS := PySem.W.mg_of X G ga_HEADS
  have T_HEADS : TabK K (.ref gA_HEADS) [("rail", 2), ("gate", 1), ("ring", 3)] := ⟨_, _, _, _, rfl, gM_HEADS, gL_HEADS, gE_HEADS, rfl, gR_HEADS⟩
  have FI_Desk := fun_mk (st := s_Desk_init) lI_Desk cI_Desk kI_Desk
  have b_Desk := FI_Desk.binds (ps := ["self", "text"]) fun _ _ _ _ _ _ us hl => match us, hl with | [_, _], _ => rfl
  have M_Desk : Mk K C_Desk fI_Desk := ⟨mk_Desk, aI_Desk, iI_Desk, kc_Desk⟩
  have e_Desk := PySem.W.mg_of X G aC_Desk
  have FM_Desk_change := fun_mk (st := s_Desk_change) lM_Desk_change cM_Desk_change kM_Desk_change
  have bM_Desk_change := FM_Desk_change.binds (ps := ["self", "words"]) fun _ _ _ _ _ _ us hl => match us, hl with | [_, _], _ => rfl
  have ME_Desk_change : Meth K C_Desk "change" f_Desk_change := ⟨aM_Desk_change, iM_Desk_change, kM_Desk_change⟩
  have FM_Desk_say := fun_mk (st := s_Desk_say) lM_Desk_say cM_Desk_say kM_Desk_say
  have bM_Desk_say := FM_Desk_say.binds (ps := ["self", "row"]) fun _ _ _ _ _ _ us hl => match us, hl with | [_, _], _ => rfl
  have ME_Desk_say : Meth K C_Desk "say" f_Desk_say := ⟨aM_Desk_say, iM_Desk_say, kM_Desk_say⟩
  have e_NoText := PySem.W.mg_of X G ea_NoText
  have e_NoBox := PySem.W.mg_of X G ea_NoBox
  have e_RailError := PySem.W.mg_of X G ea_RailError
  have e_NoReason := PySem.W.mg_of X G ea_NoReason
  have e_NoRow := PySem.W.mg_of X G ea_NoRow
  have e_NoErrand := PySem.W.mg_of X G ea_NoErrand
  have e_NoRing := PySem.W.mg_of X G ea_NoRing
  have e_NoYard := PySem.W.mg_of X G ea_NoYard
  have e_NoWord := PySem.W.mg_of X G ea_NoWord
  have x_NoText : ECls K "NoText" A_NoText := ⟨ea_NoText, ex_NoText⟩
  have x_NoBox : ECls K "NoBox" A_NoBox := ⟨ea_NoBox, ex_NoBox⟩
  have x_RailError : ECls K "RailError" A_RailError := ⟨ea_RailError, ex_RailError⟩
  have x_NoWord : ECls K "NoWord" A_NoWord := ⟨ea_NoWord, ex_NoWord⟩
  have w_RailError : Takes K A_RailError ["NoBox", "NoWord"] := (takes_cons ea_NoBox ex_NoBox em_RailError_NoBox (takes_cons ea_NoWord ex_NoWord em_RailError_NoWord takes_nil))
  have t_NoReason : IsX K (.ref A_NoReason) [("NoBox", false), ("NoWord", false)] := (isX_cons ea_NoBox (isSome_mro q4_NoBox) ⟨q1_NoBox, q2_NoBox, q3_NoBox, q4_NoBox, q5_NoBox⟩ ek_NoReason_NoBox (isX_cons ea_NoWord (isSome_mro q4_NoWord) ⟨q1_NoWord, q2_NoWord, q3_NoWord, q4_NoWord, q5_NoWord⟩ ek_NoReason_NoWord isX_nil))
  have t_NoRow : IsX K (.ref A_NoRow) [("NoBox", false), ("NoWord", false)] := (isX_cons ea_NoBox (isSome_mro q4_NoBox) ⟨q1_NoBox, q2_NoBox, q3_NoBox, q4_NoBox, q5_NoBox⟩ ek_NoRow_NoBox (isX_cons ea_NoWord (isSome_mro q4_NoWord) ⟨q1_NoWord, q2_NoWord, q3_NoWord, q4_NoWord, q5_NoWord⟩ ek_NoRow_NoWord isX_nil))
  have t_NoErrand : IsX K (.ref A_NoErrand) [("NoBox", false), ("NoWord", false)] := (isX_cons ea_NoBox (isSome_mro q4_NoBox) ⟨q1_NoBox, q2_NoBox, q3_NoBox, q4_NoBox, q5_NoBox⟩ ek_NoErrand_NoBox (isX_cons ea_NoWord (isSome_mro q4_NoWord) ⟨q1_NoWord, q2_NoWord, q3_NoWord, q4_NoWord, q5_NoWord⟩ ek_NoErrand_NoWord isX_nil))
  have t_NoText : IsX K (.ref A_NoText) [("NoBox", false), ("NoWord", false)] := (isX_cons ea_NoBox (isSome_mro q4_NoBox) ⟨q1_NoBox, q2_NoBox, q3_NoBox, q4_NoBox, q5_NoBox⟩ ek_NoText_NoBox (isX_cons ea_NoWord (isSome_mro q4_NoWord) ⟨q1_NoWord, q2_NoWord, q3_NoWord, q4_NoWord, q5_NoWord⟩ ek_NoText_NoWord isX_nil))
  have t_NoRing : IsX K (.ref A_NoRing) [("NoBox", false), ("NoWord", false)] := (isX_cons ea_NoBox (isSome_mro q4_NoBox) ⟨q1_NoBox, q2_NoBox, q3_NoBox, q4_NoBox, q5_NoBox⟩ ek_NoRing_NoBox (isX_cons ea_NoWord (isSome_mro q4_NoWord) ⟨q1_NoWord, q2_NoWord, q3_NoWord, q4_NoWord, q5_NoWord⟩ ek_NoRing_NoWord isX_nil))
  have t_NoYard : IsX K (.ref A_NoYard) [("NoBox", false), ("NoWord", false)] := (isX_cons ea_NoBox (isSome_mro q4_NoBox) ⟨q1_NoBox, q2_NoBox, q3_NoBox, q4_NoBox, q5_NoBox⟩ ek_NoYard_NoBox (isX_cons ea_NoWord (isSome_mro q4_NoWord) ⟨q1_NoWord, q2_NoWord, q3_NoWord, q4_NoWord, q5_NoWord⟩ ek_NoYard_NoWord isX_nil))
  have t_NoBox : IsX K (.ref A_NoBox) [("NoBox", true), ("NoWord", false)] := (isX_cons ea_NoBox (isSome_mro q4_NoBox) ⟨q1_NoBox, q2_NoBox, q3_NoBox, q4_NoBox, q5_NoBox⟩ ek_NoBox_NoBox (isX_cons ea_NoWord (isSome_mro q4_NoWord) ⟨q1_NoWord, q2_NoWord, q3_NoWord, q4_NoWord, q5_NoWord⟩ ek_NoBox_NoWord isX_nil))
  have t_NoWord : IsX K (.ref A_NoWord) [("NoBox", false), ("NoWord", true)] := (isX_cons ea_NoBox (isSome_mro q4_NoBox) ⟨q1_NoBox, q2_NoBox, q3_NoBox, q4_NoBox, q5_NoBox⟩ ek_NoWord_NoBox (isX_cons ea_NoWord (isSome_mro q4_NoWord) ⟨q1_NoWord, q2_NoWord, q3_NoWord, q4_NoWord, q5_NoWord⟩ ek_NoWord_NoWord isX_nil))
  have t_ValueError : IsX K (.type "ValueError") [("NoBox", true), ("NoWord", true)] := (isX_cons ea_NoBox (isSome_mro q4_NoBox) ⟨q1_NoBox, q2_NoBox, q3_NoBox, q4_NoBox, q5_NoBox⟩ ek_ValueError_NoBox (isX_cons ea_NoWord (isSome_mro q4_NoWord) ⟨q1_NoWord, q2_NoWord, q3_NoWord, q4_NoWord, q5_NoWord⟩ ek_ValueError_NoWord isX_nil))
  refine ⟨PySem.W.fnOf "law" "law" (defArgs s_law) (defBody s_law) (defScope s_law) .none kV28 dc28 pm28 an28 cd28 ct28, fun s v => .of_eq rfl, fun base _ _ => ?_⟩
  have C0 : Cal _ _ _ _ _ _ _ _ _ _ _ _ := ⟨ok_is_whole (P := l.prog) (w := w) (mg := mg) (base := base) F0 y_isinstance y_bool y_int i_int i_bool, PySem.W.mg_of X G a0, k0, b0⟩
  have C1 : Cal _ _ _ _ _ _ _ _ _ _ _ _ := ⟨ok_is_box (P := l.prog) (w := w) (mg := mg) (base := base) F1 C0 y_len y_isinstance y_tuple i_tuple, PySem.W.mg_of X G a1, k1, b1⟩
  have C2 : Cal _ _ _ _ _ _ _ _ _ _ _ _ := ⟨ok_is_errand (P := l.prog) (w := w) (mg := mg) (base := base) F2 C0 C1 y_isinstance y_list y_all i_list, PySem.W.mg_of X G a2, k2, b2⟩
  have C3 : Cal _ _ _ _ _ _ _ _ _ _ _ _ := ⟨ok_is_way (P := l.prog) (w := w) (mg := mg) (base := base) F3 C0, PySem.W.mg_of X G a3, k3, b3⟩
  have C4 : Cal _ _ _ _ _ _ _ _ _ _ _ _ := ⟨ok_has_place (P := l.prog) (w := w) (mg := mg) (base := base) F4 C0, PySem.W.mg_of X G a4, k4, b4⟩
  have C5 : Cal _ _ _ _ _ _ _ _ _ _ _ _ := ⟨ok_is_ring_box (P := l.prog) (w := w) (mg := mg) (base := base) F5 C3 C4 y_len y_isinstance y_tuple i_tuple, PySem.W.mg_of X G a5, k5, b5⟩
  have C6 : Cal _ _ _ _ _ _ _ _ _ _ _ _ := ⟨ok_is_ring (P := l.prog) (w := w) (mg := mg) (base := base) F6 C4 C0 C5 y_all y_isinstance y_list i_list, PySem.W.mg_of X G a6, k6, b6⟩
  have C7 : Cal _ _ _ _ _ _ _ _ _ _ _ _ := ⟨ok_is_yard (P := l.prog) (w := w) (mg := mg) (base := base) F7 C2 y_min y_all, PySem.W.mg_of X G a7, k7, b7⟩
  have C8 : Cal _ _ _ _ _ _ _ _ _ _ _ _ := ⟨ok_is_number (P := l.prog) (w := w) (mg := mg) (base := base) F8 g_FIGURES y_len y_all, PySem.W.mg_of X G a8, k8, b8⟩
  have C9 : Cal _ _ _ _ _ _ _ _ _ _ _ _ := ⟨ok_is_pair (P := l.prog) (w := w) (mg := mg) (base := base) F9 C8 y_all y_len, PySem.W.mg_of X G a9, k9, b9⟩
  have C10 : Cal _ _ _ _ _ _ _ _ _ _ _ _ := ⟨ok_is_box_word (P := l.prog) (w := w) (mg := mg) (base := base) F10 C9, PySem.W.mg_of X G a10, k10, b10⟩
  have C11 : Cal _ _ _ _ _ _ _ _ _ _ _ _ := ⟨ok_read_pair (P := l.prog) (w := w) (mg := mg) (base := base) F11 y_int y_tuple, PySem.W.mg_of X G a11, k11, b11⟩
  have C12 : Cal _ _ _ _ _ _ _ _ _ _ _ _ := ⟨ok_read_box (P := l.prog) (w := w) (mg := mg) (base := base) F12 C11, PySem.W.mg_of X G a12, k12, b12⟩
  have C13 : Cal _ _ _ _ _ _ _ _ _ _ _ _ := ⟨ok_is_possible (P := l.prog) (w := w) (mg := mg) (base := base) F13 C6 C7 C2, PySem.W.mg_of X G a13, k13, b13⟩
  have C14 : Cal _ _ _ _ _ _ _ _ _ _ _ _ := ⟨ok_tells (P := l.prog) (w := w) (mg := mg) (base := base) F14 C8 C10 g_HEADS T_HEADS y_all y_len, PySem.W.mg_of X G a14, k14, b14⟩
  have C15 : Cal _ _ _ _ _ _ _ _ _ _ _ _ := ⟨ok_read_words (P := l.prog) (w := w) (mg := mg) (base := base) F15 C12 g_HEADS T_HEADS y_int y_tuple, PySem.W.mg_of X G a15, k15, b15⟩
  have C16 : Cal _ _ _ _ _ _ _ _ _ _ _ _ := ⟨ok_read (P := l.prog) (w := w) (mg := mg) (base := base) F16 C14 C15 C13 e_NoText x_NoText y_isinstance y_str i_str, PySem.W.mg_of X G a16, k16, b16⟩
  have C17 : Cal _ _ _ _ _ _ _ _ _ _ _ _ := ⟨ok_show_way (P := l.prog) (w := w) (mg := mg) (base := base) F17, PySem.W.mg_of X G a17, k17, b17⟩
  have C18 : Cal _ _ _ _ _ _ _ _ _ _ _ _ := ⟨ok_show (P := l.prog) (w := w) (mg := mg) (base := base) F18 C17 y_str, PySem.W.mg_of X G a18, k18, b18⟩
  have HX19 := okx_with_box (P := l.prog) (w := w) (mg := mg) (base := base) F19 C13 e_NoBox x_NoBox
  have C19 : Cal _ _ _ _ _ _ _ _ _ _ _ _ := ⟨ok_with_box (P := l.prog) (w := w) (mg := mg) (base := base) F19 C13 e_NoBox x_NoBox, PySem.W.mg_of X G a19, k19, b19⟩
  have HX20 := okx_without_box (P := l.prog) (w := w) (mg := mg) (base := base) F20 e_NoBox x_NoBox y_len
  have C20 : Cal _ _ _ _ _ _ _ _ _ _ _ _ := ⟨ok_without_box (P := l.prog) (w := w) (mg := mg) (base := base) F20 e_NoBox x_NoBox y_len, PySem.W.mg_of X G a20, k20, b20⟩
  have C21 : Cal _ _ _ _ _ _ _ _ _ _ _ _ := ⟨ok__law_cell_at (P := l.prog) (w := w) (mg := mg) (base := base) F21 y_len, PySem.W.mg_of X G a21, k21, b21⟩
  have C22 : Cal _ _ _ _ _ _ _ _ _ _ _ _ := ⟨ok__law_thing (P := l.prog) (w := w) (mg := mg) (base := base) F22 C21 y_range, PySem.W.mg_of X G a22, k22, b22⟩
  have C23 : Cal _ _ _ _ _ _ _ _ _ _ _ _ := ⟨ok__law_word (P := l.prog) (w := w) (mg := mg) (base := base) F23 y_str y_len, PySem.W.mg_of X G a23, k23, b23⟩
  have C24 : Cal _ _ _ _ _ _ _ _ _ _ _ _ := ⟨ok__law_text (P := l.prog) (w := w) (mg := mg) (base := base) F24 C23 y_str, PySem.W.mg_of X G a24, k24, b24⟩
  have Fi_Desk := ok_Desk_init (P := l.prog) (w := w) (mg := mg) (base := base) FI_Desk C16 ⟨pg_Desk, hd_Desk, po_Desk, sa_Desk⟩ nA_Desk
  have Fc_Desk := ok_Desk_change (P := l.prog) (w := w) (mg := mg) (base := base) FM_Desk_change C10 C12 C8 C19 C20 y_len y_int ⟨pg_Desk, hd_Desk, po_Desk, sa_Desk⟩ nA_Desk
  have Fs_Desk := ok_Desk_say (P := l.prog) (w := w) (mg := mg) (base := base) FM_Desk_say C18 y_isinstance y_str i_str ⟨pg_Desk, hd_Desk, po_Desk, sa_Desk⟩ nA_Desk ME_Desk_change Fc_Desk bM_Desk_change
  have Xc_Desk := okx_Desk_change (P := l.prog) (w := w) (mg := mg) (base := base) FM_Desk_change C10 C12 C8 C19 C20 e_NoWord x_NoWord y_len y_int HX19 HX20 ⟨pg_Desk, hd_Desk, po_Desk, sa_Desk⟩ nA_Desk
  have Xs_Desk := okx_Desk_say (P := l.prog) (w := w) (mg := mg) (base := base) FM_Desk_say e_NoWord x_NoWord y_isinstance y_str i_str ⟨pg_Desk, hd_Desk, po_Desk, sa_Desk⟩ ME_Desk_change Xc_Desk bM_Desk_change
  have G25 := ok__law_said (P := l.prog) (w := w) (mg := mg) (base := base) F25 e_RailError e_NoReason e_NoRow e_NoErrand e_NoText e_NoRing e_NoYard e_NoBox e_NoWord x_RailError w_RailError t_NoReason t_NoRow t_NoErrand t_NoText t_NoRing t_NoYard t_NoBox t_NoWord t_ValueError y_isinstance y_ValueError ⟨pg_Desk, hd_Desk, po_Desk, sa_Desk⟩ ME_Desk_say Fs_Desk Xs_Desk bM_Desk_say
  have C26 : Cal _ _ _ _ _ _ _ _ _ _ _ _ := ⟨ok__law_no_rows (P := l.prog) (w := w) (mg := mg) (base := base) F26, PySem.W.mg_of X G a26, k26, b26⟩
  have C27 : Cal _ _ _ _ _ _ _ _ _ _ _ _ := ⟨ok__law_no_boxes (P := l.prog) (w := w) (mg := mg) (base := base) F27 y_str, PySem.W.mg_of X G a27, k27, b27⟩
  exact ok_law F28 C22 C24 C27 C21 C26 y_str y_len M_Desk Fi_Desk b_Desk e_Desk G25 (PySem.W.mg_of X G a25) k25 b25
theorem walk {l : PySem.W.OpenLaw} {q : Program} {loose : List Str} {XP : (Str → Option Value) → Heap → Prop} {YP : World → Heap → Prop} {d : DefRec} {K : Params → PySem.W.Frag} (hn : l.most = some 63) (hdf : d.params.defaults = [])
    (hY : ∀ (w : World) (h : Heap), YP w h → (K w.params).In h)
    (F : ∀ (w : World) (mg : Str → Option Value) (fa : Addr) (h : Heap), (K w.params).In h → h.Ns mainGlobals mg → mg d.name = some (.ref fa) →
      ∃ fd : FuncData, (∀ (s : Shared) (u : Value), BindsTo s fd ⟨[u], []⟩ [("script", u)]) ∧ ∀ base : Heap, (K w.params).In base → base.Ns mainGlobals mg → FnOk l.prog w (K w.params) mg base CX0 10 fa fd ["script"] (spD (K w.params) 1 m_law)) :
    PySem.W.WalkO q loose XP YP l.row.toRowW d [] (fun f vs => PySem.call f vs) :=
  L2.walk_of (n := 63) (k := 10) (x := "script") (CX := fun _ => CX0) (sp := fun w => spD (K w.params) 1 m_law) hn (by decide) hdf ⟨rfl, by decide, by decide⟩ hY F
    (fun _ H a ns hl _ hS => ⟨H, [.scr ns], .sh (.bl true), law_true ns hl, rfl, Same.refl _, ⟨.ref a, [], rfl, ⟨a, rfl, hS⟩, rfl⟩, fun _ _ _ _ y => y⟩) fun _ _ _ _ _ z => z
end Kx
namespace PySem.W.Fast
def tw15191255343090119355:=0
def tw10376450324486965985:=0
def tw16998517833313740944:=0
def tw16801473710745883449:=0
def tw5597160062505524433:=0
def tw16242164355393019372:=0
def tw10950950131358873693:=0
def tw5775596791571152558:=0
def tw14214033545019259810:=0
def tw23665011892105905:=0
def tw1375040129903722387:=0
def tw2688784470500672438:=0
def tw2794765152715359937:=0
def tw10143068049727836066:=0
def tw14526811570912380818:=0
def tw1245074377604699971:=0
def tw18181729198692733240:=0
def tw6746277547689136035:=0
def tw14414971877903801570:=0
def tw8466747054546797398:=0
def tw6017111844616102353:=0
def tw9668400461259739472:=0
def tw18123819009260096105:=0
def tw4469749999064218977:=0
def tw1395578059262449047:=0
def tw356042016085000864:=0
def tw4408490425599994295:=0
def tw13994454925449536062:=0
def tw6897563279930463440:=0
def tw12294675705742284328:=0
def tw18117844067466152997:=0
def tw1255259947180308526:=0
def tw18169810205730536940:=0
def tw1161888949488045285:=0
def tw11966107648243572928:=0
def tw2383914483790967131:=0
def tw7401147520053573962:=0
def tw2524666329990667525:=0
def tw11665287371697137151:=0
def tw12179979418827506166:=0
def tw364785777591370214:=0
def tw17686541262283494421:=0
def tw9721500540423453313:=0
def tw6148410887246919178:=0
def tw1757406559885458720:=0
def tw11845024810991581122:=0
def tw1193605532672551273:=0
def tw17403198233343017936:=0
def tw17436826749083490354:=0
def tw18188317859119635807:=0
def tw10219911265444945213:=0
def tw14039788764039804372:=0
def tw5295149547018297746:=0
def tw17641465091693924802:=0
def tw13385671853695691084:=0
def tw4549263124971169984:=0
def tw1859549593813393478:=0
def tw4417082826285400576:=0
def tw8118489162122674482:=0
def tw13094046308392544729:=0
def tw14359353370347915877:=0
def tw5790717712269700689:=0
def tw17312877728019318975:=0
def tw16680182063427865229:=0
def tw7458389722970543783:=0
def tw11453954614852482414:=0
def tw4969834787749252717:=0
def tw3997486044456683587:=0
def tw10650651304533106302:=0
def tw10431016594436618555:=0
def tw257733539525489669:=0
def tw3638170765321634014:=0
def tw2798890629985148304:=0
def tw16129853543533340156:=0
def tw7065506918947237582:=0
def tw11901377752373040393:=0
def tw12065923810090076702:=0
def tw6880823558459213589:=0
def tw13656204256314827590:=0
def tw966016256385422881:=0
def tw14969739209387529517:=0
def tw15689997399035286566:=0
def tw8892081160764525406:=0
def tw175661737562646420:=0
def tw9199852947046967698:=0
def tw12076680330272306544:=0
def tw154943060392361091:=0
def tw13862778471434126261:=0
def tw14423857248906250523:=0
def tw3918794527295334138:=0
def tw2154741083881694028:=0
def tw2113579353017611841:=0
def tw151010956833559155:=0
def tw17387022294671083627:=0
def tw11160459140776219692:=0
def tw14686602978327782226:=0
def tw613792561189313885:=0
def tw15140830277656770778:=0
def tw8428660261544537276:=0
def tw9712707270751708726:=0
def tw7652456560099247133:=0
def tw13335254542661453583:=0
def tw1058950990222124478:=0
def tw15391106750123499475:=0
def tw9851265212039884947:=0
def tw10095858408707586115:=0
def tw10037304121225557690:=0
def tw206107512269308081:=0
def tw7465861135151798853:=0
def tw9518991899221073174:=0
def tw6578116040481075727:=0
def tw8906392852647633331:=0
def tw2619151093599196866:=0
def tw16473383180821311568:=0
def tw60615663236186006:=0
def tw7538527959681886418:=0
def tw9227698435882751851:=0
def tw12807413474755462108:=0
def tw13161664784448597599:=0
def tw10691554466515367551:=0
def tw6998458120089831206:=0
def tw540776807292692197:=0
def tw9441072366684723704:=0
def tw14177015688076024451:=0
def tw5951909120399133761:=0
def tw5179768577231292510:=0
def tw11159371292844574548:=0
def tw3383188633654722727:=0
def tw16960587303710681209:=0
def tw5375479510964556908:=0
def tw15686414676822363910:=0
def tw12702288270360835766:=0
def tw15953764843776641634:=0
def tw15794402632277488280:=0
def tw13468287767703866617:=0
def tw7237546886200279789:=0
def tw3271608349720378222:=0
def tw10743036289063202829:=0
def tw2732919081071791768:=0
def tw11135896674099320183:=0
def tw770880903638146860:=0
def tw3930576987441199571:=0
def tw4986858208948198833:=0
def tw7320472817926203753:=0
def tw16276473635586901170:=0
def tw13875457229003525027:=0
def tw11975817155556646870:=0
def tw4675141253566960682:=0
def tw12115935202253488056:=0
def tw16612227689333946257:=0
def tw1044492443352933695:=0
def tw727573923779295133:=0
def tw7109721416554430035:=0
def tw8463799920405115034:=0
def tw3495218396061528908:=0
def tw4414974709965296606:=0
def tw1680581826900303444:=0
def tw1522720246520905682:=0
def tw16338149727375781905:=0
def tw1832061274984046299:=0
def tw11048018497122979955:=0
def tw7455228869013651148:=0
def tw15973143642043015361:=0
def tw12474384699772785480:=0
def tw16302832297717485880:=0
def tw10727282791652023380:=0
def tw7883538337955087916:=0
def tw1445902536544277771:=0
def tw9464060839379552594:=0
def tw17763866206844364620:=0
def tw12161642518675921782:=0
def tw3355542734178096375:=0
def tw14632513697962852391:=0
def tw16181420884809475960:=0
def tw5445055563550965454:=0
def tw83263092020259263:=0
def tw8750225204513199613:=0
def tw2093053565005362615:=0
def tw5789283081524618063:=0
def tw4797445302998182823:=0
def tw15298976986060565379:=0
def tw10911750934056979591:=0
def tw12094641126245702673:=0
def tw12047421288079485442:=0
def tw3158854582921441536:=0
def tw1493890612937330689:=0
def tw15785852615548909378:=0
def tw12364815287442984061:=0
def tw13469275274526707479:=0
def tw2651069830323866563:=0
def tw1619894781277531671:=0
def tw10189299668248086945:=0
def tw17237453711599241297:=0
def tw8163332906152419832:=0
def tw14053756204430807110:=0
def tw7294404792765501995:=0
def tw4662781145554251105:=0
def tw17492218491227304962:=0
def tw6702719959694575609:=0
def tw3311790461999877059:=0
def tw11081854144137495629:=0
def tw7072509864377945696:=0
def tw15302218358480120447:=0
def tw13158376912604721442:=0
def tw12502301930392615592:=0
def tw8363287409816990459:=0
def tw8748663294193486863:=0
def tw3598958528174211386:=0
def tw3409731852538610309:=0
def tw5298725511852741935:=0
def tw9434048573767342664:=0
def tw16659403604769706666:=0
def tw844899111906536533:=0
def tw14168816053632621749:=0
def tw14949234001992685355:=0
def tw3131692785682985881:=0
def tw18340361835031737739:=0
def tw11299067585444475324:=0
def tw1337172711994369078:=0
def tw9769915120024407825:=0
def tw18271811441855118440:=0
def tw16636499024589776327:=0
def tw16353024733128067928:=0
def tw16949943348859033834:=0
def tw3797427573116199594:=0
def tw11098964826318576464:=0
def tw8252964022789599213:=0
def tw17005676339909329750:=0
def tw11924647685517537754:=0
def tw17596019347568753383:=0
def tw18392859522796907538:=0
def tw11462537414047045119:=0
def tw14420848029456518154:=0
def tw4139589281702839007:=0
def tw8801507264798301028:=0
def tw8057514696089954020:=0
def tw12399392871219796558:=0
def tw15857813284786792685:=0
def tw4700454867819041373:=0
def tw3111313455664302605:=0
def tw899691665084675571:=0
def tw2387471419060774335:=0
def tw11387001365843093189:=0
def tw3733486307046208378:=0
def tw6049501132378675953:=0
def tw1891043421570489442:=0
def tw4551927165181356085:=0
def tw5807453298566263229:=0
def tw14645781250944337376:=0
def tw12304023499147620490:=0
def tw7832137293313106437:=0
def tw10654383483341375366:=0
def tw17619345609303347264:=0
def tw622033174341047731:=0
def tw16379101555658560674:=0
def tw11187581543557226016:=0
def tw15942392481684319518:=0
def tw17880774017417830511:=0
def tw9942692698691371938:=0
def tw17252888922236382739:=0
def tw15172450220221227594:=0
def tw9928728131778240327:=0
def tw11119856654489526043:=0
def tw15394483741423964249:=0
def tw8092553791482885947:=0
def tw17735188338370074140:=0
def tw15227495926676802543:=0
def tw7093728880762462222:=0
def tw941986086616318909:=0
def tw5493265232230005202:=0
def tw4108819336329262846:=0
def tw11470055413101743219:=0
def tw13798832666827733816:=0
def tw13791031832926413460:=0
def tw13739293032188324682:=0
def tw16755684976606118860:=0
def tw2975557466959636349:=0
def tw12498839877973578859:=0
def tw15225916921682825511:=0
def tw1697108926957618076:=0
def tw524649907982814643:=0
def tw10141254288732694904:=0
def tw943106729589385945:=0
def tw1145272412411770828:=0
def tw2007923289180860081:=0
def tw12078729392344996142:=0
def tw8378527891650819572:=0
def tw11188514219587761332:=0
def tw13964597580823281607:=0
def tw4978974020154570556:=0
def tw11073841621706601522:=0
def tw1624851659575224108:=0
def tw9499164648015007656:=0
def tw4984660044009536852:=0
def tw14244531072418381695:=0
def tw478729267629865916:=0
def tw6793632479294359115:=0
def tw18051763853494896507:=0
def tw17564482485506670246:=0
def tw15756317515168181324:=0
def tw17972413027402502261:=0
def tw4936273840951583274:=0
def tw15574582138743131669:=0
def tw6623764290752836077:=0
def tw9511841235750527541:=0
def tw6303879581854482121:=0
def tw18358631993306558295:=0
def tw11132296288431563110:=0
def tw3240773065219911129:=0
def tw3336384354688446392:=0
def tw5745842918947191806:=0
def tw18025624796488782548:=0
def tw16281889271608731195:=0
def tw15271222971841646000:=0
def tw11504286266542000269:=0
def tw10700659548415113786:=0
def tw18333397013882686924:=0
def tw1417430229260279295:=0
def tw15643215498140150509:=0
def tw4058970116599850154:=0
def tw17739410036751572453:=0
def tw8612657378483132939:=0
def tw1223395784267259994:=0
def tw9459370344332592689:=0
def tw5942779732412745735:=0
def tw637436876875620144:=0
def tw3925136945565996632:=0
def tw10339360239540794125:=0
def tw12470879937485557526:=0
def tw4448155827989315047:=0
def tw2936206192234871502:=0
def tw283317831796389659:=0
def tw8455996591827950904:=0
def tw18396828225115822558:=0
def tw3388089876489702982:=0
def tw10415818349649125939:=0
def tw10771579950165041068:=0
def tw15288019818785219161:=0
def tw7666904516113925809:=0
def tw11421125685019572180:=0
def tw11024102934581569544:=0
def tw6414802373784171132:=0
def tw13685295918959034446:=0
def tw13297359832842082722:=0
def tw14557384717084662656:=0
def tw13055438956677548917:=0
def tw8571121310247487799:=0
def tw7968654454297820051:=0
def tw7059300392713670843:=0
def tw7078673924402464202:=0
def tw14727256281777587519:=0
def tw6699778761481828112:=0
def tw9032062814812845873:=0
def tw3748035761798210432:=0
def tw6960636328733867445:=0
def tw9933863132917687312:=0
def tw3597115441986374702:=0
def tw820955476971019158:=0
def tw11922703471714435226:=0
def tw16741518586559578013:=0
def tw11663981699485423852:=0
def tw12674346998558199156:=0
def tw6081928058482722948:=0
def tw5636041934178033484:=0
def tw13651891535109796571:=0
def tw18000249895183667924:=0
def tw10297248078980642828:=0
def tw11568923727354151311:=0
def tw11647387697215325748:=0
def tw8765659607996749340:=0
def tw3293076880348310976:=0
def tw5315622827059948450:=0
def tw2856112248707682973:=0
def tw17230905703351336718:=0
def tw2198986290496790610:=0
def tw11435394556574134488:=0
def tw644134459088325098:=0
def tw7208207235311626815:=0
def tw3932330415043925849:=0
def tw14726043050969513294:=0
def tw9878408737159906621:=0
def tw5050103516233360062:=0
def tw7377518418268937404:=0
def tw6769870050932634931:=0
def tw14596305806736474906:=0
def tw10532761623091827375:=0
def tw12656126276041514820:=0
def tw13571096614947282807:=0
def tw14529332019384435610:=0
def tw15242036643064267962:=0
def tw6758180274926763250:=0
def tw17229170115771440127:=0
def tw13666803579982941029:=0
def tw10142737739529962517:=0
def tw4517461222158275801:=0
def tw16836151923726426071:=0
def tw7198233780958634140:=0
def tw15536690730011678866:=0
def tw2832966624799003685:=0
def tw3325278534584183115:=0
def tw11380575036376741282:=0
def tw3062399427408655183:=0
def tw6497793456207906340:=0
def tw7778692578954414461:=0
def tw4043247555127391597:=0
def tw12881378586680623113:=0
def tw5076358538097775357:=0
def tw6295738690432053971:=0
def tw11794778419901961139:=0
def tw7036152608538251197:=0
def tw17269141236975333659:=0
def tw17483205435403965252:=0
def tw14603396442374863749:=0
def tw11379784596738790484:=0
def tw14822018712035366208:=0
def tw3784522170153504257:=0
def tw7858764529182644989:=0
def tw546703323982331327:=0
def tw16037049141057652785:=0
def tw6699822022897705048:=0
def tw16961129265057306375:=0
def tw15994630451103628794:=0
def tw15182446174975047441:=0
def tw17841002553670589201:=0
def tw6021199382167462954:=0
def tw17035179546848438294:=0
def tw6243276628318639542:=0
def tw7525039672096129036:=0
def tw1268800816185761055:=0
def tw1570077391647212556:=0
def tw6342810713244520676:=0
def tw16373175665703402921:=0
def tw11168698476717182889:=0
def tw6159617921813700848:=0
def tw13834582491661781799:=0
def tw4965189961137644495:=0
def tw1048495661817281649:=0
def tw8072907778517501698:=0
def tw10933437160304007509:=0
def tw15523308650050636650:=0
def tw10615416541327798367:=0
def tw2324203128266254537:=0
def tw10884593128829188594:=0
def tw10834675912477998010:=0
def tw13739390812282730489:=0
def tw3442385467833050346:=0
def tw5842344912908116657:=0
def tw7202064687496168871:=0
def tw17704009385448773737:=0
def tw9277276199826916218:=0
def tw12487648061831911372:=0
def tw12508900181370472735:=0
def tw15365139165639365464:=0
def tw11071664476786604829:=0
def tw7164201613595601633:=0
def tw12028816802653296843:=0
def tw15429567644178766136:=0
def tw2561239734953960804:=0
def tw3992419175704582995:=0
def tw11150136576636979788:=0
def tw3314589680421276435:=0
def tw3018447134767965714:=0
def tw10580017832419505324:=0
def tw10787571093971737239:=0
def tw4117148237963155265:=0
def tw12788043934201383060:=0
def tw15934925214617543179:=0
def tw13417671619834704887:=0
def tw10441286239483144479:=0
def tw16770790333985250714:=0
def tw11883654576720209206:=0
def tw4451303876004643947:=0
def tw16210544792438072283:=0
def tw1988581896176355899:=0
def tw2283618856583370491:=0
def tw10655305038272220796:=0
def tw7363741546133076328:=0
def tw2135535977833555470:=0
def tw2762176595455466490:=0
def tw11313066536634340965:=0
def tw13341944560180676672:=0
def tw3148162115485574333:=0
def tw3115993898846744656:=0
def tw4963815035674552826:=0
def tw725643205100661467:=0
def tw8254580920638074573:=0
def tw11908654004983601148:=0
def tw9027936077742350829:=0
def tw4692630727584089631:=0
def tw11867477682197960408:=0
def tw964601161135328152:=0
def tw11198162461600909228:=0
def tw9851428226125009865:=0
def tw14298353791278228946:=0
def tw12223960599151347614:=0
def tw11460521572771485472:=0
def tw16694657817312310826:=0
def tw566716177765109568:=0
def tw6157035022094204603:=0
def tw10653448244408789537:=0
def tw18023222776173434750:=0
def tw16561289560656633304:=0
def tw1884074449294244231:=0
def tw508047384871468719:=0
def tw436842017146750124:=0
def tw7595187358032791900:=0
def tw954533561663839396:=0
def tw626336043632543680:=0
def tw13484430258238892717:=0
def tw13073465647511903584:=0
def tw7689190902234668999:=0
def tw3885346185717451811:=0
def tw14031531325735025322:=0
def tw14665220253749949480:=0
def tw11279769419700815282:=0
def tw8537799335936133367:=0
def tw4124226514050514844:=0
def tw10877299204813985474:=0
def tw3100566186678808716:=0
def tw17325710969648721545:=0
def tw334908664024647908:=0
def tw7411031623960233021:=0
def tw10870224574590555397:=0
def tw12536044381804020686:=0
def tw17407071469773832796:=0
def tw4191746478696500404:=0
def tw716290867601922764:=0
def tw17395342706254718733:=0
def tw2861971780671093396:=0
def tw10040034947985085733:=0
def tw13633875804516932292:=0
def tw2637534131875684730:=0
def tw18000409734606679052:=0
def tw10318584261467742152:=0
def tw13356840297853391073:=0
def tw16924075084817444180:=0
def tw9137929796290388147:=0
def tw8229679025025209912:=0
def tw14208698162716024232:=0
def tw10042711965746000197:=0
def tw10012228113827647674:=0
def tw3673963467864913843:=0
def tw18237397412748226773:=0
def tw11474919012531790257:=0
def tw14795592191599060282:=0
def tw13892411131629419891:=0
def tw9827350854342935614:=0
def tw2010479177103879693:=0
def tw10062633101246105508:=0
def tw2016543361584536532:=0
def tw11039533999632024823:=0
def tw4048394473515999228:=0
def tw1529988120967100492:=0
def tw14673700098634146246:=0
def tw6869586938931564108:=0
def tw16400857448186758893:=0
def tw17321534855208435612:=0
def tw3678519830935182697:=0
def tw16545085834175824120:=0
def tw2185822108978897603:=0
def tw75118990829521251:=0
def tw13393983022626525342:=0
def tw12783923308923888685:=0
def tw6027499807217175670:=0
def tw7316456845546704452:=0
def tw16046571693731036169:=0
def tw13842381848531846672:=0
def tw6697762295077152361:=0
def tw3128901602314391393:=0
def tw7921541316375593595:=0
def tw10485508446728219995:=0
def tw4570016067648122501:=0
def tw1679770585864343026:=0
def tw7381028516569845702:=0
def tw1188914662337842578:=0
def tw12036554232706377987:=0
def tw1604775429463677537:=0
def tw11638195252005499526:=0
def tw14990349461664627621:=0
def tw11882500172575831799:=0
def tw15010684477415675734:=0
def tw3532456582858978484:=0
def tw8612877394333789476:=0
def tw6244226096799466886:=0
def tw6120850305918945796:=0
def tw2472782450098445746:=0
def tw922802101576290759:=0
def tw15061692836440549545:=0
def tw609303276472890903:=0
def tw8111027180700935606:=0
def tw9178161834159003012:=0
def tw11938597886916538459:=0
def tw2840407814645545685:=0
def tw6586477902169518605:=0
def tw12666975947842626606:=0
def tw12144615838852934745:=0
def tw3700845644414844129:=0
def tw194845575551210497:=0
def tw12126028115747534823:=0
def tw1668615022058189889:=0
def tw13847126761058382389:=0
def tw10017158013595150751:=0
def tw16141640294943571761:=0
def tw2989268486016564774:=0
def tw14951341732956301100:=0
def tw199592596259630439:=0
def tw5316793406967651883:=0
def tw16309147254008173057:=0
def tw16181427029753446456:=0
def tw3181653395970735187:=0
def tw13835515114898045940:=0
def tw2940667347597986940:=0
def tw9735374864532761070:=0
def tw4785513110046668132:=0
def tw15607656034639129889:=0
def tw17381376523055666673:=0
def tw13326141462226167146:=0
def tw14380782346526629290:=0
def tw11712593050055059779:=0
def tw5075711955975476505:=0
def tw2374419469343811907:=0
def tw5422265466555835986:=0
def tw18146661600913998126:=0
def tw8398451621527083800:=0
def tw3499484777796635927:=0
def tw9261925193345808087:=0
def tw8317786280527275586:=0
def tw8882208001569033220:=0
def tw5414862476563188502:=0
def tw11445659104356380865:=0
def tw16616837533905811121:=0
def tw16343888535668211813:=0
def tw18357722494332124817:=0
def tw1854676843432611249:=0
def tw12644167268757527170:=0
def tw13359352340667375094:=0
def tw13036321344049178220:=0
def tw10054579608751382777:=0
def tw899869694474873106:=0
def tw18259110335219462715:=0
def tw15906419884790548893:=0
def tw11680858997671044635:=0
def tw4193363422105500896:=0
def tw1539178327307649187:=0
def tw10987867946275792979:=0
def tw44264845434269662:=0
def tw5926653387838774511:=0
def tw409113442915022261:=0
def tw3016128184198607334:=0
def tw15917650632005955770:=0
def tw17418236407100868003:=0
def tw16437962192457280260:=0
def tw5806091354646870063:=0
def tw4911537140394780355:=0
def tw16591688927120032815:=0
def tw15998810206659030466:=0
def tw12760941282080833342:=0
def tw17942331911738819736:=0
def tw11972849078926949248:=0
def tw9477955828573490418:=0
def tw16670588385136345344:=0
def tw7670318766801707108:=0
def tw16548246871390334035:=0
def tw3401721617371338100:=0
def tw10053605474970261474:=0
def tw17790728263032656315:=0
def tw4208762190574469372:=0
def tw2297673099905174881:=0
def tw8093476422950729608:=0
def tw2959192121576053284:=0
def tw17745488501249684266:=0
def tw834941054781195563:=0
def tw7544403882458812989:=0
def tw8898205696614576891:=0
def tw9983877245732896436:=0
def tw9206573757929263237:=0
def tw6616331329807246065:=0
def tw17488445648574582439:=0
def tw8720171131668696255:=0
def tw9417406066186208862:=0
def tw5182315022688436225:=0
def tw9819321612456069115:=0
def tw3461642811305071248:=0
def tw7995142496280371862:=0
def tw17783160909557282174:=0
def tw8813323049164099312:=0
def tw1166721156990006237:=0
def tw2858308444173587212:=0
def tw17096551713955736460:=0
def tw1003543602760671594:=0
def tw1225528841186425255:=0
def tw4543519586995366973:=0
def tw11328410866629125719:=0
def tw18230517081723374524:=0
def tw9656884579321218738:=0
def tw10313474445044653991:=0
def tw15788754387854940678:=0
def tw16238200381654354567:=0
def tw11974361165415742550:=0
def tw7545834619162130873:=0
def tw5080692757235108569:=0
def tw15586439463750126380:=0
def tw15958759059009935925:=0
def tw14121279863986926087:=0
def tw2984937918203598398:=0
def tw1341664295374018981:=0
def tw6172580550566766014:=0
def tw7916957846449321144:=0
def tw17437151352918584846:=0
def tw13271456866850924695:=0
def tw12135028718906608223:=0
def tw10160232885516571810:=0
def tw9388839321697240813:=0
def tw14270367997033107202:=0
def tw9885844186902907135:=0
def tw4298280038787632698:=0
def tw14987273648665213711:=0
def tw11096800419998677872:=0
def tw12418949917722126388:=0
def tw221332746467848233:=0
def tw8966378319191117219:=0
def tw13540913380761516743:=0
def tw14527549993166246113:=0
def tw15923397902464739456:=0
def tw14540754970873814445:=0
def tw3929637949020530796:=0
def tw11632184494253367603:=0
def tw12079993630596450453:=0
def tw5319958047666084664:=0
def tw8163644876564023208:=0
def tw7101782813327235482:=0
def tw1812336165593403537:=0
def tw17982764905736963169:=0
def tw9408599160711413638:=0
def tw4576841809413261983:=0
def tw6117896383936940406:=0
def tw1207705127957171102:=0
def tw10929065789336233876:=0
def tw2002316624043369236:=0
def tw15805694912887950261:=0
def tw13177126371030932897:=0
def tw12183847881760820236:=0
def tw7510665850295476419:=0
def tw5211842129182598367:=0
def tw10036063057818116200:=0
def tw12323325838552620905:=0
def tw16315693717495100363:=0
def tw7375107010185724995:=0
def tw13748929879637928355:=0
def tw8551176348464425999:=0
def tw16011975002122137171:=0
def tw14320243395940874079:=0
def tw15333583467369844012:=0
def tw9442545624756194006:=0
def tw9752982245142251334:=0
def tw1478530349926135107:=0
def tw5617898289373884715:=0
def tw12925908624108816729:=0
def tw16083355259530750133:=0
def tw13096905534709506932:=0
def tw10549407816180598173:=0
def tw6651969082411375232:=0
def tw18044236671414684329:=0
def tw6010690879978256603:=0
def tw17039803817080751052:=0
def tw15580198972474878667:=0
end PySem.W.Fast
open PySem PySem.W PyProof.Rows
set_option maxRecDepth 100000 in
set_option maxHeartbeats 0 in
theorem PySem.Challenge.cw_hookrail_k75_rows_refused_holds : PySem.Challenge.rw_hookrail_k75_rows_refused.Holds := by
  w_on; o_law; k_head; (case hw => w_witness2)
  k_fill
  refine Kx.walk (l := PySem.Challenge.rw_hookrail_k75_rows_refused) rfl rfl (fun w h Y => PySem.W.kIn_of Y) ?F
  case F =>
    intro w mg fa h KX G hmg
    refine' Kx.all_mk KX G hmg ?a0 ?l0 ?c0 ?k0 ?a1 ?l1 ?c1 ?k1 ?a2 ?l2 ?c2 ?k2 ?a3 ?l3 ?c3 ?k3 ?a4 ?l4 ?c4 ?k4 ?a5 ?l5 ?c5 ?k5 ?a6 ?l6 ?c6 ?k6 ?a7 ?l7 ?c7 ?k7 ?a8 ?l8 ?c8 ?k8 ?a9 ?l9 ?c9 ?k9 ?a10 ?l10 ?c10 ?k10 ?a11 ?l11 ?c11 ?k11 ?a12 ?l12 ?c12 ?k12 ?a13 ?l13 ?c13 ?k13 ?a14 ?l14 ?c14 ?k14 ?a15 ?l15 ?c15 ?k15 ?a16 ?l16 ?c16 ?k16 ?a17 ?l17 ?c17 ?k17 ?a18 ?l18 ?c18 ?k18 ?a19 ?l19 ?c19 ?k19 ?a20 ?l20 ?c20 ?k20 ?a21 ?l21 ?c21 ?k21 ?a22 ?l22 ?c22 ?k22 ?a23 ?l23 ?c23 ?k23 ?a24 ?l24 ?c24 ?k24 ?a25 ?l25 ?c25 ?k25 ?a26 ?l26 ?c26 ?k26 ?a27 ?l27 ?c27 ?k27 ?a28 ?l28 ?c28 ?k28 ?z_isinstance ?z_bool ?z_int ?z_len ?z_tuple ?z_list ?z_all ?z_min ?z_str ?z_range ?z_ValueError ?i_int ?i_bool ?i_tuple ?i_list ?i_str ?ea_NoText ?ea_NoBox ?ea_RailError ?ea_NoReason ?ea_NoRow ?ea_NoErrand ?ea_NoRing ?ea_NoYard ?ea_NoWord ?ex_NoText ?ex_NoBox ?ex_RailError ?ex_NoWord ?em_RailError_NoBox ?em_RailError_NoWord ?q1_NoBox ?q2_NoBox ?q3_NoBox ?q4_NoBox ?q5_NoBox ?q1_NoWord ?q2_NoWord ?q3_NoWord ?q4_NoWord ?q5_NoWord ?ek_NoReason_NoBox ?ek_NoReason_NoWord ?ek_NoRow_NoBox ?ek_NoRow_NoWord ?ek_NoErrand_NoBox ?ek_NoErrand_NoWord ?ek_NoText_NoBox ?ek_NoText_NoWord ?ek_NoRing_NoBox ?ek_NoRing_NoWord ?ek_NoYard_NoBox ?ek_NoYard_NoWord ?ek_NoBox_NoBox ?ek_NoBox_NoWord ?ek_NoWord_NoBox ?ek_NoWord_NoWord ?ek_ValueError_NoBox ?ek_ValueError_NoWord ?ga_FIGURES ?ga_HEADS ?gL_HEADS ?gM_HEADS ?gE_HEADS ?gR_HEADS ?aC_Desk ?aI_Desk ?iI_Desk ?lI_Desk ?cI_Desk ?kI_Desk ?pg_Desk ?hd_Desk ?po_Desk ?sa_Desk ?mk_Desk ?kc_Desk ?nA_Desk ?aM_Desk_change ?iM_Desk_change ?lM_Desk_change ?cM_Desk_change ?kM_Desk_change ?aM_Desk_say ?iM_Desk_say ?lM_Desk_say ?cM_Desk_say ?kM_Desk_say
    (case a0 => k_is); (case l0 => k_is); (case c0 => k_is); (case k0 => k_is)
    (case a1 => k_is); (case l1 => k_is); (case c1 => k_is); (case k1 => k_is)
    (case a2 => k_is); (case l2 => k_is); (case c2 => k_is); (case k2 => k_is)
    (case a3 => k_is); (case l3 => k_is); (case c3 => k_is); (case k3 => k_is)
    (case a4 => k_is); (case l4 => k_is); (case c4 => k_is); (case k4 => k_is)
    (case a5 => k_is); (case l5 => k_is); (case c5 => k_is); (case k5 => k_is)
    (case a6 => k_is); (case l6 => k_is); (case c6 => k_is); (case k6 => k_is)
    (case a7 => k_is); (case l7 => k_is); (case c7 => k_is); (case k7 => k_is)
    (case a8 => k_is); (case l8 => k_is); (case c8 => k_is); (case k8 => k_is)
    (case a9 => k_is); (case l9 => k_is); (case c9 => k_is); (case k9 => k_is)
    (case a10 => k_is); (case l10 => k_is); (case c10 => k_is); (case k10 => k_is)
    (case a11 => k_is); (case l11 => k_is); (case c11 => k_is); (case k11 => k_is)
    (case a12 => k_is); (case l12 => k_is); (case c12 => k_is); (case k12 => k_is)
    (case a13 => k_is); (case l13 => k_is); (case c13 => k_is); (case k13 => k_is)
    (case a14 => k_is); (case l14 => k_is); (case c14 => k_is); (case k14 => k_is)
    (case a15 => k_is); (case l15 => k_is); (case c15 => k_is); (case k15 => k_is)
    (case a16 => k_is); (case l16 => k_is); (case c16 => k_is); (case k16 => k_is)
    (case a17 => k_is); (case l17 => k_is); (case c17 => k_is); (case k17 => k_is)
    (case a18 => k_is); (case l18 => k_is); (case c18 => k_is); (case k18 => k_is)
    (case a19 => k_is); (case l19 => k_is); (case c19 => k_is); (case k19 => k_is)
    (case a20 => k_is); (case l20 => k_is); (case c20 => k_is); (case k20 => k_is)
    (case a21 => k_is); (case l21 => k_is); (case c21 => k_is); (case k21 => k_is)
    (case a22 => k_is); (case l22 => k_is); (case c22 => k_is); (case k22 => k_is)
    (case a23 => k_is); (case l23 => k_is); (case c23 => k_is); (case k23 => k_is)
    (case a24 => k_is); (case l24 => k_is); (case c24 => k_is); (case k24 => k_is)
    (case a25 => k_is); (case l25 => k_is); (case c25 => k_is); (case k25 => k_is)
    (case a26 => k_is); (case l26 => k_is); (case c26 => k_is); (case k26 => k_is)
    (case a27 => k_is); (case l27 => k_is); (case c27 => k_is); (case k27 => k_is)
    (case a28 => k_is); (case l28 => k_is); (case c28 => k_is); (case k28 => k_is)
    (case z_isinstance => k_is)
    (case z_bool => k_is)
    (case z_int => k_is)
    (case z_len => k_is)
    (case z_tuple => k_is)
    (case z_list => k_is)
    (case z_all => k_is)
    (case z_min => k_is)
    (case z_str => k_is)
    (case z_range => k_is)
    (case z_ValueError => k_is)
    (case i_int => intro t ht; cases t <;> first | (exact absurd rfl ht) | rfl | k_is)
    (case i_bool => intro t ht; cases t <;> first | (exact absurd rfl ht) | rfl | k_is)
    (case i_tuple => intro t ht; cases t <;> first | (exact absurd rfl ht) | rfl | k_is)
    (case i_list => intro t ht; cases t <;> first | (exact absurd rfl ht) | rfl | k_is)
    (case i_str => intro t ht; cases t <;> first | (exact absurd rfl ht) | rfl | k_is)
    (case ea_NoText => k_is)
    (case ea_NoBox => k_is)
    (case ea_RailError => k_is)
    (case ea_NoReason => k_is)
    (case ea_NoRow => k_is)
    (case ea_NoErrand => k_is)
    (case ea_NoRing => k_is)
    (case ea_NoYard => k_is)
    (case ea_NoWord => k_is)
    (case ex_NoText => k_exc)
    (case ex_NoBox => k_exc)
    (case ex_RailError => k_exc)
    (case ex_NoWord => k_exc)
    (case em_RailError_NoBox => k_is)
    (case em_RailError_NoWord => k_is)
    (case q1_NoBox => k_is)
    (case q2_NoBox => k_is)
    (case q3_NoBox => k_is)
    (case q4_NoBox => k_is)
    (case q5_NoBox => k_is)
    (case q1_NoWord => k_is)
    (case q2_NoWord => k_is)
    (case q3_NoWord => k_is)
    (case q4_NoWord => k_is)
    (case q5_NoWord => k_is)
    (case ek_NoReason_NoBox => first | kit_is | rfl)
    (case ek_NoReason_NoWord => first | kit_is | rfl)
    (case ek_NoRow_NoBox => first | kit_is | rfl)
    (case ek_NoRow_NoWord => first | kit_is | rfl)
    (case ek_NoErrand_NoBox => first | kit_is | rfl)
    (case ek_NoErrand_NoWord => first | kit_is | rfl)
    (case ek_NoText_NoBox => first | kit_is | rfl)
    (case ek_NoText_NoWord => first | kit_is | rfl)
    (case ek_NoRing_NoBox => first | kit_is | rfl)
    (case ek_NoRing_NoWord => first | kit_is | rfl)
    (case ek_NoYard_NoBox => first | kit_is | rfl)
    (case ek_NoYard_NoWord => first | kit_is | rfl)
    (case ek_NoBox_NoBox => first | kit_is | rfl)
    (case ek_NoBox_NoWord => first | kit_is | rfl)
    (case ek_NoWord_NoBox => first | kit_is | rfl)
    (case ek_NoWord_NoWord => first | kit_is | rfl)
    (case ek_ValueError_NoBox => first | kit_is | rfl)
    (case ek_ValueError_NoWord => first | kit_is | rfl)
    (case ga_FIGURES => k_is)
    (case ga_HEADS => k_is)
    (case gL_HEADS => k_is)
    (case gM_HEADS => rfl)
    (case gE_HEADS => exact ⟨rfl, rfl, rfl⟩)
    (case gR_HEADS => exact .cons rfl ⟨_, rfl⟩ (.cons rfl ⟨_, rfl⟩ (.cons rfl ⟨_, rfl⟩ (.nil))))
    (case aC_Desk => k_is)
    (case aI_Desk => k_is)
    (case iI_Desk => k_is)
    (case lI_Desk => k_is)
    (case cI_Desk => k_is)
    (case kI_Desk => k_is)
    (case pg_Desk => k_is)
    (case hd_Desk => k_is)
    (case po_Desk => k_is)
    (case sa_Desk => k_is)
    (case mk_Desk => k_is)
    (case kc_Desk => k_is)
    (case nA_Desk => k_is)
    (case aM_Desk_change => k_is)
    (case iM_Desk_change => k_is)
    (case lM_Desk_change => k_is)
    (case cM_Desk_change => k_is)
    (case kM_Desk_change => k_is)
    (case aM_Desk_say => k_is)
    (case iM_Desk_say => k_is)
    (case lM_Desk_say => k_is)
    (case cM_Desk_say => k_is)
    (case kM_Desk_say => k_is)
#print axioms PySem.Challenge.cw_hookrail_k75_rows_refused_holds
