import PyProof.Rows.All
import Wide.All
import OpenK.AllK
import Wide.FinOn
import Lean
import PyProof.EqAt
import PyProof.EqKinds
import PyProof.TupleCall
import PySem.SetOps
import KE.KDictSum
import KE.KDictList
import PyProof.ZipIter
import KE.KFind
import PyProof.MaxThree
import PyProof.Rows.IntMath
import PyProof.EnumMake
import PyProof.Rows.EnumRows
import PySem.Challenge.RW_hookrail_k43_whole_reasons_weigh_no_more
set_option Elab.async false
set_option linter.all false
set_option maxRecDepth 100000
section
local macro_rules|`(tactic|omega)=>`(tactic|lia)
set_option hygiene false
section
variable{α β γ:Sort _}{q:Prop}
section
variable{a b c d:Prop}
theorem o'02(h:a∧b)(f:a→b→q):q:=f h.1 h.2
theorem o'03(h:a∧b∧c)(f:a→b→c→q):q:=f h.1 h.2.1 h.2.2
theorem o'04(h:a∧b∧c∧d)(f:a→b→c→d→q):q:=f h.1 h.2.1 h.2.2.1 h.2.2.2
end
section
variable{a b c d:α→Prop}
theorem o'11(h:∃x,a x)(f:∀x,a x→q):q:=h.elim f
theorem o'12(h:∃x,a x∧b x)(f:∀x,a x→b x→q):q:=h.elim λx h=>o'02 h (f x)
theorem o'13(h:∃x,a x∧b x∧c x)(f:∀x,a x→b x→c x→q):q:=h.elim λx h=>o'03 h (f x)
theorem o'14(h:∃x,a x∧b x∧c x∧d x)(f:∀x,a x→b x→c x→d x→q):q:=h.elim λx h=>o'04 h (f x)
end
section
variable{a b c d:α→β→Prop}
theorem o'21(h:∃x y,a x y)(f:∀x y,a x y→q):q:=h.elim λx h=>o'11 h (f x)
theorem o'22(h:∃x y,a x y∧b x y)(f:∀x y,a x y→b x y→q):q:=h.elim λx h=>o'12 h (f x)
theorem o'23(h:∃x y,a x y∧b x y∧c x y)(f:∀x y,a x y→b x y→c x y→q):q:=h.elim λx h=>o'13 h (f x)
theorem o'24(h:∃x y,a x y∧b x y∧c x y∧d x y)(f:∀x y,a x y→b x y→c x y→d x y→q):q:=h.elim λx h=>o'14 h (f x)
end
variable{a b c d:α→β→γ→Prop}
theorem o'31(h:∃x y z,a x y z)(f:∀x y z,a x y z→q):q:=h.elim λx h=>o'21 h (f x)
theorem o'32(h:∃x y z,a x y z∧b x y z)(f:∀x y z,a x y z→b x y z→q):q:=h.elim λx h=>o'22 h (f x)
theorem o'33(h:∃x y z,a x y z∧b x y z∧c x y z)(f:∀x y z,a x y z→b x y z→c x y z→q):q:=h.elim λx h=>o'23 h (f x)
theorem o'34(h:∃x y z,a x y z∧b x y z∧c x y z∧d x y z)(f:∀x y z,a x y z→b x y z→c x y z→d x y z→q):q:=h.elim λx h=>o'24 h (f x)
end
theorem oC{q:Prop}(h:(q→False)→False):q:=Classical.byContradiction h
open Lean in
local macro_rules|`(tactic|obtain ⟨$s,*⟩:=$e)=>do
 let s:=s.getElems
 let n:=s.size
 if n<2 then Macro.throwUnsupported
 let mut w:Array Term:=#[]
 let mut p:=#[]
 for a in s do
  let z:=mkIdent (.mkSimple s!"z_{w.size}")
  let r←`(tactic|rcases $z:ident with $a)
  match a with
  |`(Parser.Tactic.rcasesPatLo|$x:ident)=>
   if x.getId==`rfl then
    w:=w.push z
    p:=p.push r
   else w:=w.push x
  |`(Parser.Tactic.rcasesPatLo|_)=>w:=w.push (←`(_))
  |`(Parser.Tactic.rcasesPatLo|⟨$b,*⟩)=>
   w:=w.push z
   p:=p.push (←`(tactic|obtain ⟨$b,*⟩:=$z:ident))
  |_=>
   w:=w.push z
   p:=p.push r
 let g:Term→Nat→Nat→Array Term→MacroM (TSyntax `tactic):=λe i k w=>do
  let t←`(tactic|refine $(mkIdent (.mkSimple s!"o'{i}{k}")) $e ?_)
  let t←if e.raw.isIdent then `(tactic|($t;clear $(⟨e.raw⟩):ident)) else pure t
  `(tactic|($t;intro $w*))
 let mut t:=#[]
 for i in [0:min 4 n] do
  let mut k:=n-i
  let mut y:=w
  let mut e:=e
  let mut i:=i
  let mut r:=#[]
  while k>4 do
   let z:=mkIdent (.mkSimple s!"y_{k}")
   r:=r.push (←g e i 4 ((y.extract 0 (i+3)).push z))
   y:=y.extract (i+3) y.size
   k:=k-3
   i:=0
   e:=z
  r:=r.push (←g e i k y)
  t:=t.push (←`(tactic|($[$r];*)))
 let mut u←`(tactic|first $[|$t:tactic]*)
 for v in p do u←`(tactic|$u<;>$v)
 `(tactic|first|($u:tactic)|(refine oC λz_=>?_;rcases $e:term with ⟨$s,*⟩<;>refine z_ ?_<;>clear z_))
local macro_rules|`(tactic|cases $h:ident)=>do
 let c←#["h_1","h_2","h_3"].mapM λx=>do let x:=Lean.mkIdent (.mkSimple x);`(tactic|first|subst $x:ident|cases $x:ident)
 let a:=c[0]!
 let b:=c[1]!
 let c:=c[2]!
 `(tactic|first|((fail_if_success fail_if_success have h_0:(type_of% $h):=by with_reducible rfl);clear $h:ident)|(injection $h:ident with h_1 h_2 h_3;$a;$b;$c)|(injection $h:ident with h_1 h_2;$a;$b)|(injection $h:ident with h_1;$a)|cases ($h))
set_option hygiene true
set_option tactic.hygienic false
namespace L2
open PySem PySem.Spec PyProof.Rows
noncomputable abbrev Key:=Sum Int Str
noncomputable def keyIs:Key→Value→Bool
  | .inl k,v=>Value.isInt k v
  | .inr x,v=>Value.isStrOf x v
noncomputable def keyH (w:World):Key→Int
  | .inl k=>hashInt k
  | .inr x=>hashStr w x
theorem keyIs_shape:∀ {k:Key} {v:Value},keyIs k v=true→(∃ i t,k=Sum.inl i∧v=Value.int i t)∨(∃ x t,k=Sum.inr x∧v=Value.str x t)
  | .inl i,v,h=>by
    obtain ⟨t,e⟩:=Value.isInt_shape (k:=i) (v:=v) h
    exact .inl ⟨i,t,rfl,e⟩
  | .inr x,v,h=>by
    obtain ⟨t,e⟩:=Value.isStrOf_shape (x:=x) (v:=v) h
    exact .inr ⟨x,t,rfl,e⟩
theorem keyIs_int (i:Int) (t:Tok):keyIs (.inl i) (.int i t)=true:=by simp [keyIs,Value.isInt]
theorem keyIs_str (x:Str) (t:Tok):keyIs (.inr x) (.str x t)=true:=by simp [keyIs,Value.isStrOf]
theorem key_ll (a b:Int):decide ((Sum.inl a:Key)=Sum.inl b)=(a == b):=by
  by_cases e:a=b
  · subst e;simp
  · have h:¬(Sum.inl a:Key)=Sum.inl b:=fun q=>e (Sum.inl.inj q)
    rw [decide_eq_false h]
    exact (beq_eq_false_iff_ne.mpr e).symm
theorem key_rr (a b:Str):decide ((Sum.inr a:Key)=Sum.inr b)=decide (a=b):=by
  by_cases e:a=b
  · subst e;simp
  · have h:¬(Sum.inr a:Key)=Sum.inr b:=fun q=>e (Sum.inr.inj q)
    rw [decide_eq_false h,decide_eq_false e]
theorem key_lr (a:Int) (b:Str):decide ((Sum.inl a:Key)=Sum.inr b)=false:=decide_eq_false (fun q=>nomatch q)
theorem key_rl (a:Str) (b:Int):decide ((Sum.inr a:Key)=Sum.inl b)=false:=decide_eq_false (fun q=>nomatch q)
noncomputable def mixKind (prog:Program) (w:World):PySem.KeyKind prog w Key where
  is:=keyIs
  hash:=keyH w
  inj:=fun v a b ha hb=>by
    rcases keyIs_shape ha with ⟨i,t,rfl,rfl⟩|⟨x,t,rfl,rfl⟩
    · rcases keyIs_shape hb with ⟨j,u,rfl,e⟩|⟨y,u,rfl,e⟩
      · injection e with e1 _;rw [e1]
      · exact nomatch e
    · rcases keyIs_shape hb with ⟨j,u,rfl,e⟩|⟨y,u,rfl,e⟩
      · exact nomatch e
      · injection e with e1 _;rw [e1]
  byValue:=fun k v h=>by
    rcases keyIs_shape h with ⟨i,t,rfl,rfl⟩|⟨x,t,rfl,rfl⟩ <;> rfl
  pyHash:=fun hv h=>by
    rcases keyIs_shape hv with ⟨i,t,rfl,rfl⟩|⟨x,t,rfl,rfl⟩
    · exact wpAny_pyHash_int h
    · exact wpAny_pyHash_str h
  eqBool:=fun hu hv h=>by
    rcases keyIs_shape hu with ⟨i,t,rfl,rfl⟩|⟨x,t,rfl,rfl⟩
    · rcases keyIs_shape hv with ⟨j,u,rfl,rfl⟩|⟨y,u,rfl,rfl⟩
      · rw [key_ll] at h;exact wpAny_eqBool_int h
      · rw [key_lr] at h;exact SeqAt.EqAt.int_str i t y u _ _ _ _ h
    · rcases keyIs_shape hv with ⟨j,u,rfl,rfl⟩|⟨y,u,rfl,rfl⟩
      · rw [key_rl] at h;exact SeqAt.EqAt.str_int x t j u _ _ _ _ h
      · rw [key_rr] at h;exact wpAny_eqBool_str h
  «strs»:=fun k x t v h=>by
    rcases keyIs_shape h with ⟨i,u,rfl,e⟩|⟨y,u,rfl,e⟩
    · exact nomatch e
    · injection e with e1 _
      subst e1
      cases v <;> rfl
theorem mixKind_int (prog:Program) (w:World) (i:Int) (t:Tok):(mixKind prog w).is (.inl i) (.int i t)=true:=keyIs_int i t
theorem mixKind_str (prog:Program) (w:World) (x:Str) (t:Tok):(mixKind prog w).is (.inr x) (.str x t)=true:=keyIs_str x t
end L2
namespace L2
open PySem PySem.Spec PyProof.Rows
inductive V where
  | non|bl (b:Bool)|int (i:Int)|str (x:Str)|byt (b:Array UInt8)|flt (b:UInt64)|ref (a:Addr)|ty (n:String)
  deriving DecidableEq
def RelV:V→Value→Prop
  | .non,u=>u=Value.none
  | .bl b,u=>u=Value.bool b
  | .int i,u=>∃ t,u=Value.int i t
  | .str x,u=>∃ t,u=Value.str x t
  | .byt b,u=>∃ t,u=Value.bytes b t
  | .flt b,u=>∃ t,u=Value.float b t
  | .ref a,u=>u=Value.ref a
  | .ty n,u=>u=Value.type n
abbrev Vals:List V→List Value→Prop:=Paired RelV
theorem Vals.length {xs:List V} {us:List Value} (r:Vals xs us):xs.length=us.length:=Paired.length r
theorem Vals.get:∀ {xs:List V} {us:List Value} {i:Nat} {x:V},Vals xs us→xs[i]?=some x→∃ u,us[i]?=some u∧RelV x u
  | _,_,_,_,.nil,e=>by simp at e
  | _,_,0,_,.cons r _,e=>by simp at e;subst e;exact ⟨_,rfl,r⟩
  | _,_,i+1,x,.cons _ t,e=>by
    obtain ⟨u,h1,h2⟩:=Vals.get (i:=i) (x:=x) t (by simpa using e)
    exact ⟨u,by simpa using h1,h2⟩
theorem Vals.set {x:V} {u:Value} (r:RelV x u):∀ {xs:List V} {us:List Value} (i:Nat),Vals xs us→Vals (xs.set i x) (us.set i u)
  | _,_,_,.nil=>.nil
  | _,_,0,.cons _ t=>.cons r t
  | _,_,i+1,.cons q t=>.cons q (Vals.set r i t)
theorem Vals.append:∀ {xs ys:List V} {us ws:List Value},Vals xs us→Vals ys ws→Vals (xs++ys) (us++ws)
  | _,_,_,_,.nil,s=>s
  | _,_,_,_,.cons r t,s=>.cons r (Vals.append t s)
theorem Vals.take:∀ {xs:List V} {us:List Value} (n:Nat),Vals xs us→Vals (xs.take n) (us.take n)
  | _,_,0,_=>.nil
  | _,_,_+1,.nil=>.nil
  | _,_,n+1,.cons r t=>.cons r (Vals.take n t)
theorem Vals.drop:∀ {xs:List V} {us:List Value} (n:Nat),Vals xs us→Vals (xs.drop n) (us.drop n)
  | _,_,0,r=>r
  | _,_,_+1,.nil=>.nil
  | _,_,n+1,.cons _ t=>Vals.drop n t
def RelO:Option V→Option Value→Prop
  | some v,some u=>RelV v u
  | none,none=>True
  | _,_=>False
def KV {κ:Type}:List (κ×V)→List (κ×Value)→Prop:=Paired fun (p:κ×V) (q:κ×Value)=>p.1=q.1∧RelV p.2 q.2
noncomputable def kV:Key→V
  | .inl i=>.int i
  | .inr x=>.str x
inductive HO where
  /-- a list -/
  | lst (xs:List V)
  /-- a tuple (never changes) -/
  | tup (xs:List V)
  /-- a dict whose keys are ints and texts;one whose keys are tuples of ints and texts (the empty one is both) -/
  | dK (kvs:List (Key×V))|dT (kvs:List (List Key×V))
  /-- a set of ints: its members,its size -/
  | set (S:Int→Bool) (n:Nat)
  /-- an instance of the class at C,its dict at dx,its attributes -/
  | ins (C dx:Addr) (fs:List (Str×V))
  /-- the dict of the instance at x -/
  | own (x:Addr)
  /-- the dict of an exception -/
  | xd (fs:List (Str×V))
  /-- a bound method,f of x -/
  | met (f x:Addr)
  /-- a range object lo,lo+1,.. below hi -/
  | rng (lo hi:Int)
  /-- a thing that is known to the object (the script;a dict while a loop walks it): read,never written while it is so -/
  | frz (o:Obj) (u:HO)
  /-- a code object's table -/
  | tbl (ps:Array Value)
  /-- any other thing,by what is true of its one object (a def of one's own: SetO a S n:=HO.ext fun h=>..) -/
  | ext (φ:Heap→Prop)
noncomputable abbrev Hp:=Addr→Option HO
noncomputable def upd (H:Hp) (a:Addr) (o:HO):Hp:=fun b=>if b=a then some o else H b
theorem upd_same {H:Hp} {a:Addr} {o:HO}:upd H a o a=some o:=by unfold upd;rw [if_pos rfl]
theorem upd_ne {H:Hp} {a b:Addr} {o:HO} (h:b≠a):upd H a o b=H b:=by unfold upd;rw [if_neg h]
theorem ne_of {H:Hp} {a b:Addr} {o u:HO} (h:H a=some o) (h':H b=some u) (d:o≠u):a≠b:=by
  intro e;subst e;rw [h] at h';exact d (Option.some.inj h')
theorem ne_of_none {H:Hp} {a b:Addr} {o:HO} (h:H a=some o) (h':H b=none):a≠b:=by
  intro e;subst e;rw [h] at h';cases h'
section
variable (P:Program) (w:World)
def ObjOk (H:Hp) (h:Heap) (a:Addr):HO→Prop
  | .lst xs=>xs.length≤sizeLine∧∃ (its:List Value) (n:Nat),Vals xs its∧h.get? a=some { cls:=.type "list", data:=.seq its.toArray n }
  | .tup xs=>xs.length≤sizeLine∧∃ its:List Value,Vals xs its∧IsTup h a its.toArray
  | .dK kvs=>kvs.length≤sizeLine∧(a == sysModules)=false∧∃ vs,KV kvs vs∧h.DictOf (mixKind P w) a vs
  | .dT kvs=>kvs.length≤sizeLine∧(a == sysModules)=false∧∃ xs:List (List Key×Addr×Value),
      Paired (fun (p:List Key×V) (q:List Key×Addr×Value)=>p.1=q.1∧H q.2.1=some (.tup (p.1.map kV))∧RelV p.2 q.2.2) kvs xs ∧
      ∃ o es ep,h.get? a=some o∧o.ExactDict∧o.data=.dict es ep∧es.toList=xs.map (entryOfKey (tupleKind (mixKind P w)))∧(xs.map (·.1)).Nodup
  | .set S n=>h.SetOf (intKind P w) a S n
  | .ins C dx fs=>H dx=some (.own a)∧fs.length≤1000∧dx≠a∧h.get? a=some (PySem.W.instObj C dx) ∧
      ∃ mA,h.Ns1 dx mA∧(∀ f,RelO (fs.lookup f) (mA f))∧PySem.Within mA (fs.map (·.1))
  | .own _=>∃ o,h.get? a=some o
  | .xd fs=>∃ mA,h.Ns1 a mA∧∀ f,RelO (fs.lookup f) (mA f)
  | .rng lo hi=>∃ t u v,h.get? a=some { cls:=.type "range", data:=.fields #[.int lo t,.int hi u,.int 1 v] }
  | .frz o u=>h.get? a=some o∧ObjOk H h a u
  | .tbl ps=>h.get? a=some { cls:=.none,data:=.fields ps }
  | .met f x=>h.get? a=some (PySem.W.methodObj (.ref f) (.ref x))
  | .ext φ=>φ h∧(∃ o,h.get? a=some o)∧∀ h1 h2:Heap,φ h1→(∀ o,h1.get? a=some o→h2.get? a=some o)→φ h2
def HOk (H:Hp) (h:Heap):Prop:=∀ a o,H a=some o→ObjOk P w H h a o
end
section
variable {P:Program} {w:World} {H H':Hp} {h h':Heap} {a:Addr} {o:HO}
theorem ObjOk.lt (x:ObjOk P w H h a o):a < h.objs.size:=by
  cases o with
  | lst xs=>obtain ⟨_,_,_,_,e⟩:=x;exact Heap.lt_size e
  | tup xs=>obtain ⟨_,_,_,p⟩:=x;exact p.lt
  | dK kvs=>obtain ⟨_,_,_,_,o,_,_,e,_⟩:=x;exact Heap.lt_size e
  | dT kvs=>obtain ⟨_,_,_,_,o,_,_,e,_⟩:=x;exact Heap.lt_size e
  | set S n=>obtain ⟨o,_,_,_,e,_⟩:=x;exact Heap.lt_size e
  | ins C dx fs=>obtain ⟨_,_,_,e,_⟩:=x;exact Heap.lt_size e
  | own y=>obtain ⟨_,e⟩:=x;exact Heap.lt_size e
  | xd fs=>obtain ⟨_,⟨_,_,_,e,_⟩,_⟩:=x;exact Heap.lt_size e
  | rng lo hi=>obtain ⟨_,_,_,e⟩:=x;exact Heap.lt_size e
  | frz ob u=>obtain ⟨e,_⟩:=x;exact Heap.lt_size e
  | tbl ps=>exact Heap.lt_size (show h.get? a=some _ from x)
  | met f y=>exact Heap.lt_size (show h.get? a=some _ from x)
  | ext φ=>obtain ⟨_,⟨_,e⟩,_⟩:=x;exact Heap.lt_size e
theorem Paired.mapP {α β:Type} {F G:α→β→Prop}:∀ {l₁:List α} {l₂:List β},Paired F l₁ l₂→(∀ a b,F a b→G a b)→Paired G l₁ l₂
  | _,_,.nil,_=>.nil
  | _,_,.cons r t,f=>.cons (f _ _ r) (Paired.mapP t f)
theorem ObjOk.stay (x:ObjOk P w H h a o) (k:∀ b u,(b=a∨H b=some (.own a))→h.get? b=some u→h'.get? b=some u)
    (ho:∀ b,H b=some (.own a)→H' b=some (.own a)) (ht:∀ b xs,H b=some (.tup xs)→H' b=some (.tup xs)):ObjOk P w H' h' a o:=by
  induction o with
  | lst xs=>obtain ⟨z,its,n,r,e⟩:=x;exact ⟨z,its,n,r,k _ _ (.inl rfl) e⟩
  | tup xs=>obtain ⟨z,its,r,ob,e,c⟩:=x;exact ⟨z,its,r,ob,k _ _ (.inl rfl) e,c⟩
  | dK kvs=>obtain ⟨z,y,vs,r,ob,es,ep,e,c⟩:=x;exact ⟨z,y,vs,r,ob,es,ep,k _ _ (.inl rfl) e,c⟩
  | dT kvs =>
    obtain ⟨z,y,xs,r,ob,es,ep,e,c⟩:=x
    exact ⟨z,y,xs,Paired.mapP r fun p q z=>⟨z.1,ht _ _ z.2.1,z.2.2⟩,ob,es,ep,k _ _ (.inl rfl) e,c⟩
  | set S n=>obtain ⟨ob,es,ep,t,e,c⟩:=x;exact ⟨ob,es,ep,t,k _ _ (.inl rfl) e,c⟩
  | ins C dx fs =>
    obtain ⟨d,z,ne,e,mA,⟨od,es,ep,e2,c⟩,r⟩:=x
    exact ⟨ho _ d,z,ne,k _ _ (.inl rfl) e,mA,⟨od,es,ep,k _ _ (.inr d) e2,c⟩,r⟩
  | own y=>obtain ⟨ob,e⟩:=x;exact ⟨ob,k _ _ (.inl rfl) e⟩
  | xd fs=>obtain ⟨mA,⟨od,es,ep,e,c⟩,r⟩:=x;exact ⟨mA,⟨od,es,ep,k _ _ (.inl rfl) e,c⟩,r⟩
  | rng lo hi=>obtain ⟨t,u,v,e⟩:=x;exact ⟨t,u,v,k _ _ (.inl rfl) e⟩
  | frz ob u ih=>obtain ⟨e,q⟩:=x;exact ⟨k _ _ (.inl rfl) e,ih q⟩
  | tbl ps =>
    have e:h.get? a=some { cls:=.none,data:=.fields ps }:=x
    show h'.get? a=some { cls:=.none,data:=.fields ps }
    exact k a _ (.inl rfl) e
  | met f y =>
    have e:h.get? a=some (PySem.W.methodObj (.ref f) (.ref y)):=x
    show h'.get? a=some (PySem.W.methodObj (.ref f) (.ref y))
    exact k a _ (.inl rfl) e
  | ext φ=>obtain ⟨p,⟨o,e⟩,st⟩:=x;exact ⟨st _ _ p fun o q=>k _ _ (.inl rfl) q,⟨o,k _ _ (.inl rfl) e⟩,st⟩
theorem HOk.lt (x:HOk P w H h) (e:H a=some o):a < h.objs.size:=(x a o e).lt
theorem HOk.fresh (x:HOk P w H h) (e:h.objs.size≤a):H a=none:=by
  cases q:H a with
  | none=>rfl
  | some u=>exact absurd (Nat.lt_of_lt_of_le (x.lt q) e) (Nat.lt_irrefl _)
theorem HOk.kept (x:HOk P w H h) (k:∀ b u,h.get? b=some u→h'.get? b=some u):HOk P w H h':=fun a o e =>
  (x a o e).stay (fun b u _ q=>k b u q) (fun _ q=>q) fun _ _ q=>q
theorem HOk.laid (x:HOk P w H h) (k:∀ b u,h.get? b=some u→h'.get? b=some u) (hp:h.objs.size≤a) (new:ObjOk P w (upd H a o) h' a o):HOk P w (upd H a o) h':=fun b u e=>by
  have hn:=x.fresh hp
  by_cases hb:b=a
  · subst hb;rw [upd_same] at e;cases e;exact new
  · rw [upd_ne hb] at e
    exact (x b u e).stay (fun c v _ q=>k c v q) (fun c q=>by rw [upd_ne (ne_of_none q hn)];exact q) fun c xs q=>by rw [upd_ne (ne_of_none q hn)];exact q
end
def Rd (H:Hp) (a:Addr) (u:HO):Prop:=H a=some u∨∃ o,H a=some (.frz o u)
theorem Rd.ok {P:Program} {w:World} {H:Hp} {h:Heap} {a:Addr} {u:HO} (r:Rd H a u) (x:HOk P w H h):ObjOk P w H h a u:=by
  rcases r with r|⟨o,r⟩
  · exact x a u r
  · obtain ⟨_,q⟩:=x a _ r
    exact q
def Mut:Option HO→Prop
  | some (.lst _)=>True
  | some (.dK _)=>True
  | some (.dT _)=>True
  | some (.set _ _)=>True
  | some (.ins _ _ _)=>True
  | some (.ext _)=>True
  | _=>False
section
variable {P:Program} {w:World} {H:Hp} {h h':Heap} {x e:Addr} {o':HO}
theorem HOk.write (ok:HOk P w H h) (mu:Mut (H x)) (he:e=x∨H e=some (.own x)) (k:∀ b u,b≠e→h.get? b=some u→h'.get? b=some u) (heo:∃ u,h'.get? e=some u)
    (new:ObjOk P w (upd H x o') h' x o'):HOk P w (upd H x o') h':=fun b u q=>by
  have nown:∀ c y,H c=some (.own y)→c≠x:=fun c y r z=>by subst z;rw [r] at mu;exact mu
  have ntup:∀ c xs,H c=some (.tup xs)→c≠x:=fun c xs r z=>by subst z;rw [r] at mu;exact mu
  by_cases hb:b=x
  · subst hb;rw [upd_same] at q;cases q;exact new
  · rw [upd_ne hb] at q
    by_cases hbe:b=e
    · have q':H b=some (.own x):=by
        rcases he with z|z
        · exact absurd (hbe.trans z) hb
        · rw [hbe];exact z
      rw [q] at q';cases q'
      obtain ⟨v,hv⟩:=heo
      exact ⟨v,by rw [hbe];exact hv⟩
    · refine (ok b u q).stay (fun c v hc r=>k c v ?_ r) (fun c r=>by rw [upd_ne (nown c b r)];exact r) fun c xs r=>by rw [upd_ne (ntup c xs r)];exact r
      rcases hc with rfl|hc
      · exact hbe
      · rintro rfl
        rcases he with z|z
        · exact nown c b hc z
        · rw [hc] at z;cases z;exact hb rfl
end
structure Un (fs ex:List Addr) (H H':Hp) (h h':Heap):Prop where
  keep:∀ b o,h.get? b=some o→H b=none→b∉fs→b∉ex→h'.get? b=some o
  slot:∀ b o,h.get? b=some o→H b=none→b∈fs→b∉ex→∃ sl,h'.get? b=some { o with slots:=sl }
  free:∀ b o,h.get? b=some o→H b=none→b∉ex→H' b=none
  there:∀ b o,h.get? b=some o→b∉ex→∃ o',h'.get? b=some o'
  tups:∀ b xs,H b=some (.tup xs)→H' b=some (.tup xs)
  frzs:∀ b o u,H b=some (.frz o u)→H' b=some (.frz o u)
  tbls:∀ b ps,H b=some (.tbl ps)→∃ more,H' b=some (.tbl (ps++more))
section
variable {fs fs' ex ex':List Addr} {H H1 H2:Hp} {h h1 h2 h':Heap} {a x e:Addr} {o:HO}
theorem Un.any (u:Un fs ex H H1 h h1) {b:Addr} {ob:Obj} (q:h.get? b=some ob) (n:H b=none) (hx:b∉ex):∃ sl,h1.get? b=some { ob with slots:=sl }:=by
  by_cases hb:b∈fs
  · exact u.slot b ob q n hb hx
  · exact ⟨ob.slots,u.keep b ob q n hb hx⟩
theorem Un.kept (k:∀ b u,h.get? b=some u→h'.get? b=some u):Un fs ex H H h h' :=
  ⟨fun b ob q _ _ _=>k b ob q,fun b ob q _ _ _=>⟨ob.slots,k b ob q⟩,fun _ _ _ n _=>n,fun b ob q _=>⟨ob,k b ob q⟩,fun _ _ q=>q,fun _ _ _ q=>q,fun _ ps q=>⟨#[],by rw [q];simp⟩⟩
theorem Un.refl:Un fs ex H H h h:=Un.kept fun _ _ q=>q
theorem Un.laid (k:∀ b u,h.get? b=some u→h'.get? b=some u) (hp:h.objs.size≤a) (hn:H a=none):Un fs ex H (upd H a o) h h' where
  keep:=fun b u q _ _ _=>k b u q
  slot:=fun b u q _ _ _=>⟨u.slots,k b u q⟩
  free:=fun b u q n _=>by rw [upd_ne (Nat.ne_of_lt (Nat.lt_of_lt_of_le (Heap.lt_size q) hp))];exact n
  there:=fun b u q _=>⟨u,k b u q⟩
  tups:=fun b xs q=>by rw [upd_ne (ne_of_none q hn)];exact q
  frzs:=fun b u xs q=>by rw [upd_ne (ne_of_none q hn)];exact q
  tbls:=fun b ps q=>⟨#[],by rw [upd_ne (ne_of_none q hn),q];simp⟩
theorem Un.write (mu:Mut (H x)) (he:e=x∨H e=some (.own x)) (k:∀ b u,b≠e→h.get? b=some u→h'.get? b=some u) (heo:∃ u,h'.get? e=some u):Un fs ex H (upd H x o) h h':=by
  have hx:∀ b,H b=none→b≠x:=fun b n z=>by subst z;rw [n] at mu;exact mu
  have hb:∀ b,H b=none→b≠e:=fun b n z=>by
    subst z
    rcases he with r|r
    · exact hx b n r
    · rw [n] at r;cases r
  have hm:∀ b u,H b=some u→¬Mut (some u)→b≠x:=fun b u q nm z=>by subst z;rw [q] at mu;exact nm mu
  refine ⟨fun b u q n _ _=>k b u (hb b n) q,fun b u q n _ _=>⟨u.slots,k b u (hb b n) q⟩,fun b u q n _=>by rw [upd_ne (hx b n)];exact n,fun b u q _=>?_,
    fun b xs q=>by rw [upd_ne (hm b _ q fun z=>z)];exact q,fun b u xs q=>by rw [upd_ne (hm b _ q fun z=>z)];exact q,fun b ps q=>⟨#[],by rw [upd_ne (hm b _ q fun z=>z),q];simp⟩⟩
  by_cases hbe:b=e
  · subst hbe;exact heo
  · exact ⟨u,k b u hbe q⟩
end
noncomputable def trk (h:Heap) (H:Hp):List Addr:=(List.range h.objs.size).filter fun a=>(H a).isSome
noncomputable def hidT (h:Heap) (H:Hp):Heap:=PySem.W.hideAll h (trk h H)
theorem hidT_size (h:Heap) (H:Hp):(hidT h H).objs.size=h.objs.size:=PySem.W.hideAll_size _ _
theorem hidT_get {h:Heap} {H:Hp} {b:Addr} {o:Obj} (e:h.get? b=some o) (n:H b=none):(hidT h H).get? b=some o :=
  PySem.W.hideAll_get _ e fun hm=>by
    have q:(H b).isSome=true:=(List.mem_filter.mp hm).2
    rw [n] at q;simp at q
theorem of_hidT {h:Heap} {H:Hp} {b:Addr} {o:Obj} (e:(hidT h H).get? b=some o):h.get? b=some o∧H b=none:=by
  have e':h.get? b=some o:=PySem.W.of_hideAll (trk h H) e
  refine ⟨e',?_⟩
  cases q:H b with
  | none=>rfl
  | some x =>
    have hm:b∈trk h H:=List.mem_filter.mpr ⟨List.mem_range.mpr (Heap.lt_size e'),by simp [q]⟩
    have z:(hidT h H).get? b=none:=PySem.W.hideAll_none (trk h H) hm
    rw [z] at e;cases e
noncomputable def allNews (g h:Heap) (L:Addr):List (Addr×Obj):=(List.range h.objs.size).filterMap fun a=>if a=L∨(g.get? a).isSome=true then none else (h.get? a).map fun o=>(a,o)
noncomputable def rest (g h:Heap) (L d:Addr):List (Addr×Obj):=(allNews g h L).filter fun p=>decide (p.1≠d)
end L2
namespace L2
open PySem PySem.Spec PyProof.Rows
structure Mod (K:PySem.W.Frag) (mg:Str→Option Value) (base:Heap):Prop where
  kin:K.In base
  glob:base.Ns mainGlobals mg
  blt:∃ mb,base.Ns builtinsNs mb∧∀ x:Str,x ≠ "__name__" → mb x=bootBuiltins x
  nolimit:base.NoLimit
structure Cx where
  prog:Program
  w:World
  K:PySem.W.Frag
  mg:Str→Option Value
  base:Heap
  A:Around
  N:List Str
  s₀:Shared
  H₀:Hp
  env:Env
  outer:List Env
  stack:List Env
  ex:List Addr
  fn:Str→Bool
  calm:Bool
  pn:List (Addr×Obj)
  xe:Value→Shared→Prop
noncomputable def frs (l:List Env):List Addr:=l.filterMap (·.frame)
noncomputable abbrev Cx.fs (X:Cx):List Addr:=frs X.outer
def Vis (sc:Scope) (x:Str):Prop:=sc.names.lookup x=some .local∨sc.names.lookup x=some .cell∨sc.names.lookup x=some .free
def Loc (sc:Scope) (x:Str):Prop:=sc.names.lookup x=some .local∨sc.names.lookup x=some .cell
def Look (env:Env) (h:Heap) (m:Str→Option Value) (x:Str) (u:Value):Prop :=
  (env.kindOf x=some .local∧m x=some u)∨((env.kindOf x=some .cell∨env.kindOf x=some .free)∧∃ c,env.cells.lookup x=some c∧h.IsCell c (some u))
structure Cx.Ok (X:Cx):Prop where
  mod:Mod X.K X.mg X.base
  kind:X.env.scope.kind=.function
  glob:X.env.globals=mainGlobals
  blt:X.env.builtins=builtinsNs
  above:X.s₀.heap.objs.size≤X.env.locals
  inj:∀ x y c,X.env.cells.lookup x=some c→X.env.cells.lookup y=some c→x=y
  has:∀ x,(X.env.kindOf x=some .cell∨X.env.kindOf x=some .free)→∃ c,X.env.cells.lookup x=some c
  cab:∀ x c,X.fn x=true→X.env.cells.lookup x=some c→X.s₀.heap.objs.size≤c
  hd:X.calm=true→X.A.handled=none
  frames:X.A.frames=some X.stack
  stk:X.stack=X.outer∨(X.stack=X.env::X.outer∧X.env.frame=some X.env.locals)
  exf:∀ b∈X.ex,b≠X.env.locals∧∀ x c,X.env.cells.lookup x=some c→c≠b
  bs:∀ b o,X.base.get? b=some o→X.s₀.heap.get? b=some o∧X.H₀ b=none
  bsz:X.base.objs.size≤X.s₀.heap.objs.size
  noex:∀ b o,X.base.get? b=some o→b∉X.ex
  exfs:∀ b∈X.ex,b∉X.fs
  funs:X.s₀.heap.FunFrames X.base X.outer
  frf:∀ b∈X.fs,X.H₀ b=none
structure Inv (X:Cx) (pins:List (Addr×Obj)) (σ:List (Option V)) (H:Hp) (s:Shared):Prop where
  ok:X.Ok
  os:s.os=X.s₀.os
  bare:AllBare s.gens
  base:Un X.fs X.ex X.H₀ H X.s₀.heap s.heap
  loc:∃ m,s.heap.Ns X.env.locals m∧∀ (i:Nat) (x:Str) (v:V),X.N[i]?=some x→σ[i]?=some (some v)→Vis X.env.scope x→∃ u,RelV v u∧Look X.env s.heap m x u
  cell:∀ x c,X.env.cells.lookup x=some c→∃ v,s.heap.IsCell c v
  free:H X.env.locals=none
  freeC:∀ x c,X.env.cells.lookup x=some c→H c=none
  pin:∀ p∈X.pn++pins,s.heap.get? p.1=some p.2∧H p.1=none∧p.1≠X.env.locals∧p.1∉X.fs∧∀ v,p.2.data≠.cell v
  hok:HOk X.prog X.w H s.heap
  len:σ.length=X.N.length
section
variable {X:Cx} {pins:List (Addr×Obj)} {σ:List (Option V)} {H H':Hp} {s:Shared} {h':Heap}
theorem Cx.Ok.nofr (ok:X.Ok) {b:Addr} {o:Obj} (e:X.base.get? b=some o):b∉X.fs:=fun hb=>by
  have:=(ok.funs.mem hb).1
  rw [e] at this;cases this
theorem Inv.bs (I:Inv X pins σ H s):∀ b o,X.base.get? b=some o→s.heap.get? b=some o∧H b=none:=fun b o e =>
  ⟨I.base.keep b o (I.ok.bs b o e).1 (I.ok.bs b o e).2 (I.ok.nofr e) (I.ok.noex b o e),I.base.free b o (I.ok.bs b o e).1 (I.ok.bs b o e).2 (I.ok.noex b o e)⟩
theorem Inv.bk (I:Inv X pins σ H s):∀ b o,X.base.get? b=some o→s.heap.get? b=some o:=fun b o e=>(I.bs b o e).1
theorem Inv.mod (I:Inv X pins σ H s):Mod X.K X.mg X.base:=I.ok.mod
theorem Inv.kIn (I:Inv X pins σ H s):X.K.In s.heap:=I.ok.mod.kin.keeps I.bk
theorem Inv.lt (I:Inv X pins σ H s):X.env.locals < s.heap.objs.size:=let ⟨_,hn,_⟩:=I.loc;hn.lt
theorem Inv.sz (I:Inv X pins σ H s):X.s₀.heap.objs.size≤s.heap.objs.size:=Nat.le_trans I.ok.above (Nat.le_of_lt I.lt)
theorem Inv.nofs (I:Inv X pins σ H s) {a:Addr} (h:s.heap.objs.size≤a):a∉X.fs:=fun hb=>by
  obtain ⟨_,o,ho,_⟩:=I.ok.funs.mem hb
  exact absurd (Nat.lt_of_lt_of_le (Heap.lt_size ho) (Nat.le_trans I.sz h)) (Nat.lt_irrefl _)
theorem Inv.cne (I:Inv X pins σ H s):∀ x c,X.env.cells.lookup x=some c→c≠X.env.locals:=fun x c e z=>by
  obtain ⟨v,o,ho,hd⟩:=I.cell x c e
  obtain ⟨m,⟨o',es,ep,ho',hd',_⟩,_⟩:=I.loc
  rw [z,ho'] at ho;cases ho;rw [hd'] at hd;cases hd
theorem Inv.funs (I:Inv X pins σ H s):s.heap.FunFrames X.base X.outer:=by
  have all:∀ (l:List Env),(∀ b∈frs l,b∈X.fs)→X.s₀.heap.FunFrames X.base l→s.heap.FunFrames X.base l:=by
    intro l
    induction l with
    | nil=>intro _ _;trivial
    | cons env r ih =>
      intro hs hl
      obtain ⟨hk,⟨L,o,hf,hn,ho,hd⟩,hr⟩:=hl
      have hL:L∈X.fs:=hs L (by unfold frs;rw [List.filterMap_cons,hf];exact List.mem_cons_self)
      obtain ⟨sl,e⟩:=I.base.slot L o ho (I.ok.frf L hL) hL fun z=>I.ok.exfs L z hL
      exact ⟨hk,⟨L,_,hf,hn,e,hd⟩,ih (fun b hb=>hs b (by unfold frs;rw [List.filterMap_cons,hf];exact List.mem_cons_of_mem _ hb)) hr⟩
  exact all X.outer (fun _ hb=>hb) I.ok.funs
theorem Inv.stack (I:Inv X pins σ H s):s.heap.FunFrames X.base X.stack:=by
  rcases I.ok.stk with e|⟨e,hf⟩
  · rw [e];exact I.funs
  · rw [e]
    obtain ⟨m,hn,_⟩:=I.loc
    refine .cons (by rw [I.ok.kind];decide) hf hn ?_ I.funs
    exact Heap.get?_none_of_le (Nat.le_trans I.ok.bsz I.ok.above)
theorem Inv.stkSub (I:Inv X pins σ H s):∀ b∈frs X.stack,b∈X.env.locals::X.fs:=fun b hb=>by
  rcases I.ok.stk with e|⟨e,hf⟩
  · rw [e] at hb;exact List.mem_cons_of_mem _ hb
  · rw [e] at hb
    unfold frs at hb
    rw [List.filterMap_cons,hf] at hb
    exact hb
theorem Inv.stkFree (I:Inv X pins σ H s):∀ b∈frs X.stack,H b=none:=fun b hb=>by
  rcases List.mem_cons.mp (I.stkSub b hb) with e|hb
  · rw [e];exact I.free
  · obtain ⟨_,o,ho,_⟩:=I.ok.funs.mem hb
    exact I.base.free b o ho (I.ok.frf b hb) fun z=>I.ok.exfs b z hb
theorem Inv.step {g':Array GenState} {t':Nat} {d':Drawn} {ch:List Addr} (I:Inv X pins σ H s)
    (hch:∀ b∈ch,(b∈X.ex∨X.s₀.heap.objs.size≤b)∧b≠X.env.locals∧(∀ x c,X.env.cells.lookup x=some c→c≠b)∧∀ p∈X.pn++pins,p.1≠b)
    (keep:∀ b o,b≠X.env.locals→b∉X.fs→b∉ch→s.heap.get? b=some o→H b=none→h'.get? b=some o)
    (slot:∀ b o,b≠X.env.locals→b∈X.fs→b∉ch→s.heap.get? b=some o→H b=none→∃ sl,h'.get? b=some { o with slots:=sl }) (free:∀ b o,b∉ch→s.heap.get? b=some o→H b=none→H' b=none)
    (there:∀ b o,b∉ch→s.heap.get? b=some o→∃ o',h'.get? b=some o')
    (tups:∀ b xs,H b=some (.tup xs)→H' b=some (.tup xs)) (frzs:∀ b o u,H b=some (.frz o u)→H' b=some (.frz o u)) (tbls:∀ b ps,H b=some (.tbl ps)→∃ more,H' b=some (.tbl (ps++more)))
    (ns:∀ m,s.heap.Ns X.env.locals m→h'.Ns X.env.locals m) (hok:HOk X.prog X.w H' h') (hg:AllBare g') :
    Inv X pins σ H' { s with heap:=h',gens:=g',drawn:=d',toks:=t' }:=by
  have neL:∀ b o,X.s₀.heap.get? b=some o→b≠X.env.locals:=fun b o e=>Nat.ne_of_lt (Nat.lt_of_lt_of_le (Heap.lt_size e) I.ok.above)
  have neC:∀ b o,X.s₀.heap.get? b=some o→b∉X.ex→b∉ch:=fun b o e hx hb=>by
    rcases (hch b hb).1 with z|z
    · exact hx z
    · exact absurd (Nat.lt_of_lt_of_le (Heap.lt_size e) z) (Nat.lt_irrefl _)
  have cellK:∀ x c,X.env.cells.lookup x=some c→∀ v,s.heap.IsCell c v→h'.IsCell c v:=fun x c e v ⟨o,ho,hd⟩=>by
    have nch:c∉ch:=fun z=>(hch c z).2.2.1 x c e rfl
    by_cases hc:c∈X.fs
    · obtain ⟨sl,q⟩:=slot c o (I.cne x c e) hc nch ho (I.freeC x c e)
      exact ⟨_,q,hd⟩
    · exact ⟨o,keep c o (I.cne x c e) hc nch ho (I.freeC x c e),hd⟩
  refine ⟨I.ok,I.os,hg,⟨fun b o e n hb hx=>?_,fun b o e n hb hx=>?_,fun b o e n hx=>?_,fun b o e hx=>?_,fun b xs e=>tups b xs (I.base.tups b xs e),fun b o xs e=>frzs b o xs (I.base.frzs b o xs e),fun b ps e=>?_⟩,?_,fun x c e=>?_,?_,fun x c e=>?_,fun p hp=>?_,hok,I.len⟩
  · exact keep b o (neL b o e) hb (neC b o e hx) (I.base.keep b o e n hb hx) (I.base.free b o e n hx)
  · obtain ⟨sl,e1⟩:=I.base.slot b o e n hb hx
    obtain ⟨sl',e2⟩:=slot b _ (neL b o e) hb (neC b o e hx) e1 (I.base.free b o e n hx)
    exact ⟨sl',e2⟩
  · obtain ⟨o',e1⟩:=I.base.there b o e hx
    exact free b o' (neC b o e hx) e1 (I.base.free b o e n hx)
  · obtain ⟨o',e1⟩:=I.base.there b o e hx
    exact there b o' (neC b o e hx) e1
  · obtain ⟨m1,e1⟩:=I.base.tbls b ps e
    obtain ⟨m2,e2⟩:=tbls b _ e1
    exact ⟨m1++m2,by rw [e2,Array.append_assoc]⟩
  · obtain ⟨m,hn,hl⟩:=I.loc
    refine ⟨m,ns m hn,fun i x v e1 e2 e3=>?_⟩
    obtain ⟨u,r,l⟩:=hl i x v e1 e2 e3
    refine ⟨u,r,?_⟩
    rcases l with l|⟨k,c,e,z⟩
    · exact .inl l
    · exact .inr ⟨k,c,e,cellK x c e _ z⟩
  · obtain ⟨v,z⟩:=I.cell x c e
    exact ⟨v,cellK x c e v z⟩
  · obtain ⟨m,⟨o,_,_,ho,_⟩,_⟩:=I.loc
    exact free _ o (fun z=>(hch _ z).2.1 rfl) ho I.free
  · obtain ⟨v,o,ho,hd⟩:=I.cell x c e
    exact free c o (fun z=>(hch c z).2.2.1 x c e rfl) ho (I.freeC x c e)
  · obtain ⟨e,n,ne,nf,d⟩:=I.pin p hp
    have nch:p.1∉ch:=fun z=>(hch p.1 z).2.2.2 p hp rfl
    exact ⟨keep p.1 p.2 ne nf nch e n,free p.1 p.2 nch e n,ne,nf,d⟩
theorem Inv.un {t':Nat} (I:Inv X pins σ H s) (u:Un X.fs [] H H' s.heap h') (hok:HOk X.prog X.w H' h'):Inv X pins σ H' { s with heap:=h',toks:=t' }:=by
  obtain ⟨m,⟨o,es,ep,ho,r⟩,_⟩:=id I.loc
  obtain ⟨sl,hL⟩:=u.any ho I.free (by simp)
  exact I.step (g':=s.gens) (d':=s.drawn) (ch:=[]) (fun _ z=>nomatch z) (fun b o _ hb _ e n=>u.keep b o e n hb (by simp)) (fun b o _ hb _ e n=>u.slot b o e n hb (by simp)) (fun b o _ e n=>u.free b o e n (by simp)) (fun b o _ e=>u.there b o e (by simp)) u.tups u.frzs u.tbls (fun m' hm=>by
    obtain ⟨o',es',ep',ho',r'⟩:=hm
    rw [ho] at ho';cases ho'
    exact ⟨_,es',ep',hL,r'⟩) hok I.bare
theorem Inv.call {g':Array GenState} {t':Nat} {d':Drawn} {ch:List Addr} (I:Inv X pins σ H s) (u:Un (frs X.stack) ch H H' s.heap h') (hok:HOk X.prog X.w H' h') (hg:AllBare g')
    (hch:∀ b∈ch,(b∈X.ex∨X.s₀.heap.objs.size≤b)∧b≠X.env.locals∧(∀ x c,X.env.cells.lookup x=some c→c≠b)∧∀ p∈X.pn++pins,p.1≠b) :
    Inv X pins σ H' { s with heap:=h',gens:=g',drawn:=d',toks:=t' }:=by
  obtain ⟨m,⟨o,es,ep,ho,r⟩,_⟩:=id I.loc
  obtain ⟨sl,hL⟩:=u.any ho I.free fun z=>(hch _ z).2.1 rfl
  exact I.step (ch:=ch) hch (fun b o hL hb hc e n=>u.keep b o e n (fun z=>(List.mem_cons.mp (I.stkSub b z)).elim hL hb) hc) (fun b o _ _ hc e n=>u.any e n hc) (fun b o hc e n=>u.free b o e n hc) (fun b o hc e=>u.there b o e hc) u.tups u.frzs u.tbls (fun m' hm=>by
    obtain ⟨o',es',ep',ho',r'⟩:=hm
    rw [ho] at ho';cases ho'
    exact ⟨_,es',ep',hL,r'⟩) hok hg
theorem Inv.turned {t':Nat} {it:Addr} (I:Inv X pins σ H s) (k:∀ b o,b≠it→s.heap.get? b=some o→h'.get? b=some o) (hn:H it=none) (hL:it≠X.env.locals)
    (h1:it∈X.ex∨X.s₀.heap.objs.size≤it) (h2:∀ x c,X.env.cells.lookup x=some c→c≠it) (h3:∀ p∈X.pn++pins,p.1≠it):Inv X pins σ H { s with heap:=h',toks:=t' }:=by
  have nit:∀ b u,H b=some u→b≠it:=fun b u e z=>by rw [z,hn] at e;cases e
  refine I.step (g':=s.gens) (d':=s.drawn) (ch:=[it]) (fun b hb=>?_) (fun b o _ _ hc e _=>k b o (fun z=>hc (by simp [z])) e) (fun b o _ _ hc e _=>⟨o.slots,k b o (fun z=>hc (by simp [z])) e⟩) (fun _ _ _ _ n=>n)
    (fun b o hc e=>⟨o,k b o (fun z=>hc (by simp [z])) e⟩) (fun _ _ e=>e) (fun _ _ _ e=>e) (fun b ps e=>⟨#[],by rw [e];simp⟩) (fun m hm=>?_) (fun b u e=>?_) I.bare
  · have e:b=it:=by simpa using hb
    subst e
    exact ⟨h1,hL,h2,h3⟩
  · obtain ⟨o,es,ep,ho,r⟩:=hm
    exact ⟨o,es,ep,k _ o (Ne.symm hL) ho,r⟩
  · refine (I.hok b u e).stay (fun c v hc q=>k c v ?_ q) (fun _ q=>q) fun _ _ q=>q
    rcases hc with z|z
    · rw [z];exact nit b u e
    · exact nit c _ z
theorem Inv.tok (I:Inv X pins σ H s) (t:Nat):Inv X pins σ H { s with toks:=t }:=I.un (h':=s.heap) (t':=t) Un.refl I.hok
theorem Inv.kept {t':Nat} (I:Inv X pins σ H s) (k:∀ b u,s.heap.get? b=some u→h'.get? b=some u):Inv X pins σ H { s with heap:=h',toks:=t' }:=I.un (Un.kept k) (I.hok.kept k)
theorem Inv.laid {a:Addr} {o:HO} {t':Nat} (I:Inv X pins σ H s) (k:∀ b u,s.heap.get? b=some u→h'.get? b=some u) (hp:s.heap.objs.size≤a) (new:ObjOk X.prog X.w (upd H a o) h' a o) :
    Inv X pins σ (upd H a o) { s with heap:=h',toks:=t' }:=I.un (Un.laid k hp (I.hok.fresh hp)) (I.hok.laid k hp new)
theorem Inv.write {x e:Addr} {o:HO} {t':Nat} (I:Inv X pins σ H s) (mu:Mut (H x)) (he:e=x∨H e=some (.own x)) (k:∀ b u,b≠e→s.heap.get? b=some u→h'.get? b=some u) (heo:∃ u,h'.get? e=some u)
    (new:ObjOk X.prog X.w (upd H x o) h' x o):Inv X pins σ (upd H x o) { s with heap:=h',toks:=t' }:=I.un (Un.write mu he k heo) (I.hok.write mu he k heo new)
theorem Inv.pins_of {pins':List (Addr×Obj)} (I:Inv X pins σ H s) (h:∀ p∈pins',s.heap.get? p.1=some p.2∧H p.1=none∧p.1≠X.env.locals∧p.1∉X.fs∧∀ v,p.2.data≠.cell v):Inv X pins' σ H s :=
  ⟨I.ok,I.os,I.bare,I.base,I.loc,I.cell,I.free,I.freeC,fun p hp=>(List.mem_append.mp hp).elim (fun z=>I.pin p (List.mem_append_left _ z)) (h p),I.hok,I.len⟩
theorem nodup_ix {N:List Str} (hN:N.Nodup) {i j:Nat} {x:Str} (a:N[i]?=some x) (b:N[j]?=some x):i=j:=by
  obtain ⟨h1,e1⟩:=List.getElem?_eq_some_iff.mp a
  obtain ⟨h2,e2⟩:=List.getElem?_eq_some_iff.mp b
  exact (List.getElem_inj hN).mp (e1.trans e2.symm)
theorem store_ok2 {M:Model} {A:Around} {E:Value→Shared→Prop} {i:Nat} {x:Str} {v:V} {u:Value} {Q:Unit→Shared→Prop} (I:Inv X pins σ H s) (hN:X.N.Nodup) (hi:X.N[i]?=some x) (hx:Loc X.env.scope x) (r:RelV v u)
    (h:∀ s',Inv X pins (σ.set i (some v)) H s'→(∃ a,Heap.SameBut a s.heap s'.heap∧(a=X.env.locals∨X.env.cells.lookup x=some a))→Q () s') (hf:X.fn x=true∨X.env.scope.names.lookup x=some .local:=by first|exact .inl rfl|exact .inr rfl|assumption):wpAny M A (storeName X.env x u) Q E s:=by
  obtain ⟨m,hn,hl⟩:=id I.loc
  have hcls:(X.env.scope.kind == .class || (X.env.scope.kind == .module && X.env.locals != X.env.globals))=false:=by rw [I.ok.kind];rfl
  have hiσ:i < σ.length:=by rw [I.len];exact (List.getElem?_eq_some_iff.mp hi).1
  have cne:=I.cne
  have tracked:∀ {a:Addr} {h':Heap},(∃ o,s.heap.get? a=some o∧H a=none)→Heap.SameBut a s.heap h'→HOk X.prog X.w H h':=fun {a h'} ha hs b ob e=>by
    obtain ⟨_,_,hfree⟩:=ha
    refine (I.hok b ob e).stay (fun c w' hc q=>(hs.2 c ?_).trans q) (fun _ q=>q) fun _ _ q=>q
    rintro rfl
    rcases hc with rfl|hc
    · rw [hfree] at e;cases e
    · rw [hfree] at hc;cases hc
  rcases hx with hk|hk
  · refine wpAny_storeName_local hk hn (fun h' hn' hs=>?_) hcls
    obtain ⟨oL,_,_,hoL,_⟩:=id hn
    refine h _ ⟨I.ok,I.os,I.bare,⟨fun b o e n hb hx=>?_,fun b o e n hb hx=>?_,I.base.free,fun b o e hx=>?_,I.base.tups,I.base.frzs,I.base.tbls⟩,⟨_,hn',fun j y v' e1 e2 e3=>?_⟩,fun y c e=>?_,I.free,I.freeC,fun p hp=>?_,tracked ⟨oL,hoL,I.free⟩ hs,by simpa using I.len⟩ ⟨_,hs,.inl rfl⟩
    · exact (hs.2 b (Nat.ne_of_lt (Nat.lt_of_lt_of_le (Heap.lt_size e) I.ok.above))).trans (I.base.keep b o e n hb hx)
    · obtain ⟨sl,e1⟩:=I.base.slot b o e n hb hx
      exact ⟨sl,(hs.2 b (Nat.ne_of_lt (Nat.lt_of_lt_of_le (Heap.lt_size e) I.ok.above))).trans e1⟩
    · obtain ⟨o',e1⟩:=I.base.there b o e hx
      exact ⟨o',(hs.2 b (Nat.ne_of_lt (Nat.lt_of_lt_of_le (Heap.lt_size e) I.ok.above))).trans e1⟩
    · by_cases hj:j=i
      · subst hj
        rw [hi] at e1;cases e1
        rw [List.getElem?_set_self hiσ] at e2
        cases e2
        exact ⟨u,r,.inl ⟨hk,by simp⟩⟩
      · rw [List.getElem?_set_ne (Ne.symm hj)] at e2
        obtain ⟨u',r',q⟩:=hl j y v' e1 e2 e3
        refine ⟨u',r',?_⟩
        rcases q with ⟨k,e⟩|⟨k,c,e,z⟩
        · refine .inl ⟨k,?_⟩
          have:y≠x:=fun e=>hj (nodup_ix hN e1 (e▸hi))
          simp [this,e]
        · exact .inr ⟨k,c,e,z.sameBut hs (cne y c e)⟩
    · obtain ⟨w',z⟩:=I.cell y c e
      exact ⟨w',z.sameBut hs (cne y c e)⟩
    · obtain ⟨e,n,ne,nf,d⟩:=I.pin p hp
      exact ⟨(hs.2 p.1 ne).trans e,n,ne,nf,d⟩
  · have hfn:X.fn x=true:=by
      rcases hf with z|z
      · exact z
      · rw [z] at hk;cases hk
    obtain ⟨c,hc⟩:=I.ok.has x (.inl hk)
    obtain ⟨w',z⟩:=I.cell x c hc
    refine wpAny_storeName_cell I.ok.kind hk hc z (fun h' hc' hs=>?_)
    obtain ⟨oc,hoc,hocd⟩:=id z
    refine h { s with heap:=h' } ⟨I.ok,I.os,I.bare,⟨fun b o e n hb hx=>?_,fun b o e n hb hx=>?_,I.base.free,fun b o e hx=>?_,I.base.tups,I.base.frzs,I.base.tbls⟩,⟨m,hn.sameBut hs (Ne.symm (cne x c hc)),fun j y v' e1 e2 e3=>?_⟩,fun y c' e=>?_,I.free,I.freeC,fun p hp=>?_,tracked ⟨oc,hoc,I.freeC x c hc⟩ hs,by simpa using I.len⟩ ⟨c,hs,.inr hc⟩
    · exact (hs.2 b (Nat.ne_of_lt (Nat.lt_of_lt_of_le (Heap.lt_size e) (I.ok.cab x c hfn hc)))).trans (I.base.keep b o e n hb hx)
    · obtain ⟨sl,e1⟩:=I.base.slot b o e n hb hx
      exact ⟨sl,(hs.2 b (Nat.ne_of_lt (Nat.lt_of_lt_of_le (Heap.lt_size e) (I.ok.cab x c hfn hc)))).trans e1⟩
    · obtain ⟨o',e1⟩:=I.base.there b o e hx
      exact ⟨o',(hs.2 b (Nat.ne_of_lt (Nat.lt_of_lt_of_le (Heap.lt_size e) (I.ok.cab x c hfn hc)))).trans e1⟩
    · by_cases hj:j=i
      · subst hj
        rw [hi] at e1;cases e1
        rw [List.getElem?_set_self hiσ] at e2
        cases e2
        exact ⟨u,r,.inr ⟨.inl hk,c,hc,hc'⟩⟩
      · rw [List.getElem?_set_ne (Ne.symm hj)] at e2
        obtain ⟨u',r',q⟩:=hl j y v' e1 e2 e3
        refine ⟨u',r',?_⟩
        rcases q with q|⟨k,c',e,z'⟩
        · exact .inl q
        · refine .inr ⟨k,c',e,z'.sameBut hs ?_⟩
          rintro rfl
          exact hj (nodup_ix hN e1 (I.ok.inj _ _ _ e hc▸hi))
    · by_cases hcc:c'=c
      · subst hcc;exact ⟨_,hc'⟩
      · obtain ⟨w2,z2⟩:=I.cell y c' e
        exact ⟨w2,z2.sameBut hs hcc⟩
    · obtain ⟨e,n,ne,nf,d⟩:=I.pin p hp
      refine ⟨(hs.2 p.1 ?_).trans e,n,ne,nf,d⟩
      intro q
      rw [q,hoc] at e
      have q':oc=p.2:=Option.some.inj e
      exact d w' (by rw [←q'];exact hocd)
theorem store_ok {M:Model} {A:Around} {E:Value→Shared→Prop} {i:Nat} {x:Str} {v:V} {u:Value} {Q:Unit→Shared→Prop} (I:Inv X pins σ H s) (hN:X.N.Nodup) (hi:X.N[i]?=some x) (hx:Loc X.env.scope x) (r:RelV v u)
    (h:∀ s',Inv X pins (σ.set i (some v)) H s'→Q () s') (hf:X.fn x=true∨X.env.scope.names.lookup x=some .local:=by first|exact .inl rfl|exact .inr rfl|assumption):wpAny M A (storeName X.env x u) Q E s :=
  store_ok2 I hN hi hx r (fun s' I' _=>h s' I') hf
theorem Inv.call' {s':Shared} {ch:List Addr} (I:Inv X pins σ H s) (ho:s'.os=s.os) (u:Un (frs X.stack) ch H H' s.heap s'.heap) (hok:HOk X.prog X.w H' s'.heap) (hg:AllBare s'.gens)
    (hch:∀ b∈ch,(b∈X.ex∨X.s₀.heap.objs.size≤b)∧b≠X.env.locals∧(∀ x c,X.env.cells.lookup x=some c→c≠b)∧∀ p∈X.pn++pins,p.1≠b):Inv X pins σ H' s':=by
  obtain ⟨h',g',d',t',o'⟩:=s'
  have e:o'=s.os:=ho
  subst e
  exact I.call (g':=g') (t':=t') (d':=d') u hok hg hch
end
abbrev XK:=Value→Option Addr→Hp→Prop
noncomputable abbrev St:=List (Option V)
abbrev VK:=V→Hp→Prop
abbrev TE:=St→Hp→VK→Prop
abbrev TT:=St→Hp→(Bool→Hp→Prop)→Prop
abbrev TA:=St→Hp→(List V→Hp→Prop)→Prop
structure Ends where
  nx:St→Hp→Prop
  rt:VK
  bk:St→Hp→Prop:=fun _ _=>False
  ct:St→Hp→Prop:=fun _ _=>False
abbrev TS:=Ends→St→Hp→Prop
def EP (X:Cx) (pins:List (Addr×Obj)) (σ:St) (Q:VK) (u:Value) (s':Shared):Prop:=∃ v H',Inv X pins σ H' s'∧RelV v u∧Q v H'
def TP (X:Cx) (pins:List (Addr×Obj)) (σ:St) (Q:Bool→Hp→Prop) (b:Bool) (s':Shared):Prop:=∃ H',Inv X pins σ H' s'∧Q b H'
def AP (X:Cx) (pins:List (Addr×Obj)) (σ:St) (Q:List V→Hp→Prop) (us:List Value) (s':Shared):Prop:=∃ vs H',Inv X pins σ H' s'∧Vals vs us∧Q vs H'
def SP (X:Cx) (pins:List (Addr×Obj)) (D:Ends) (f:Flow) (s':Shared):Prop :=
  match f with
  | .next=>∃ σ' H',Inv X pins σ' H' s'∧D.nx σ' H'
  | .brk=>∃ σ' H',Inv X pins σ' H' s'∧D.bk σ' H'
  | .cont=>∃ σ' H',Inv X pins σ' H' s'∧D.ct σ' H'
  | .ret u=>∃ v σ' H',Inv X pins σ' H' s'∧RelV v u∧D.rt v H'
def PE (X:Cx) (e:Expr) (t:TE):Prop :=
  ∀ (pins:List (Addr×Obj)) (s:Shared) (σ:St) (H:Hp) (Q:VK),Inv X pins σ H s→t σ H Q→wpAny (model X.prog X.w) X.A (eval e X.env) (EP X pins σ Q) X.xe s
def PT (X:Cx) (e:Expr) (t:TT):Prop :=
  ∀ (pins:List (Addr×Obj)) (s:Shared) (σ:St) (H:Hp) (Q:Bool→Hp→Prop),Inv X pins σ H s→t σ H Q→wpAny (model X.prog X.w) X.A (isTrue e X.env (eval e X.env)) (TP X pins σ Q) X.xe s
def PW (X:Cx) (e:Expr) (t:TT):Prop :=
  ∀ (whole:Sem Value) (pins:List (Addr×Obj)) (s:Shared) (σ:St) (H:Hp) (Q:Bool→Hp→Prop),Inv X pins σ H s→t σ H Q→wpAny (model X.prog X.w) X.A (isTrue e X.env whole) (TP X pins σ Q) X.xe s
theorem PW.pt {X:Cx} {e:Expr} {t:TT} (h:PW X e t):PT X e t:=h _
def PA (X:Cx) (es:List Expr) (t:TA):Prop :=
  ∀ (pos:Pos) (pins:List (Addr×Obj)) (s:Shared) (σ:St) (H:Hp) (Q:List V→Hp→Prop),Inv X pins σ H s→t σ H Q→wpAny (model X.prog X.w) X.A (spliced (backTo pos (starEach es X.env))) (AP X pins σ Q) X.xe s
def PS (X:Cx) (st:Stmt) (t:TS):Prop :=
  ∀ (pins:List (Addr×Obj)) (s:Shared) (σ:St) (H:Hp) (D:Ends),Inv X pins σ H s→t D σ H→wpAny (model X.prog X.w) X.A (exec st X.env) (SP X pins D) X.xe s
def PSs (X:Cx) (st:List Stmt) (t:TS):Prop :=
  ∀ (pins:List (Addr×Obj)) (s:Shared) (σ:St) (H:Hp) (D:Ends),Inv X pins σ H s→t D σ H→wpAny (model X.prog X.w) X.A (execs st X.env) (SP X pins D) X.xe s
theorem thn {α:Type} {t:Sem α} {Q Q':α→Shared→Prop} {M:Model} {A:Around} {E:Value→Shared→Prop} {s:Shared} (h:wpAny M A t Q E s) (hQ:∀ a s,Q a s→Q' a s):wpAny M A t Q' E s:=wpAny_mono h hQ fun _ _ x=>x
end L2
namespace L2
open PySem PySem.Spec PyProof.Rows
section
variable {X:Cx}
noncomputable def tVar (i:Nat):TE:=fun σ H Q=>∃ v,σ[i]?=some (some v)∧Q v H
noncomputable def tC (v:V):TE:=fun _ H Q=>Q v H
theorem pe_var {i:Nat} {x:Str} {pos:Pos} (hN:X.N[i]?=some x) (hv:Vis X.env.scope x) (hd:(x == ("__debug__" : Str))=false:=by decide) (hcd:(x == ("__classdict__" : Str))=false:=by decide):PE X (.Name x pos) (tVar i):=by
  intro pins s σ H Q I h
  obtain ⟨v,e,h⟩:=h
  obtain ⟨m,hn,hl⟩:=I.loc
  obtain ⟨u,r,l⟩:=hl i x v hN e hv
  have fin:EP X pins σ Q u s:=⟨v,H,I,r,h⟩
  rcases l with ⟨hk,hm⟩|⟨hk,c,hc,hcell⟩
  · exact wpAny_Name (wpAny_loadName_local I.ok.kind hk hn hm fin) hd
  · rcases hk with hk|hk
    · exact wpAny_Name (wpAny_loadName_cell I.ok.kind hk hc hcell fin) hd
    · exact wpAny_Name (wpAny_loadName_free I.ok.kind hk hc hcell fin hcd) hd
theorem pe_int {i j pos}:PE X (.Constant (.int i) j pos) (tC (.int i)):=fun _ _ _ H _ I h=>wpAny_Constant_int ⟨.int i,H,I.tok _,⟨_,rfl⟩,h⟩
theorem pe_bl {b j pos}:PE X (.Constant (.bool b) j pos) (tC (.bl b)):=fun _ _ _ H _ I h=>Constant_bool ⟨.bl b,H,I,rfl,h⟩
theorem pe_str {x j pos}:PE X (.Constant (.str x) j pos) (tC (.str x)):=fun _ _ _ H _ I h=>Calls.Constant_str ⟨.str x,H,I.tok _,⟨_,rfl⟩,h⟩
def Gl (X:Cx) (x:Str):Prop:=X.env.kindOf x=some .globalImplicit
theorem ld_glob {E:Value→Shared→Prop} {pins:List (Addr×Obj)} {s:Shared} {σ:St} {H:Hp} {x:Str} {u:Value} {pos:Pos} {Q:Value→Shared→Prop} (I:Inv X pins σ H s) (hg:Gl X x) (hm:X.mg x=some u) (h:Q u s)
    (hd:(x == ("__debug__" : Str))=false:=by decide):wpAny (model X.prog X.w) X.A (eval (.Name x pos) X.env) Q E s :=
  Calls.Name_function_global I.ok.kind hg (Calls.loadGlobal_global (by rw [I.ok.glob];exact I.mod.glob.keeps I.bk) hm h) hd
theorem ld_blt {E:Value→Shared→Prop} {pins:List (Addr×Obj)} {s:Shared} {σ:St} {H:Hp} {x:Str} {u:Value} {pos:Pos} {Q:Value→Shared→Prop} (I:Inv X pins σ H s) (hg:Gl X x) (hm:X.mg x=none) (hv:bootBuiltins x=some u) (h:Q u s)
    (hn:x ≠ "__name__" := by decide) (hd:(x == ("__debug__" : Str))=false:=by decide):wpAny (model X.prog X.w) X.A (eval (.Name x pos) X.env) Q E s:=by
  obtain ⟨mb,h1,h2⟩:=I.mod.blt
  exact Calls.Name_function_global I.ok.kind hg (Calls.loadGlobal_builtin (by rw [I.ok.glob];exact I.mod.glob.keeps I.bk) hm (by rw [I.ok.blt];exact h1.keeps I.bk) ((h2 x hn).trans hv) h) hd
theorem pe_bltn {x:Str} {v:V} {u:Value} {pos:Pos} (hg:Gl X x) (hm:X.mg x=none) (hv:bootBuiltins x=some u) (r:RelV v u) (hn:x ≠ "__name__" := by decide) (hd:(x == ("__debug__" : Str))=false:=by decide):PE X (.Name x pos) (tC v) :=
  fun _ _ _ H _ I h=>ld_blt I hg hm hv ⟨v,H,I,r,h⟩ hn hd
variable {a b:Expr} {ta tb:TE} {pos:Pos}
def PC (X:Cx) (op:CmpOp) (a b:Expr) (t:TE):Prop :=
  ∀ (pins:List (Addr×Obj)) (s:Shared) (σ:St) (H:Hp) (Q:VK),Inv X pins σ H s→t σ H Q →
    wpAny (model X.prog X.w) X.A (eval a X.env) (fun v s₁=>wpAny (model X.prog X.w) X.A (eval b X.env) (fun u s₂=>wpAny (model X.prog X.w) X.A (compareOp op v u) (EP X pins σ Q) X.xe s₂) X.xe s₁) X.xe s
theorem nobehind (b:Expr) {op:CmpOp} (h:op≠.In) (h2:op≠.NotIn):behindInMarks op b=false:=by
  have e1:(op == CmpOp.In)=false:=by cases op <;> first|rfl|exact absurd rfl h
  have e2:(op == CmpOp.NotIn)=false:=by cases op <;> first|rfl|exact absurd rfl h2
  cases b <;> simp [behindInMarks,e1,e2]
noncomputable def tB (t:TE):TT:=fun σ H Q=>t σ H fun x H1=>∃ c,x=.bl c∧Q c H1
theorem pt_cmp {op:CmpOp} {t:TE} (h:PC X op a b t) (h1:behindInMarks op b=false:=by first|exact nobehind _ (by decide) (by decide)|rfl):PT X (.Compare a [op] [b] pos) (tB t):=by
  intro pins s σ H Q I hw
  refine wpAny_isTrue_Compare1 (thn (h pins s σ H _ I hw) fun v s1 h1=>thn h1 fun u s2 h2=>thn h2 fun c s3 ⟨x,H1,I1,r1,q1⟩=>?_) h1
  obtain ⟨d,rfl,q⟩:=q1
  cases r1
  exact wpAny_truthy_bool ⟨H1,I1,q⟩
variable {tA tB':TT} {rest:List Expr}
noncomputable def tAnd (t u:TT):TT:=fun σ H Q=>t σ H fun c H1=>if c=true then u σ H1 Q else Q false H1
noncomputable def tOr (t u:TT):TT:=fun σ H Q=>t σ H fun c H1=>if c=true then Q true H1 else u σ H1 Q
noncomputable def tNot (t:TT):TT:=fun σ H Q=>t σ H fun c H1=>Q (!c) H1
theorem pw_and1 (ha:PT X a tA):PW X (.BoolOp .And [a] pos) tA:=by
  intro wh pins s σ H Q I h
  refine isTrue_and (thn (ha pins s σ H Q I h) fun c s1 e=>?_)
  cases c with
  | true=>exact isTrue_and_nil e
  | false=>exact e
theorem pw_or1 (ha:PT X a tA):PW X (.BoolOp .Or [a] pos) tA:=by
  intro wh pins s σ H Q I h
  refine isTrue_or (thn (ha pins s σ H Q I h) fun c s1 e=>?_)
  cases c with
  | false=>exact isTrue_or_nil e
  | true=>exact e
theorem pw_and (ha:PT X a tA) (hb:PW X (.BoolOp .And (b::rest) pos) tB'):PW X (.BoolOp .And (a::b::rest) pos) (tAnd tA tB'):=by
  intro wh pins s σ H Q I h
  refine isTrue_and (thn (ha pins s σ H _ I h) fun c s1 ⟨H1,I1,q1⟩=>?_)
  cases c with
  | true=>exact hb wh pins s1 σ H1 Q I1 q1
  | false=>exact ⟨H1,I1,q1⟩
theorem pw_or (ha:PT X a tA) (hb:PW X (.BoolOp .Or (b::rest) pos) tB'):PW X (.BoolOp .Or (a::b::rest) pos) (tOr tA tB'):=by
  intro wh pins s σ H Q I h
  refine isTrue_or (thn (ha pins s σ H _ I h) fun c s1 ⟨H1,I1,q1⟩=>?_)
  cases c with
  | true=>exact ⟨H1,I1,q1⟩
  | false=>exact hb wh pins s1 σ H1 Q I1 q1
theorem pt_not (ha:PT X a tA):PT X (.UnaryOp .Not a pos) (tNot tA):=by
  intro pins s σ H Q I h
  exact isTrue_not (ha pins s σ H (fun c H1=>Q (!c) H1) I h)
noncomputable def tAndV (ta tb:TE):TE:=fun σ H Q=>ta σ H fun x H1=>∃ c,x=.bl c∧if c=true then tb σ H1 Q else Q (.bl false) H1
noncomputable def tNotV (ta:TE):TE:=fun σ H Q=>ta σ H fun x H1=>∃ c,x=.bl c∧Q (.bl (!c)) H1
theorem pe_one {op} {t:TE} (h:PE X a t):PE X (.BoolOp op [a] pos) t:=fun pins s σ H Q I hw=>BoolOp_one (h pins s σ H Q I hw)
theorem pe_and (ha:PE X a ta) (hb:PE X (.BoolOp .And (b::rest) pos) tb):PE X (.BoolOp .And (a::b::rest) pos) (tAndV ta tb):=by
  intro pins s σ H Q I h
  refine BoolOp_and (thn (ha pins s σ H _ I h) fun v s1 ⟨x,H1,I1,r1,q1⟩=>?_)
  obtain ⟨c,rfl,q1⟩:=q1
  cases r1
  refine wpAny_truthy_bool ?_
  cases c with
  | true=>exact hb pins s1 σ H1 Q I1 q1
  | false=>exact ⟨.bl false,H1,I1,rfl,q1⟩
theorem pe_not (ha:PE X a ta):PE X (.UnaryOp .Not a pos) (tNotV ta):=by
  intro pins s σ H Q I h
  refine UnaryOp_ (thn (ha pins s σ H _ I h) fun v s1 ⟨x,H1,I1,r1,q1⟩=>?_)
  obtain ⟨c,rfl,q1⟩:=q1
  cases r1
  exact not_of (wpAny_truthy_bool ⟨.bl (!c),H1,I1,rfl,q1⟩)
end
end L2
namespace L2
open PySem PySem.Spec PyProof.Rows
def SqL (K:PySem.W.Frag) (H:Hp) (a:Addr) (xs:List V):Prop :=
  Rd H a (.lst xs) ∨
    ∃ (o:Obj) (its:Array Value) (n:Nat),K.lookup a=some o∧o.cls=.type "list" ∧ o.dict=none∧o.data=.seq its n∧its.size≤sizeLine∧Vals xs its.toList
def SqT (K:PySem.W.Frag) (H:Hp) (a:Addr) (xs:List V):Prop :=
  Rd H a (.tup xs) ∨
    ∃ (o:Obj) (its:Array Value) (n:Nat),K.lookup a=some o∧o.cls=.type "tuple" ∧ o.data=.seq its n∧its.size≤sizeLine∧Vals xs its.toList
noncomputable def absV:Value→Option V
  | .none=>some .non
  | .bool b=>some (.bl b)
  | .int i _=>some (.int i)
  | .str x _=>some (.str x)
  | .bytes b _=>some (.byt b)
  | .float b _=>some (.flt b)
  | .ref a=>some (.ref a)
  | .type n=>some (.ty n)
  | _=>none
theorem RelV.abs {x:V} {u:Value} (r:RelV x u):absV u=some x:=by
  cases x with
  | non=>cases r;rfl
  | bl _=>cases r;rfl
  | int _=>obtain ⟨t,rfl⟩:=r;rfl
  | str _=>obtain ⟨t,rfl⟩:=r;rfl
  | byt _=>obtain ⟨t,rfl⟩:=r;rfl
  | flt _=>obtain ⟨t,rfl⟩:=r;rfl
  | ref _=>cases r;rfl
  | ty _=>cases r;rfl
theorem RelV.inj {x y:V} {u:Value} (r:RelV x u) (q:RelV y u):x=y:=Option.some.inj (r.abs.symm.trans q.abs)
theorem Vals.inj:∀ {xs ys:List V} {us:List Value},Vals xs us→Vals ys us→xs=ys
  | _,_,_,.nil,.nil=>rfl
  | _,_,_,.cons r t,.cons r' t'=>by rw [r.inj r',Vals.inj t t']
section
variable {X:Cx} {pins:List (Addr×Obj)} {σ:St} {H:Hp} {s:Shared} {a:Addr} {xs ys:List V}
theorem SqL.of {K:PySem.W.Frag} (h:H a=some (.lst xs)):SqL K H a xs:=.inl (.inl h)
theorem SqT.of {K:PySem.W.Frag} (h:H a=some (.tup xs)):SqT K H a xs:=.inl (.inl h)
theorem Inv.list (I:Inv X pins σ H s) (h:SqL X.K H a xs):∃ its:List Value,Vals xs its∧PlainL s.heap a its.toArray∧xs.length≤sizeLine:=by
  rcases h with h|⟨o,its,n,hk,hc,hd,hs,hz,r⟩
  · obtain ⟨z,its,n,r,e⟩:=h.ok I.hok
    exact ⟨its,r,⟨_,n,e,rfl,rfl,rfl⟩,z⟩
  · refine ⟨its.toList,r,⟨o,n,I.kIn a o hk,hc,hd,by simpa using hs⟩,?_⟩
    have e:=r.length
    simp only [Array.length_toList] at e
    omega
theorem Inv.tuple (I:Inv X pins σ H s) (h:SqT X.K H a xs):∃ its:List Value,Vals xs its∧IsTup s.heap a its.toArray∧xs.length≤sizeLine:=by
  rcases h with h|⟨o,its,n,hk,hc,hs,hz,r⟩
  · obtain ⟨z,its,r,p⟩:=h.ok I.hok
    exact ⟨its,r,p,z⟩
  · refine ⟨its.toList,r,⟨o,I.kIn a o hk,hc,n,by simpa using hs⟩,?_⟩
    have e:=r.length
    simp only [Array.length_toList] at e
    omega
theorem Inv.list_inj (I:Inv X pins σ H s) (h:SqL X.K H a xs) (h':SqL X.K H a ys):xs=ys:=by
  obtain ⟨its,r,⟨o,n,e,_,_,d⟩,_⟩:=I.list h
  obtain ⟨its',r',⟨o',n',e',_,_,d'⟩,_⟩:=I.list h'
  rw [e] at e';cases e'
  rw [d] at d'
  injection d' with d1 _
  have:its=its':=by simpa using congrArg Array.toList d1
  subst this
  exact r.inj r'
theorem Inv.tuple_inj (I:Inv X pins σ H s) (h:SqT X.K H a xs) (h':SqT X.K H a ys):xs=ys:=by
  obtain ⟨its,r,⟨o,e,_,n,d⟩,_⟩:=I.tuple h
  obtain ⟨its',r',⟨o',e',_,n',d'⟩,_⟩:=I.tuple h'
  rw [e] at e';cases e'
  rw [d] at d'
  injection d' with d1 _
  have:its=its':=by simpa using congrArg Array.toList d1
  subst this
  exact r.inj r'
end
noncomputable abbrev Cx.wish (X:Cx) (E:Value→Shared→Prop):Cx:={ X with xe:=E }
noncomputable abbrev Cx.nox (X:Cx):Cx:=X.wish fun _ _=>False
theorem Cx.Ok.wish {X:Cx} (ok:X.Ok) (E:Value→Shared→Prop):(X.wish E).Ok :=
  ⟨ok.mod,ok.kind,ok.glob,ok.blt,ok.above,ok.inj,ok.has,ok.cab,ok.hd,ok.frames,ok.stk,ok.exf,ok.bs,ok.bsz,ok.noex,ok.exfs,ok.funs,ok.frf⟩
theorem Cx.Ok.unwish {X:Cx} {E:Value→Shared→Prop} (ok:(X.wish E).Ok):X.Ok :=
  ⟨ok.mod,ok.kind,ok.glob,ok.blt,ok.above,ok.inj,ok.has,ok.cab,ok.hd,ok.frames,ok.stk,ok.exf,ok.bs,ok.bsz,ok.noex,ok.exfs,ok.funs,ok.frf⟩
section
variable {X:Cx} {pins:List (Addr×Obj)} {σ:St} {H:Hp} {s:Shared} {E:Value→Shared→Prop}
theorem Inv.wish (I:Inv X pins σ H s) (E:Value→Shared→Prop):Inv (X.wish E) pins σ H s:=⟨I.ok.wish E,I.os,I.bare,I.base,I.loc,I.cell,I.free,I.freeC,I.pin,I.hok,I.len⟩
theorem Inv.unwish (I:Inv (X.wish E) pins σ H s):Inv X pins σ H s:=⟨I.ok.unwish,I.os,I.bare,I.base,I.loc,I.cell,I.free,I.freeC,I.pin,I.hok,I.len⟩
theorem SP.unwish {D:Ends} {f:Flow} {s':Shared} (h:SP (X.wish E) pins D f s'):SP X pins D f s':=by
  cases f with
  | next=>obtain ⟨σ',H',I,q⟩:=h;exact ⟨σ',H',I.unwish,q⟩
  | brk=>obtain ⟨σ',H',I,q⟩:=h;exact ⟨σ',H',I.unwish,q⟩
  | cont=>obtain ⟨σ',H',I,q⟩:=h;exact ⟨σ',H',I.unwish,q⟩
  | ret u=>obtain ⟨v,σ',H',I,r,q⟩:=h;exact ⟨v,σ',H',I.unwish,r,q⟩
theorem PSs.nox {st:List Stmt} {t:TS} (h:PSs X.nox st t):PSs X st t:=fun pins s σ H D I hw =>
  wpAny_mono (h pins s σ H D (I.wish _) hw) (fun _ _ q=>q.unwish) fun _ _ z=>False.elim z
end
section
variable {X:Cx} {st:Stmt} {rest:List Stmt} {t u:TS} {e:Expr} {te:TE} {pos:Pos}
noncomputable def tNext:TS:=fun D σ H=>D.nx σ H
noncomputable def tSeq (t u:TS):TS:=fun D σ H=>t { D with nx:=u D } σ H
theorem pss_nil:PSs X [] tNext:=fun _ _ σ H _ I h=>wpAny_execs_nil ⟨σ,H,I,h⟩
theorem pss_cons (h1:PS X st t) (h2:PSs X rest u):PSs X (st::rest) (tSeq t u):=by
  intro pins s σ H D I h
  refine wpAny_execs_cons (thn (h1 pins s σ H { D with nx:=u D } I h) fun f s1 q=>?_)
  cases f with
  | next =>
    obtain ⟨σ',H',I',q⟩:=q
    exact h2 pins s1 σ' H' D I' q
  | ret v=>exact q
  | brk=>exact q
  | cont=>exact q
theorem pss_one (h1:PS X st t):PSs X [st] t:=by
  intro pins s σ H D I h
  refine wpAny_execs_cons (thn (h1 pins s σ H D I h) fun f s1 q=>?_)
  cases f with
  | next=>exact wpAny_execs_nil q
  | ret v=>exact q
  | brk=>exact q
  | cont=>exact q
theorem Inv.quiet {pins:List (Addr×Obj)} {σ:St} {H:Hp} {s:Shared} (I:Inv X pins σ H s):interactive X.env=false:=by simp [interactive,I.ok.kind]
noncomputable def tDrop (te:TE):TS:=fun D σ H=>te σ H fun _ H1=>D.nx σ H1
theorem ps_expr (he:PE X e te) (hs:swapsWith e none pos.line X.env=pure false:=by rfl):PS X (.Expr e pos) (tDrop te):=by
  intro pins s σ H D I h
  exact wpAny_Expr_any (thn (he pins s σ H _ I h) fun v s1 ⟨x,H1,I1,r1,q1⟩=>⟨σ,H1,I1,q1⟩) I.quiet hs
noncomputable def tRet (te:TE):TS:=fun D σ H=>te σ H D.rt
theorem ps_ret (he:PE X e te):PS X (.Return (some e) pos) (tRet te):=by
  intro pins s σ H D I h
  exact wpAny_Return_some (thn (he pins s σ H _ I h) fun v s1 ⟨x,H1,I1,r1,q1⟩=>⟨x,σ,H1,I1,r1,q1⟩)
noncomputable def tIfS (c:TT) (t u:TS):TS:=fun D σ H=>c σ H fun b H1=>if b=true then t D σ H1 else u D σ H1
theorem ps_if {c:Expr} {a b:List Stmt} {tc:TT} (hc:PT X c tc) (ha:PSs X a t) (hb:PSs X b u):PS X (.If c a b pos) (tIfS tc t u):=by
  intro pins s σ H D I h
  refine wpAny_If (thn (hc pins s σ H _ I h) fun d s1 ⟨H1,I1,q1⟩=>?_)
  cases d with
  | true=>exact ha pins s1 σ H1 D I1 q1
  | false=>exact hb pins s1 σ H1 D I1 q1
noncomputable def tNever:TS:=fun _ _ _=>False
theorem ps_never:PS X st tNever:=fun _ _ _ _ _ _ h=>h.elim
end
abbrev TG:=V→St→Hp→(St→Hp→Prop)→Prop
abbrev TGs:=List V→St→Hp→(St→Hp→Prop)→Prop
def PG (X:Cx) (target:Expr) (t:TG):Prop :=
  ∀ (pins:List (Addr×Obj)) (s:Shared) (σ:St) (H:Hp) (v:V) (u:Value) (Q:St→Hp→Prop),Inv X pins σ H s→RelV v u→t v σ H Q →
    wpAny (model X.prog X.w) X.A (assign target X.env u) (fun _ s'=>∃ σ' H',Inv X pins σ' H' s'∧Q σ' H') X.xe s
def PGs (X:Cx) (ts:List Expr) (t:TGs):Prop :=
  ∀ (pins:List (Addr×Obj)) (s:Shared) (σ:St) (H:Hp) (vs:List V) (us:List Value) (Q:St→Hp→Prop),Inv X pins σ H s→Vals vs us→t vs σ H Q →
    wpAny (model X.prog X.w) X.A (assignInOrder ((assignEach ts X.env).map (·.2)) us) (fun _ s'=>∃ σ' H',Inv X pins σ' H' s'∧Q σ' H') X.xe s
abbrev TIp:=V→V→Hp→VK→Prop
def PIp (X:Cx) (op:Operator) (t:TIp):Prop :=
  ∀ (pins:List (Addr×Obj)) (s:Shared) (σ:St) (H:Hp) (x y:V) (v u:Value) (Q:VK),Inv X pins σ H s→RelV x v→RelV y u→t x y H Q →
    wpAny (model X.prog X.w) X.A (inplaceOp op v u) (EP X pins σ Q) X.xe s
section
variable {X:Cx} {pos:Pos}
noncomputable def gName (i:Nat):TG:=fun v σ H Q=>Q (σ.set i (some v)) H
theorem pg_name {i:Nat} {x:Str} (hN:X.N.Nodup) (hi:X.N[i]?=some x) (hx:Loc X.env.scope x) (hf:X.fn x=true∨X.env.scope.names.lookup x=some .local:=by first|exact .inl rfl|exact .inr rfl|assumption):PG X (.Name x pos) (gName i):=by
  intro pins s σ H v u Q I r h
  exact wpAny_assign_Name (store_ok I hN hi hx r (fun s' I'=>⟨_,H,I',h⟩) hf)
noncomputable def gNil:TGs:=fun vs σ H Q=>vs=[]∧Q σ H
noncomputable def gCons (t:TG) (u:TGs):TGs:=fun vs σ H Q=>∃ v r,vs=v::r∧t v σ H fun σ' H'=>u r σ' H' Q
theorem pgs_nil:PGs X [] gNil:=by
  intro pins s σ H vs us Q I r h
  obtain ⟨e,h⟩:=h
  subst e
  cases r
  exact assignInOrder_nil ⟨σ,H,I,h⟩
theorem pgs_cons {e:Expr} {es:List Expr} {t:TG} {u:TGs} (h1:PG X e t) (h2:PGs X es u)
    (hs:(assignEach (e::es) X.env).map (·.2)=assign e X.env::(assignEach es X.env).map (·.2):=by rfl):PGs X (e::es) (gCons t u):=by
  intro pins s σ H vs us Q I r h
  obtain ⟨v,vr,e1,h⟩:=h
  subst e1
  cases r with
  | cons r rr =>
    rw [hs]
    refine assignInOrder_cons (thn (h1 pins s σ H _ _ _ I r h) fun _ s1 ⟨σ1,H1,I1,q1⟩=>?_)
    exact h2 pins s1 σ1 H1 _ _ Q I1 rr q1
noncomputable def gTup (K:PySem.W.Frag) (n:Nat) (t:TGs):TG:=fun v σ H Q=>∃ a xs,v=.ref a∧SqT K H a xs∧xs.length=n∧t xs σ H Q
theorem pg_tup {es:List Expr} {k:Nat} {t:TGs} {n:Nat} (hc:X.calm=true) (h:PGs X es t)
    (hn:(assignEach es X.env).length=n:=by rfl) (hst:(assignEach es X.env).findIdx? (·.1)=none:=by rfl):PG X (.Tuple es k pos) (gTup X.K n t):=by
  intro pins s σ H v u Q I r hw
  obtain ⟨a,xs,e1,hq,hl,hw⟩:=hw
  subst e1
  cases r
  obtain ⟨its,rv,ht,hz⟩:=I.tuple hq
  refine assign_Tuple_tuple (I.ok.hd hc) ht (by simp [hn,←hl,rv.length]) hst fun h' hx=>?_
  have I1:Inv X pins σ H { s with heap:=h' }:=I.kept (t':=s.toks) fun b o e=>hx b o (Nat.ne_of_lt (Heap.lt_size e)) e
  exact h pins _ σ H xs _ Q I1 (by simpa using rv) hw
noncomputable def tAsg (te:TE) (g:TG):TS:=fun D σ H=>te σ H fun x H1=>g x σ H1 D.nx
theorem ps_asg {tg e:Expr} {te:TE} {g:TG} (he:PE X e te) (hg:PG X tg g) (hs:swapsWithSole [tg] e pos.line X.env=pure false:=by rfl) (hw:swappedStores [tg] e X.env=pure none:=by rfl)
    (h1:(assignEach [tg] X.env).map (·.2)=[assign tg X.env]:=by rfl):PS X (.Assign [tg] e pos) (tAsg te g):=by
  intro pins s σ H D I h
  refine wpAny_Assign_stores (thn (he pins s σ H _ I h) fun v s1 ⟨x,H1,I1,r1,q1⟩=>?_) hs hw
  rw [h1]
  exact thn (hg pins s1 σ H1 x v _ I1 r1 q1) fun _ s2 q=>q
theorem ps_set {i:Nat} {x:Str} {e:Expr} {te:TE} {pos':Pos} (hN:X.N.Nodup) (hi:X.N[i]?=some x) (hx:Loc X.env.scope x) (he:PE X e te) (hs:swapsWith e (some (.Name x pos')) pos.line X.env=pure false:=by rfl) (hf:X.fn x=true∨X.env.scope.names.lookup x=some .local:=by first|exact .inl rfl|exact .inr rfl|assumption) :
    PS X (.Assign [.Name x pos'] e pos) (tAsg te (gName i)):=by
  intro pins s σ H D I h
  refine wpAny_Assign_Name (thn (he pins s σ H _ I h) fun v s1 ⟨y,H1,I1,r1,q1⟩=>?_) hs
  exact store_ok I1 hN hi hx r1 (fun s2 I2=>⟨_,H1,I2,q1⟩) hf
noncomputable def tAug (i:Nat) (te:TE) (ti:TIp):TS:=fun D σ H=>∃ x,σ[i]?=some (some x)∧te σ H fun y H1=>ti x y H1 fun z H2=>D.nx (σ.set i (some z)) H2
theorem ps_aug {i:Nat} {x:Str} {e:Expr} {te:TE} {op:Operator} {ti:TIp} {pos':Pos} (hN:X.N.Nodup) (hi:X.N[i]?=some x) (hx:Loc X.env.scope x) (he:PE X e te) (ho:PIp X op ti) (hf:X.fn x=true∨X.env.scope.names.lookup x=some .local:=by first|exact .inl rfl|exact .inr rfl|assumption) :
    PS X (.AugAssign (.Name x pos') op e pos) (tAug i te ti):=by
  intro pins s σ H D I h
  obtain ⟨v,e1,h⟩:=h
  obtain ⟨m,hn,hl⟩:=I.loc
  have vis:Vis X.env.scope x:=by rcases hx with k|k;exact .inl k;exact .inr (.inl k)
  obtain ⟨u,r,l⟩:=hl i x v hi e1 vis
  refine wpAny_AugAssign_Name ?_
  have go:wpAny (model X.prog X.w) X.A (eval e X.env) (fun w s₂=>wpAny (model X.prog X.w) X.A (inplaceOp op u w) (fun r s₃=>wpAny (model X.prog X.w) X.A (storeName X.env x r) (fun _=>SP X pins D .next) X.xe s₃) X.xe s₂) X.xe s:=by
    refine thn (he pins s σ H _ I h) fun w s1 ⟨y,H1,I1,r1,q1⟩=>?_
    refine thn (ho pins s1 σ H1 v y u w _ I1 r r1 q1) fun z s2 ⟨zv,H2,I2,r2,q2⟩=>?_
    exact store_ok I2 hN hi hx r2 (fun s3 I3=>⟨_,H2,I3,q2⟩) hf
  rcases l with ⟨hk,hm⟩|⟨hk,c,hc,hcell⟩
  · exact wpAny_loadName_local I.ok.kind hk hn hm go
  · rcases hk with hk|hk
    · exact wpAny_loadName_cell I.ok.kind hk hc hcell go
    · rcases hx with k|k
      · have:X.env.scope.names.lookup x=some .free:=hk
        rw [k] at this;cases this
      · have:X.env.scope.names.lookup x=some .free:=hk
        rw [k] at this;cases this
noncomputable def ipI (f:Int→Int→Int):TIp:=fun x y H Q=>∃ i j,x=.int i∧y=.int j∧Q (.int (f i j)) H
theorem ip_add:PIp X .Add (ipI fun i j=>i+j):=by
  intro pins s σ H x y v u Q I r1 r2 h
  obtain ⟨i,j,e1,e2,q⟩:=h
  subst e1;subst e2
  obtain ⟨t,rfl⟩:=r1
  obtain ⟨t',rfl⟩:=r2
  exact iadd_int ⟨.int _,H,I.tok _,⟨_,rfl⟩,q⟩
end
section
variable {X:Cx} {pos:Pos}
noncomputable def tWhile (c:TT) (tb:TS):TS:=fun D σ H=>∃ W:Nat→St→Hp→Prop,(∃ m,W m σ H)∧∀ m σ H,W m σ H →
  c σ H fun b H1=>if b=true then ∃ N:St→Hp→Prop,(∀ σ' H',N σ' H'→∃ m',m' < m∧W m' σ' H')∧tb { D with nx:=N,ct:=N,bk:=D.nx } σ H1 else D.nx σ H1
theorem ps_while {c:Expr} {body:List Stmt} {tc:TT} {tb:TS} (hp:PassesOwn (model X.prog X.w) X.A X.env X.xe) (hc:PT X c tc) (hb:PSs X body tb):PS X (.While c body [] pos) (tWhile tc tb):=by
  intro pins s σ H D I h
  obtain ⟨W,⟨m0,w0⟩,turn⟩:=h
  refine wpAny_While (codeAny_whileLoop (fun n s'=>∃ σ' H',Inv X pins σ' H' s'∧W n σ' H') ?_ m0 ⟨σ,H,I,w0⟩)
  rintro n s1 ⟨σ1,H1,I1,w1⟩
  refine wpAny_passesOwn hp (thn (hc pins s1 σ1 H1 _ I1 (turn n σ1 H1 w1)) fun b s2 ⟨H2,I2,q2⟩=>?_)
  cases b with
  | true =>
    obtain ⟨N,hN,q2⟩:=q2
    rw [if_pos rfl]
    refine wpAny_passesOwn hp (thn (hb pins s2 σ1 H2 _ I2 q2) fun f s3 q3=>?_)
    cases f with
    | next =>
      obtain ⟨σ3,H3,I3,n3⟩:=q3
      obtain ⟨m',hm,w3⟩:=hN σ3 H3 n3
      exact ⟨m',hm,σ3,H3,I3,w3⟩
    | cont =>
      obtain ⟨σ3,H3,I3,n3⟩:=q3
      obtain ⟨m',hm,w3⟩:=hN σ3 H3 n3
      exact ⟨m',hm,σ3,H3,I3,w3⟩
    | brk=>exact q3
    | ret v=>exact q3
  | false =>
    rw [if_neg Bool.false_ne_true]
    exact wpAny_execs_nil ⟨σ1,H2,I2,q2⟩
end
structure It where
  go:Nat→Hp→Prop
  yld:Nat→Hp→V→Hp→Prop
  stop:Nat→Hp→Prop
def FpOk (X:Cx) (pins:List (Addr×Obj)) (H:Hp) (b:Addr):Prop :=
  H b=none∧b≠X.env.locals∧b∉X.fs∧(b∈X.ex∨X.s₀.heap.objs.size≤b)∧(∀ x c,X.env.cells.lookup x=some c→c≠b)∧∀ p∈X.pn++pins,p.1≠b
theorem Inv.fpOk {X:Cx} {pins:List (Addr×Obj)} {σ:St} {H H':Hp} {s:Shared} {b:Addr} (I:Inv X pins σ H s) (hb:s.heap.objs.size≤b) (hn:H' b=none):FpOk X pins H' b:=by
  refine ⟨hn,Nat.ne_of_gt (Nat.lt_of_lt_of_le I.lt hb),I.nofs hb,.inr (Nat.le_trans I.sz hb),fun x c e z=>?_,fun p hp z=>?_⟩
  · obtain ⟨v,q⟩:=I.cell x c e
    exact absurd (Nat.lt_of_lt_of_le q.lt (by rw [z];exact hb)) (Nat.lt_irrefl _)
  · exact absurd (Nat.lt_of_lt_of_le (Heap.lt_size (I.pin p hp).1) (by rw [z];exact hb)) (Nat.lt_irrefl _)
structure Turn (P:Program) (w:World) (K:PySem.W.Frag) (tg:Expr) (J:It) (fp:List Addr) (it:Addr) (tn:Nat→Heap→Prop):Prop where
  mem:it∈fp
  obj:∀ i h,tn i h→∀ b∈fp,∃ o,h.get? b=some o∧∀ v,o.data≠.cell v
  keep:∀ i h h',tn i h→(∀ b∈fp,∀ o,h.get? b=some o→h'.get? b=some o)→tn i h'
  item:∀ (X:Cx),X.prog=P→X.w=w→X.K=K→X.calm=true→∀ (i:Nat) (pins:List (Addr×Obj)) (s:Shared) (σ:St) (H:Hp) (E:Value→Shared→Prop),Inv X pins σ H s→(∀ b∈fp,FpOk X pins H b)→tn i s.heap→J.go i H →
    wpAny (model P w) X.A (pyNext (.ref it)) (fun r s1=>∃ u,r=some u ∧
      wpAny (model P w) X.A (letOwnedTupleGo tg (.ref it) u) (fun _ s2=>∃ x H',Inv X pins σ H' s2∧RelV x u∧J.yld i H x H'∧tn (i+1) s2.heap∧∀ b∈fp,H' b=none) E s1) E s
  done:∀ (X:Cx),X.prog=P→X.w=w→X.K=K→X.calm=true→∀ (i:Nat) (pins:List (Addr×Obj)) (s:Shared) (σ:St) (H:Hp) (E:Value→Shared→Prop),Inv X pins σ H s→(∀ b∈fp,FpOk X pins H b)→tn i s.heap→J.stop i H →
    wpAny (model P w) X.A (pyNext (.ref it)) (fun r s1=>r=none∧Inv X pins σ H s1) E s
  self:∀ (A:Around) (i:Nat) (s:Shared) (Q:Value→Shared→Prop) (E:Value→Shared→Prop),tn i s.heap→Q (.ref it) s→wpAny (model P w) A (pyIter (.ref it)) Q E s
abbrev TI:=St→Hp→(It→Hp→Prop)→Prop
def PIE (X:Cx) (pins:List (Addr×Obj)) (σ:St) (tg:Expr) (R:It→Hp→Prop) (itv:Value) (s2:Shared):Prop :=
  ∃ (it:Addr) (fp:List Addr) (tn:Nat→Heap→Prop) (J:It) (H':Hp),itv=.ref it∧Inv X pins σ H' s2∧Turn X.prog X.w X.K tg J fp it tn∧tn 0 s2.heap∧(∀ b∈fp,FpOk X pins H' b)∧R J H'
def PI (X:Cx) (tg iter:Expr) (wi:TI):Prop :=
  ∀ (pins:List (Addr×Obj)) (s:Shared) (σ:St) (H:Hp) (R:It→Hp→Prop),Inv X pins σ H s→wi σ H R →
    wpAny (model X.prog X.w) X.A (eval iter X.env) (fun v s1=>wpAny (model X.prog X.w) X.A (pyIter v) (PIE X pins σ tg R) X.xe s1) X.xe s
theorem go_of {M:Model} {A:Around} {E:Value→Shared→Prop} {s:Shared} {tg:Expr} {it:Addr} {u:Value} {o:Obj} {n:String} {vs:Array Value} {Q:Unit→Shared→Prop} (ho:s.heap.get? it=some o) (hc:o.cls=.type n) (hd:o.data=.fields vs)
    (hn:["enumerate", "zip", "dict_itemiterator", "dict_reverseitemiterator", "odict_iterator", "itertools.zip_longest", "itertools.pairwise"].contains n=false) (hQ:Q () s):wpAny M A (letOwnedTupleGo tg (.ref it) u) Q E s:=by
  unfold letOwnedTupleGo
  cases tg <;> first
    | exact wpAny_pure hQ
    | (cases u <;> first
        | exact wpAny_pure hQ
        | (refine wpAny_bind (wpAny_load ho ?_)
           rw [hc,hd]
           show wpAny M A (if (["enumerate", "zip", "dict_itemiterator", "dict_reverseitemiterator", "odict_iterator", "itertools.zip_longest", "itertools.pairwise"].contains n && vs[0]? == some (rawInt _))=true then _ else _) Q E s
           rw [if_neg (by intro h;rw [hn,Bool.false_and] at h;cases h)]
           exact wpAny_pure hQ))
noncomputable def Itl (K:PySem.W.Frag) (a:Addr):It :=
  ⟨fun i H=>∃ xs x,SqL K H a xs∧xs[i]?=some x,fun i H x H'=>H'=H∧∀ xs,SqL K H a xs→xs[i]?=some x,fun i H=>∃ xs,SqL K H a xs∧xs.length≤i⟩
noncomputable def Itt (K:PySem.W.Frag) (a:Addr):It :=
  ⟨fun i H=>∃ xs x,SqT K H a xs∧xs[i]?=some x,fun i H x H'=>H'=H∧∀ xs,SqT K H a xs→xs[i]?=some x,fun i H=>∃ xs,SqT K H a xs∧xs.length≤i⟩
noncomputable def Itr (lo:Int) (n:Nat):It:=⟨fun i _=>i < n,fun i H x H'=>H'=H∧x=.int (lo+i),fun i _=>n≤i⟩
theorem turn_list {P:Program} {w:World} {K:PySem.W.Frag} {tg:Expr} (a it:Addr):Turn P w K tg (Itl K a) [it] it (fun i h=>h.IsListIter it a i) where
  mem:=by simp
  obj:=fun i h st b hb=>by
    have e:b=it:=by simpa using hb
    subst e
    obtain ⟨o,e,c,d⟩:=st
    exact ⟨o,e,fun v z=>by rw [d] at z;cases z⟩
  keep:=fun i h h' st k=>st.at fun o e=>k it (by simp) o e
  item:=by
    intro X hP hw hK hc i pins s σ H E I hf st hg
    subst hP hw hK
    obtain ⟨xs,x,hq,hx⟩:=hg
    obtain ⟨its,rv,p,hz⟩:=I.list hq
    obtain ⟨u,hu,ru⟩:=rv.get hx
    obtain ⟨f0,f1,f2,f3,f4,f5⟩:=hf it (by simp)
    refine wpAny_pyNext_list_item st p.isList (x:=u) (by simpa using hu) fun h' st' sb=>?_
    have I1:Inv X pins σ H { s with heap:=h' }:=I.turned (t':=s.toks) (fun b o hb e=>(sb.2 b hb).trans e) f0 f1 f3 f4 f5
    obtain ⟨o,e,c,d⟩:=id st'
    exact ⟨u,rfl,go_of (s:={ s with heap:=h' }) e c d (by decide) ⟨x,H,I1,ru,⟨rfl,fun ys hy=>by rw [I.list_inj hy hq];exact hx⟩,st',fun b hb=>(hf b hb).1⟩⟩
  done:=by
    intro X hP hw hK hc i pins s σ H E I hf st hg
    subst hP hw hK
    obtain ⟨xs,hq,hx⟩:=hg
    obtain ⟨its,rv,p,hz⟩:=I.list hq
    obtain ⟨f0,f1,f2,f3,f4,f5⟩:=hf it (by simp)
    have hl:=rv.length
    exact wpAny_pyNext_list_end (I.ok.hd hc) st p.isList (by simp;omega) fun h' eb=>⟨rfl,I.turned (t':=s.toks) (fun b o hb e=>eb b o hb e) f0 f1 f3 f4 f5⟩
  self:=fun _ _ _ _ _ st h=>wpAny_pyIter_listiter st h
theorem turn_tuple {P:Program} {w:World} {K:PySem.W.Frag} {tg:Expr} (a it:Addr):Turn P w K tg (Itt K a) [it] it (fun i h=>h.IsTupleIter it a i) where
  mem:=by simp
  obj:=fun i h st b hb=>by
    have e:b=it:=by simpa using hb
    subst e
    obtain ⟨o,e,c,d⟩:=st
    exact ⟨o,e,fun v z=>by rw [d] at z;cases z⟩
  keep:=fun i h h' st k=>st.at fun o e=>k it (by simp) o e
  item:=by
    intro X hP hw hK hc i pins s σ H E I hf st hg
    subst hP hw hK
    obtain ⟨xs,x,hq,hx⟩:=hg
    obtain ⟨its,rv,p,hz⟩:=I.tuple hq
    obtain ⟨u,hu,ru⟩:=rv.get hx
    obtain ⟨f0,f1,f2,f3,f4,f5⟩:=hf it (by simp)
    refine wpAny_pyNext_tuple_item st (show s.heap.IsTuple a its.toArray from p) (x:=u) (by simpa using hu) fun h' st' sb=>?_
    have I1:Inv X pins σ H { s with heap:=h' }:=I.turned (t':=s.toks) (fun b o hb e=>(sb.2 b hb).trans e) f0 f1 f3 f4 f5
    obtain ⟨o,e,c,d⟩:=id st'
    exact ⟨u,rfl,go_of (s:={ s with heap:=h' }) e c d (by decide) ⟨x,H,I1,ru,⟨rfl,fun ys hy=>by rw [I.tuple_inj hy hq];exact hx⟩,st',fun b hb=>(hf b hb).1⟩⟩
  done:=by
    intro X hP hw hK hc i pins s σ H E I hf st hg
    subst hP hw hK
    obtain ⟨xs,hq,hx⟩:=hg
    obtain ⟨its,rv,p,hz⟩:=I.tuple hq
    obtain ⟨f0,f1,f2,f3,f4,f5⟩:=hf it (by simp)
    have hl:=rv.length
    exact wpAny_pyNext_tuple_end (I.ok.hd hc) st (show s.heap.IsTuple a its.toArray from p) (by simp;omega) fun h' eb=>⟨rfl,I.turned (t':=s.toks) (fun b o hb e=>eb b o hb e) f0 f1 f3 f4 f5⟩
  self:=fun _ _ _ _ _ st h=>wpAny_pyIter_tupleiter st h
theorem turn_range {P:Program} {w:World} {K:PySem.W.Frag} {tg:Expr} (it:Addr) (lo:Int) (n:Nat):Turn P w K tg (Itr lo n) [it] it (fun i h=>IsRangeIter h it (lo+(i:Nat)*1) ((n:Int) - (i:Nat)) 1) where
  mem:=by simp
  obj:=fun i h st b hb=>by
    have e:b=it:=by simpa using hb
    subst e
    exact ⟨_,st,fun v z=>by
      have z':Data.fields _=Data.cell v:=z
      cases z'⟩
  keep:=fun i h h' st k=>k it (by simp) _ st
  item:=by
    intro X hP hw hK hc i pins s σ H E I hf st hg
    subst hP hw hK
    obtain ⟨f0,f1,f2,f3,f4,f5⟩:=hf it (by simp)
    have W:=Walks.range (prog:=X.prog) (w:=X.w) (I.ok.hd hc) it lo 1 n
    refine W.item i s _ _ hg st fun v h' tk hv st' kk=>?_
    obtain ⟨t,rfl⟩:=hv
    have I1:Inv X pins σ H { s with heap:=h',toks:=tk }:=I.turned (fun b o hb e=>kk b o (by simpa using hb) e) f0 f1 f3 f4 f5
    refine ⟨_,rfl,go_of (s:={ s with heap:=h',toks:=tk }) (n := "range_iterator") st' rfl rfl (by decide) ⟨.int (lo+i),H,I1,⟨t,?_⟩,⟨rfl,rfl⟩,st',fun b hb=>(hf b hb).1⟩⟩
    rw [Int.mul_one]
  done:=by
    intro X hP hw hK hc i pins s σ H E I hf st hg
    subst hP hw hK
    obtain ⟨f0,f1,f2,f3,f4,f5⟩:=hf it (by simp)
    exact wpAny_pyNext_range_end (I.ok.hd hc) st (by have:n≤i:=hg;omega) fun h' eb=>⟨rfl,I.turned (t':=s.toks) (fun b o hb e=>eb b o hb e) f0 f1 f3 f4 f5⟩
  self:=fun _ _ _ _ _ st h=>wpAny_pyIter_rangeiter st h
end L2
namespace L2
open PySem PySem.Spec PyProof.Rows
section
variable {X:Cx} {tg:Expr}
noncomputable def iList (K:PySem.W.Frag) (tl:TE):TI:=fun σ H R=>tl σ H fun x H1=>∃ a,x=.ref a∧(∃ xs,SqL K H1 a xs)∧R (Itl K a) H1
noncomputable def iTup (K:PySem.W.Frag) (tl:TE):TI:=fun σ H R=>tl σ H fun x H1=>∃ a,x=.ref a∧(∃ xs,SqT K H1 a xs)∧R (Itt K a) H1
theorem pi_list {l:Expr} {tl:TE} (hl:PE X l tl):PI X tg l (iList X.K tl):=by
  intro pins s σ H R I h
  refine thn (hl pins s σ H _ I h) fun v s1 ⟨x,H1,I1,r1,q1⟩=>?_
  obtain ⟨a,e,⟨xs,hq⟩,q⟩:=q1
  subst e
  cases r1
  obtain ⟨its,rv,p,hz⟩:=I1.list hq
  refine wpAny_pyIter_list p.isList ?_
  refine ⟨s1.heap.objs.size,[s1.heap.objs.size],_,_,H1,rfl,I1.kept (t':=s1.toks) fun b o e=>Heap.get?_push_of_some _ e,turn_list a _,⟨_,Heap.get?_push_size _ rfl,rfl,rfl⟩,fun b hb=>?_,q⟩
  have e:b=s1.heap.objs.size:=by simpa using hb
  subst e
  exact I1.fpOk (Nat.le_refl _) (I1.hok.fresh (Nat.le_refl _))
theorem pi_tup {l:Expr} {tl:TE} (hl:PE X l tl):PI X tg l (iTup X.K tl):=by
  intro pins s σ H R I h
  refine thn (hl pins s σ H _ I h) fun v s1 ⟨x,H1,I1,r1,q1⟩=>?_
  obtain ⟨a,e,⟨xs,hq⟩,q⟩:=q1
  subst e
  cases r1
  obtain ⟨its,rv,p,hz⟩:=I1.tuple hq
  refine wpAny_pyIter_tuple (show s1.heap.IsTuple a its.toArray from p) ?_
  refine ⟨s1.heap.objs.size,[s1.heap.objs.size],_,_,H1,rfl,I1.kept (t':=s1.toks) fun b o e=>Heap.get?_push_of_some _ e,turn_tuple a _,⟨_,Heap.get?_push_size _ rfl,rfl,rfl⟩,fun b hb=>?_,q⟩
  have e:b=s1.heap.objs.size:=by simpa using hb
  subst e
  exact I1.fpOk (Nat.le_refl _) (I1.hok.fresh (Nat.le_refl _))
theorem range_it {pins:List (Addr×Obj)} {σ:St} {H:Hp} {s:Shared} {R:It→Hp→Prop} {E:Value→Shared→Prop} {lo hi:Int} {t u v:Tok} {tk:Nat} (I:Inv X pins σ H s) (h1:-(2 ^ 62)≤lo) (h2:lo < 2 ^ 62) (h3:-(2 ^ 62)≤hi) (h4:hi < 2 ^ 62)
    (q:R (Itr lo (hi - lo).toNat) H):wpAny (model X.prog X.w) X.A (pyIter (.ref s.heap.objs.size)) (PIE X pins σ tg R) E { s with heap:=s.heap.push { cls:=.type "range", data:=.fields #[.int lo t,.int hi u,.int 1 v] },toks:=tk }:=by
  refine wpAny_pyIter_range (IsRange.new ..) (small_one h1 h2 h3 h4) ?_
  have I1:Inv X pins σ H { s with heap:=s.heap.push { cls:=.type "range", data:=.fields #[.int lo t,.int hi u,.int 1 v] },toks:=tk }:=I.kept fun b o e=>Heap.get?_push_of_some _ e
  refine ⟨(s.heap.push { cls:=.type "range", data:=.fields #[.int lo t,.int hi u,.int 1 v] }).objs.size,[(s.heap.push { cls:=.type "range", data:=.fields #[.int lo t,.int hi u,.int 1 v] }).objs.size],_,_,H,rfl,
    I1.kept (t':=tk) fun b o e=>Heap.get?_push_of_some _ e,turn_range _ lo (hi - lo).toNat,?_,fun b hb=>?_,q⟩
  · have e1:lo+((0:Nat):Int)*1=lo:=by simp
    have e2:(((hi - lo).toNat:Nat):Int) - ((0:Nat):Int)=Builtin.Range.rangeSize lo hi 1:=by rw [rangeSize_one];split <;> omega
    show IsRangeIter _ _ (lo+((0:Nat):Int)*1) ((((hi - lo).toNat:Nat):Int) - ((0:Nat):Int)) 1
    rw [e1,e2]
    exact Heap.get?_push_size _ rfl
  · have e:b=(s.heap.push { cls:=.type "range", data:=.fields #[.int lo t,.int hi u,.int 1 v] }).objs.size:=by simpa using hb
    subst e
    exact I1.fpOk (Nat.le_refl _) (I1.hok.fresh (Nat.le_refl _))
noncomputable def iRng1 (ta:TA):TI:=fun σ H R=>ta σ H fun vs H1=>∃ j:Int,vs=[.int j]∧-(2 ^ 62)≤j∧j < 2 ^ 62∧R (Itr 0 j.toNat) H1
theorem pi_range1 {a:Expr} {ta:TA} {p pos:Pos} (hg:Gl X "range") (hm:X.mg "range" = none) (ha:PA X [a] ta) (hs:starEach [a] X.env=[(false,eval a X.env)]:=by rfl):PI X tg (.Call (.Name "range" p) [a] [] pos) (iRng1 ta):=by
  intro pins s σ H R I h
  refine Call_ (ld_blt I hg hm boot_range (PyProof.Rows.callWith_type1 (thn (ha pos pins s σ H _ I h) fun us s1 ⟨vs,H1,I1,r1,q1⟩=>?_) hs rfl))
  obtain ⟨j,e,q1,q2,q⟩:=q1
  subst e
  cases r1 with
  | cons r rr =>
    cases rr
    obtain ⟨t,rfl⟩:=r
    exact call_range_1 (range_it I1 (by omega) (by omega) q1 q2 (by simpa using q))
noncomputable def tFor (wi:TI) (g:TG) (tb:TS):TS:=fun D σ H=>wi σ H fun J H1=>∃ W:Nat→Nat→St→Hp→Prop,(∃ m,W 0 m σ H1)∧∀ i m σ H,W i m σ H →
  (J.stop i H∧D.nx σ H)∨(J.go i H∧∃ N:St→Hp→Prop,(∀ σ' H',N σ' H'→∃ m',m' < m∧W (i+1) m' σ' H')∧∀ x H',J.yld i H x H'→g x σ H' fun σ2 H2=>tb { D with nx:=N,ct:=N,bk:=D.nx } σ2 H2)
noncomputable def pinsAt (fp:List Addr) (h:Heap):List (Addr×Obj):=fp.filterMap fun b=>(h.get? b).map fun o=>(b,o)
theorem mem_pinsAt {fp:List Addr} {h:Heap} {b:Addr} {o:Obj} (hb:b∈fp) (e:h.get? b=some o):(b,o)∈pinsAt fp h:=List.mem_filterMap.mpr ⟨b,hb,by rw [e];rfl⟩
theorem of_pinsAt {fp:List Addr} {h:Heap} {p:Addr×Obj} (hp:p∈pinsAt fp h):p.1∈fp∧h.get? p.1=some p.2:=by
  obtain ⟨b,hb,e⟩:=List.mem_filterMap.mp hp
  cases q:h.get? b with
  | none=>rw [q] at e;cases e
  | some o =>
    rw [q] at e
    have e':(b,o)=p:=Option.some.inj e
    subst e'
    exact ⟨hb,q⟩
theorem Inv.pinned {pins:List (Addr×Obj)} {σ:St} {H:Hp} {s:Shared} {fp:List Addr} (I:Inv X pins σ H s) (hf:∀ b∈fp,FpOk X pins H b) (ho:∀ b∈fp,∃ o,s.heap.get? b=some o∧∀ v,o.data≠.cell v):Inv X (pins++pinsAt fp s.heap) σ H s :=
  I.pins_of fun p hp=>(List.mem_append.mp hp).elim (fun z=>I.pin p (List.mem_append_right _ z)) fun z=>by
    obtain ⟨hb,e⟩:=of_pinsAt z
    obtain ⟨f0,f1,f2,_⟩:=hf p.1 hb
    obtain ⟨o,e',d⟩:=ho p.1 hb
    rw [e] at e';cases e'
    exact ⟨e,f0,f1,f2,d⟩
theorem Inv.unpinned {pins pl:List (Addr×Obj)} {σ:St} {H:Hp} {s:Shared} (I:Inv X (pins++pl) σ H s):Inv X pins σ H s:=I.pins_of fun p hp=>I.pin p (List.mem_append_right _ (List.mem_append_left _ hp))
theorem ps_for {iter:Expr} {body:List Stmt} {wi:TI} {g:TG} {tb:TS} {pos:Pos} (hp:PassesOwn (model X.prog X.w) X.A X.env X.xe) (hc:X.calm=true) (hi:PI X tg iter wi) (hg:PG X tg g) (hb:PSs X body tb)
    (hs:∀ x,foldedSetIterable iter X.env x=pure x:=by intro _;rfl):PS X (.For tg iter body [] pos) (tFor wi g tb):=by
  intro pins s σ H D I h
  refine wpAny_For (thn (hi pins s σ H _ I h) fun v s1 h1=>thn h1 fun itv s2 h2=>?_) hs
  obtain ⟨it,fp,tn,J,H2,e,I2,T,st2,f2,W,⟨m0,w0⟩,turn⟩:=h2
  subst e
  have stat:∀ {H':Hp},(∀ b∈fp,H' b=none)→∀ b∈fp,FpOk X pins H' b:=fun hn b hb=>⟨hn b hb,(f2 b hb).2⟩
  refine codeAny_forLoop_any (fun n s'=>∃ i σ' H',Inv X pins σ' H' s'∧tn i s'.heap∧(∀ b∈fp,H' b=none)∧W i n σ' H') ?_ m0 ⟨0,σ,H2,I2,st2,fun b hb=>(f2 b hb).1,w0⟩
  rintro n s3 ⟨i,σ3,H3,I3,st3,fr3,w3⟩
  rcases turn i n σ3 H3 w3 with ⟨stop,qn⟩|⟨go,N,hN,step⟩
  · refine wpAny_passesOwn hp (thn (T.done X rfl rfl rfl hc i pins s3 σ3 H3 X.xe I3 (stat fr3) st3 stop) fun r s4 ⟨hr,I4⟩=>?_)
    subst hr
    exact wpAny_execs_nil ⟨σ3,H3,I4,qn⟩
  · refine wpAny_passesOwn hp (thn (T.item X rfl rfl rfl hc i pins s3 σ3 H3 X.xe I3 (stat fr3) st3 go) fun r s4 ⟨u,hr,h4⟩=>?_)
    subst hr
    refine wpAny_passesOwn hp (thn h4 fun _ s5 ⟨x,H5,I5,r5,y5,st5,fr5⟩=>?_)
    have I5':=I5.pinned (stat fr5) (T.obj _ _ st5)
    refine wpAny_passesOwn hp (thn (hg _ s5 σ3 H5 x u _ I5' r5 (step x H5 y5)) fun _ s6 ⟨σ6,H6,I6,q6⟩=>?_)
    refine wpAny_passesOwn hp (thn (hb _ s6 σ6 H6 _ I6 q6) fun f s7 q7=>?_)
    have again:∀ {σ7:St} {H7:Hp},Inv X (pins++pinsAt fp s5.heap) σ7 H7 s7→N σ7 H7→∃ m,m < n∧∃ i σ' H',Inv X pins σ' H' s7∧tn i s7.heap∧(∀ b∈fp,H' b=none)∧W i m σ' H':=fun {σ7 H7} I7 n7=>by
      obtain ⟨m',hm,w7⟩:=hN σ7 H7 n7
      refine ⟨m',hm,i+1,σ7,H7,I7.unpinned,T.keep _ _ _ st5 fun b hb o e=>(I7.pin (b,o) (List.mem_append_right _ (List.mem_append_right _ (mem_pinsAt hb e)))).1,fun b hb=>?_,w7⟩
      obtain ⟨o,e,d⟩:=T.obj _ _ st5 b hb
      exact (I7.pin (b,o) (List.mem_append_right _ (List.mem_append_right _ (mem_pinsAt hb e)))).2.1
    cases f with
    | next=>obtain ⟨σ7,H7,I7,n7⟩:=q7;exact again I7 n7
    | cont=>obtain ⟨σ7,H7,I7,n7⟩:=q7;exact again I7 n7
    | brk=>obtain ⟨σ7,H7,I7,q7⟩:=q7;exact ⟨σ7,H7,I7.unpinned,q7⟩
    | ret v=>obtain ⟨x7,σ7,H7,I7,r7,q7⟩:=q7;exact ⟨x7,σ7,H7,I7.unpinned,r7,q7⟩
end
end L2
namespace L2
open PySem PySem.Spec PyProof.Rows
abbrev R2:=V→V→Hp→VK→Prop
def OpR (X:Cx) (f:Value→Value→Sem Value) (r:R2):Prop :=
  ∀ (pins:List (Addr×Obj)) (s:Shared) (σ:St) (H:Hp) (x y:V) (v u:Value) (Q:VK),Inv X pins σ H s→RelV x v→RelV y u→r x y H Q →
    wpAny (model X.prog X.w) X.A (f v u) (EP X pins σ Q) X.xe s
def UnR (X:Cx) (f:Value→Sem Value) (r:V→Hp→VK→Prop):Prop :=
  ∀ (pins:List (Addr×Obj)) (s:Shared) (σ:St) (H:Hp) (x:V) (v:Value) (Q:VK),Inv X pins σ H s→RelV x v→r x H Q →
    wpAny (model X.prog X.w) X.A (f v) (EP X pins σ Q) X.xe s
def CallR (X:Cx) (f:Value) (r:List V→Hp→VK→Prop):Prop :=
  ∀ (pins:List (Addr×Obj)) (s:Shared) (σ:St) (H:Hp) (xs:List V) (us:List Value) (Q:VK),Inv X pins σ H s→Vals xs us→r xs H Q →
    wpAny (model X.prog X.w) X.A (call f us) (EP X pins σ Q) X.xe s
def TruR (X:Cx) (r:V→Hp→(Bool→Hp→Prop)→Prop):Prop :=
  ∀ (pins:List (Addr×Obj)) (s:Shared) (σ:St) (H:Hp) (x:V) (v:Value) (Q:Bool→Hp→Prop),Inv X pins σ H s→RelV x v→r x H Q →
    wpAny (model X.prog X.w) X.A (truthy v) (TP X pins σ Q) X.xe s
noncomputable def tOp (r:R2) (ta tb:TE):TE:=fun σ H Q=>ta σ H fun x H1=>tb σ H1 fun y H2=>r x y H2 Q
noncomputable def tUn (r:V→Hp→VK→Prop) (ta:TE):TE:=fun σ H Q=>ta σ H fun x H1=>r x H1 Q
noncomputable def rI (C:Int→Int→Prop) (g:Int→Int→V):R2:=fun x y H Q=>∃ i j,x=.int i∧y=.int j∧C i j∧Q (g i j) H
noncomputable def rI0 (g:Int→Int→V):R2:=fun x y H Q=>∃ i j,x=.int i∧y=.int j∧Q (g i j) H
def rU (g:Int→V):V→Hp→VK→Prop:=fun x H Q=>∃ i,x=.int i∧Q (g i) H
section
variable {X:Cx} {a b c:Expr} {ta tb tc:TE} {pos:Pos}
theorem binT (ha:PE X a ta) (hb:PE X b tb) {pins:List (Addr×Obj)} {s:Shared} {σ:St} {H:Hp} {R:V→V→Hp→Prop} (I:Inv X pins σ H s)
    (h:ta σ H fun x H1=>tb σ H1 fun y H2=>R x y H2) {Q:Value→Shared→Prop} {f:Value→Value→Sem Value}
    (hf:∀ v u s2 x y H2,Inv X pins σ H2 s2→RelV x v→RelV y u→R x y H2→wpAny (model X.prog X.w) X.A (f v u) Q X.xe s2) :
    wpAny (model X.prog X.w) X.A (eval a X.env) (fun v s₁=>wpAny (model X.prog X.w) X.A (eval b X.env) (fun u s₂=>wpAny (model X.prog X.w) X.A (f v u) Q X.xe s₂) X.xe s₁) X.xe s:=by
  refine thn (ha pins s σ H _ I h) fun v s1 ⟨x,H1,I1,r1,q1⟩=>?_
  refine thn (hb pins s1 σ H1 _ I1 q1) fun u s2 ⟨y,H2,I2,r2,q2⟩=>?_
  exact hf v u s2 x y H2 I2 r1 r2 q2
theorem pe_op {op:Operator} {r:R2} (ho:OpR X (binaryOp op) r) (ha:PE X a ta) (hb:PE X b tb):PE X (.BinOp a op b pos) (tOp r ta tb):=by
  intro pins s σ H Q I h
  exact wpAny_BinOp (binT ha hb I h fun v u s2 x y H2 I2 rx ry q=>ho pins s2 σ H2 x y v u Q I2 rx ry q)
theorem pe_un {op:UnaryOp} {r:V→Hp→VK→Prop} (ho:UnR X (unaryOp op) r) (ha:PE X a ta):PE X (.UnaryOp op a pos) (tUn r ta):=by
  intro pins s σ H Q I h
  exact UnaryOp_ (thn (ha pins s σ H _ I h) fun v s1 ⟨x,H1,I1,r1,q1⟩=>ho pins s1 σ H1 x v Q I1 r1 q1)
theorem opI {f:Value→Value→Sem Value} {C:Int→Int→Prop} {g:Int→Int→Int}
    (rule:∀ (i j:Int) (t u:Tok) (s:Shared) (Q:Value→Shared→Prop) (E:Value→Shared→Prop),C i j→Q (.int (g i j) s.toks) { s with toks:=s.toks+1 }→wpAny (model X.prog X.w) X.A (f (.int i t) (.int j u)) Q E s) :
    OpR X f (rI C fun i j=>.int (g i j)):=by
  intro pins s σ H x y v u Q I rx ry h
  obtain ⟨i,j,rfl,rfl,hc,q⟩:=h
  obtain ⟨t,rfl⟩:=rx
  obtain ⟨t',rfl⟩:=ry
  exact rule i j t t' s _ _ hc ⟨.int (g i j),H,I.tok _,⟨_,rfl⟩,q⟩
theorem opI0 {f:Value→Value→Sem Value} {g:Int→Int→Int}
    (rule:∀ (i j:Int) (t u:Tok) (s:Shared) (Q:Value→Shared→Prop) (E:Value→Shared→Prop),Q (.int (g i j) s.toks) { s with toks:=s.toks+1 }→wpAny (model X.prog X.w) X.A (f (.int i t) (.int j u)) Q E s) :
    OpR X f (rI0 fun i j=>.int (g i j)):=by
  intro pins s σ H x y v u Q I rx ry h
  obtain ⟨i,j,rfl,rfl,q⟩:=h
  obtain ⟨t,rfl⟩:=rx
  obtain ⟨t',rfl⟩:=ry
  exact rule i j t t' s _ _ ⟨.int (g i j),H,I.tok _,⟨_,rfl⟩,q⟩
theorem opB0 {f:Value→Value→Sem Value} {g:Int→Int→Bool}
    (rule:∀ (i j:Int) (t u:Tok) (s:Shared) (Q:Value→Shared→Prop) (E:Value→Shared→Prop),Q (.bool (g i j)) s→wpAny (model X.prog X.w) X.A (f (.int i t) (.int j u)) Q E s) :
    OpR X f (rI0 fun i j=>.bl (g i j)):=by
  intro pins s σ H x y v u Q I rx ry h
  obtain ⟨i,j,rfl,rfl,q⟩:=h
  obtain ⟨t,rfl⟩:=rx
  obtain ⟨t',rfl⟩:=ry
  exact rule i j t t' s _ _ ⟨.bl (g i j),H,I,rfl,q⟩
def CDiv (i j:Int):Prop:=0 < j∧j < 1073741824
def CPow (i j:Int):Prop:=0≤j∧j≤1000000∧i.natAbs < 2 ^ 64
def CMul (i j:Int):Prop:=(-(2 ^ 64) < i∧i < 2 ^ 64)∨(-(2 ^ 64) < j∧j < 2 ^ 64)
theorem CMul.ok {i j:Int} (h:CMul i j):IntMulOk i j:=by
  rcases h with ⟨h1,h2⟩|⟨h1,h2⟩
  · exact .of_left (intBits_le_64 h1 h2)
  · exact .of_right (intBits_le_64 h1 h2)
theorem op_add:OpR X (binaryOp .Add) (rI0 fun i j=>.int (i+j)):=opI0 fun _ _ _ _ _ _ _ q=>add_int q
theorem op_sub:OpR X (binaryOp .Sub) (rI0 fun i j=>.int (i - j)):=opI0 fun _ _ _ _ _ _ _ q=>sub_int q
theorem op_mul:OpR X (binaryOp .Mult) (rI CMul fun i j=>.int (i*j)):=opI fun _ _ _ _ _ _ _ hc q=>mul_int q hc.ok
theorem op_fdiv:OpR X (binaryOp .FloorDiv) (rI CDiv fun i j=>.int (i / j)):=opI fun i j _ _ _ _ _ hc q=>by
  have h1:(0:Int) < j:=hc.1
  have h2:j < 1073741824:=hc.2
  exact floordiv_int (by omega) (by rw [Int.fdiv_eq_ediv_of_nonneg i (by omega)];exact q) (.inl (PyProof.noPylong_small (by omega)))
theorem op_mod:OpR X (binaryOp .Mod) (rI (fun _ j=>0 < j) fun i j=>.int (i % j)):=opI fun i j _ _ _ _ _ hc q=>by
  have h1:(0:Int) < j:=hc
  exact mod_int' (by omega) (by rw [Int.fmod_eq_emod_of_nonneg i (by omega)];exact q)
theorem op_pow:OpR X (binaryOp .Pow) (rI CPow fun i j=>.int (i ^ j.toNat)):=opI fun _ _ _ _ _ _ _ hc q=>pow_int_small hc.1 hc.2.1 hc.2.2 q
theorem unI {f:Value→Sem Value} {g:Int→Int}
    (rule:∀ (i:Int) (t:Tok) (s:Shared) (Q:Value→Shared→Prop) (E:Value→Shared→Prop),Q (.int (g i) s.toks) { s with toks:=s.toks+1 }→wpAny (model X.prog X.w) X.A (f (.int i t)) Q E s) :
    UnR X f (rU fun i=>.int (g i)):=by
  intro pins s σ H x v Q I rx h
  obtain ⟨i,rfl,q⟩:=h
  obtain ⟨t,rfl⟩:=rx
  exact rule i t s _ _ ⟨.int (g i),H,I.tok _,⟨_,rfl⟩,q⟩
theorem un_neg:UnR X (unaryOp .USub) (rU fun i=>.int (-i)):=unI fun _ _ _ _ _ q=>neg_int q
end
section
variable {X:Cx} {a b c:Expr} {ta tb tc:TE} {pos:Pos}
theorem op_lt:OpR X (compareOp .Lt) (rI0 fun i j=>.bl (decide (i < j))):=opB0 fun _ _ _ _ _ _ _ q=>lt_int q
theorem op_le:OpR X (compareOp .LtE) (rI0 fun i j=>.bl (decide (i≤j))):=opB0 fun _ _ _ _ _ _ _ q=>le_int q
theorem op_gt:OpR X (compareOp .Gt) (rI0 fun i j=>.bl (decide (j < i))):=opB0 fun _ _ _ _ _ _ _ q=>gt_int q
theorem OpR.or {f:Value→Value→Sem Value} {r r':R2} (h:OpR X f r) (h':OpR X f r'):OpR X f (fun x y H Q=>r x y H Q∨r' x y H Q):=by
  intro pins s σ H x y v u Q I rx ry q
  rcases q with q|q
  · exact h pins s σ H x y v u Q I rx ry q
  · exact h' pins s σ H x y v u Q I rx ry q
theorem nomark (b:Expr) {op:CmpOp} (h:op≠.In:=by decide) (h2:op≠.NotIn:=by decide):behindInMarks op b=false:=by
  have e1:(op == CmpOp.In)=false:=by cases op <;> first|rfl|exact absurd rfl h
  have e2:(op == CmpOp.NotIn)=false:=by cases op <;> first|rfl|exact absurd rfl h2
  cases b <;> simp [behindInMarks,e1,e2]
theorem pe_cmpR {op:CmpOp} {r:R2} (ho:OpR X (compareOp op) r) (ha:PE X a ta) (hb:PE X b tb) (hm:behindInMarks op b=false):PE X (.Compare a [op] [b] pos) (tOp r ta tb):=by
  intro pins s σ H Q I h
  exact wpAny_Compare1 (binT ha hb I h fun v u s2 x y H2 I2 rx ry q=>ho pins s2 σ H2 x y v u Q I2 rx ry q) hm
noncomputable def tTest (t:TE):TT:=fun σ H Q=>t σ H fun x H'=>∃ k,x=.bl k∧Q k H'
theorem pt_cmpR {op:CmpOp} {r:R2} (ho:OpR X (compareOp op) r) (ha:PE X a ta) (hb:PE X b tb) (hm:behindInMarks op b=false):PT X (.Compare a [op] [b] pos) (tTest (tOp r ta tb)):=by
  intro pins s σ H Q I h
  refine wpAny_isTrue_Compare1 (thn (ha pins s σ H _ I h) fun v s1 ⟨x,H1,I1,r1,q1⟩=>thn (hb pins s1 σ H1 _ I1 q1) fun u s2 ⟨y,H2,I2,r2,q2⟩ =>
    thn (ho pins s2 σ H2 x y v u _ I2 r1 r2 q2) fun c s3 ⟨z,H3,I3,r3,k,e,q3⟩=>?_) hm
  subst e
  cases r3
  exact wpAny_truthy_bool ⟨H3,I3,q3⟩
def TruV (K:PySem.W.Frag) (x:V) (H:Hp) (k:Bool):Prop :=
  match x with
  | .non=>k=false
  | .bl b=>k=b
  | .int i=>k=(i != 0)
  | .str y=>y.length≤sizeLine∧k=((y.length:Int) != 0)
  | .byt y=>y.size≤sizeLine∧k=((y.size:Int) != 0)
  | .ref p=>(∃ xs,SqL K H p xs∧k=!xs.isEmpty)∨(∃ xs,SqT K H p xs∧k=!xs.isEmpty)∨∃ kvs,H p=some (.dK kvs)∧k=!kvs.isEmpty
  | _=>False
theorem isEmpty_kv {κ:Type} {kvs:List (κ×V)} {vs:List (κ×Value)} (r:KV kvs vs):(!vs.isEmpty)=!kvs.isEmpty:=by
  cases r <;> rfl
theorem isEmpty_of {xs:List V} {its:List Value} (r:Vals xs its):(!its.toArray.isEmpty)=!xs.isEmpty:=by
  cases r <;> simp
theorem line63:(sizeLine:Nat) < 2 ^ 63:=by rw [sizeLine_eq];decide
theorem tru_ok:TruR X (fun x H Q=>∃ k,TruV X.K x H k∧Q k H):=by
  intro pins s σ H x v Q I rx h
  obtain ⟨k,e,q⟩:=h
  have hl:=line63
  have hs:sizeLine=16777216:=sizeLine_eq
  cases x with
  | non =>
    cases rx
    have e':k=false:=e
    subst e'
    exact truthy_none ⟨H,I,q⟩
  | bl b =>
    cases rx
    have e':k=b:=e
    subst e'
    exact wpAny_truthy_bool ⟨H,I,q⟩
  | int i =>
    obtain ⟨t,rfl⟩:=rx
    have e':k=(i != 0):=e
    subst e'
    exact PySem.P.truthy_int ⟨H,I,q⟩
  | str y =>
    obtain ⟨t,rfl⟩:=rx
    obtain ⟨hy,e'⟩:y.length≤sizeLine∧k=((y.length:Int) != 0):=e
    subst e'
    exact PySem.P.truthy_str (by omega) ⟨H,I.tok _,q⟩
  | byt y =>
    obtain ⟨t,rfl⟩:=rx
    obtain ⟨hy,e'⟩:y.size≤sizeLine∧k=((y.size:Int) != 0):=e
    subst e'
    exact PySem.W.truthy_bytes (by omega) ⟨H,I.tok _,q⟩
  | ref p =>
    cases rx
    have e':(∃ xs,SqL X.K H p xs∧k=!xs.isEmpty)∨(∃ xs,SqT X.K H p xs∧k=!xs.isEmpty)∨∃ kvs,H p=some (.dK kvs)∧k=!kvs.isEmpty:=e
    rcases e' with ⟨xs,hx,e'⟩|⟨xs,hx,e'⟩|⟨kvs,hx,e'⟩
    · subst e'
      obtain ⟨its,r,pl,hz⟩:=I.list hx
      have hlen:=r.length
      exact wpAny_truthy_list pl.isList (by simp only [List.size_toArray];omega) ⟨H,I.tok _,by rw [isEmpty_of r];exact q⟩
    · subst e'
      obtain ⟨its,r,pl,hz⟩:=I.tuple hx
      have hlen:=r.length
      exact truthy_tuple pl (by simp only [List.size_toArray];omega) ⟨H,I.tok _,by rw [isEmpty_of r];exact q⟩
    · subst e'
      obtain ⟨hz,hS,vs,r,m⟩:kvs.length≤sizeLine∧(p == sysModules)=false∧∃ vs,KV kvs vs∧s.heap.DictOf (mixKind X.prog X.w) p vs:=I.hok p _ hx
      have hlen:kvs.length=vs.length:=Paired.length r
      exact wpAny_truthy_dict hS m (by omega) ⟨H,I.tok _,by rw [isEmpty_kv r];exact q⟩
  | _=>exact (show False from e).elim
theorem pt_truth (ha:PE X a ta) (he:∀ whole,isTrue a X.env whole=(do let v ←whole;standAt a.pos;holding [v] (truthy v))) :
    PT X a (fun σ H Q=>ta σ H fun x H'=>∃ k,TruV X.K x H' k∧Q k H'):=by
  intro pins s σ H Q I h
  exact isTrue_plain (thn (ha pins s σ H _ I h) fun v s1 ⟨x,H1,I1,r1,q1⟩=>tru_ok pins s1 σ H1 x v Q I1 r1 q1) (he _)
theorem vals1 {x:V} {us:List Value} (r:Vals [x] us):∃ u,us=[u]∧RelV x u:=by
  cases r with
  | cons r1 r2=>cases r2;exact ⟨_,rfl,r1⟩
theorem vals2 {x y:V} {us:List Value} (r:Vals [x,y] us):∃ u w',us=[u,w']∧RelV x u∧RelV y w':=by
  cases r with
  | cons r1 r2 =>
    cases r2 with
    | cons r3 r4=>cases r4;exact ⟨_,_,rfl,r1,r3⟩
theorem call_abs:CallR X (.builtin "abs") (fun xs H Q=>∃ i,xs=[.int i]∧Q (.int (if i < 0 then -i else i)) H):=by
  intro pins s σ H xs us Q I r h
  obtain ⟨i,rfl,q⟩:=h
  obtain ⟨u,rfl,t,rfl⟩:=vals1 r
  exact call_abs_int fun u tk=>⟨.int (if i < 0 then -i else i),H,I.tok _,⟨_,rfl⟩,q⟩
end
end L2
namespace L2
open PySem PySem.Spec PyProof.Rows
structure ObjM (h:Heap) (x dx C:Addr) (mA:Str→Option Value):Prop where
  obj:h.get? x=some (PySem.W.instObj C dx)
  ns:h.Ns1 dx mA
  ne:dx≠x
set_option tactic.hygienic true in
theorem lookIn_ns {h:Heap} {dx:Addr} {mA:Str→Option Value} (n:h.Ns1 dx mA):∃ od,h.get? dx=some od∧∀ name,PySem.W.lookIn name od=some (mA name):=by
  obtain ⟨o,es,ep,ho,hd,hk,_,hm⟩:=n
  refine ⟨o,ho,fun name=>?_⟩
  have e:=hm name
  unfold nsFind findBy at e
  rw [←Array.find?_toList] at e
  unfold PySem.W.lookIn
  rw [hd]
  dsimp only
  split
  · rename_i y q
    rw [q] at e
    exact congrArg some e
  · rename_i q
    rw [q] at e
    have a:es.toList.any (·.refKey)=false:=by
      rw [List.any_eq_false]
      intro y hy
      obtain ⟨z,t,hkey⟩:=hk y (Array.mem_toList_iff.mp hy)
      simp [DictEntry.refKey,hkey]
    have a':¬es.toList.any (·.refKey)=true:=by rw [a];exact Bool.false_ne_true
    rw [if_neg a']
    exact congrArg some e
theorem ObjM.look {h:Heap} {x dx C:Addr} {mA:Str→Option Value} (I:ObjM h x dx C mA):∃ od,PySem.W.InstAt h x (PySem.W.instObj C dx) C (some od)∧∀ name,PySem.W.lookIn name od=some (mA name) :=
  let ⟨od,ho,hl⟩:=lookIn_ns I.ns
  ⟨od,⟨I.obj,rfl,rfl,ho⟩,hl⟩
section
variable {prog:Program} {w:World} {A:Around} {E:Value→Shared→Prop} {s:Shared} {K:PySem.W.Frag} {x dx C f:Addr} {mA:Str→Option Value} {name:Str} {v:Value}
end
theorem RelO.some_of {v:V} {o:Option Value} (r:RelO (some v) o):∃ u,o=some u∧RelV v u:=by
  cases o with
  | none=>exact (show False from r).elim
  | some u=>exact ⟨u,rfl,r⟩
section
variable {P:Program} {w:World} {H H':Hp} {h h':Heap} {a C dx:Addr} {fs fs':List (Str×V)}
theorem ins_get (hok:HOk P w H h) (e:H a=some (.ins C dx fs)):∃ mA,ObjM h a dx C mA∧(∀ f,RelO (fs.lookup f) (mA f))∧PySem.Within mA (fs.map (·.1))∧fs.length≤1000∧H dx=some (.own a):=by
  obtain ⟨d,z,ne,ob,mA,n,r,q⟩:=(show ObjOk P w H h a (.ins C dx fs) from hok a _ e)
  exact ⟨mA,⟨ob,n,ne⟩,r,q,z,d⟩
end
structure Cls (K:PySem.W.Frag) (C:Addr):Prop where
  pg:PySem.W.plainGet K C Str.empty=true
  hd:PySem.W.hasDictIn K C=true
  po:PySem.W.plainOver K C=true
  sa:PySem.W.findIn K (.ref C) "__setattr__" = some (some (.builtin "object.__setattr__"))
theorem Cls.get {K:PySem.W.Frag} {C:Addr} (c:Cls K C) (f:Str):PySem.W.plainGet K C f=true:=c.pg
section
variable {X:Cx} {pins:List (Addr×Obj)} {σ:St} {H:Hp} {s:Shared} {a C dx:Addr} {fs:List (Str×V)} {f:Str} {v:V} {A:Around} {E:Value→Shared→Prop}
end
section
variable {X:Cx} {o e value:Expr} {f:Str} {pos pos' tpos:Pos} {ta tv:TE}
end
section
variable {X:Cx} {pins:List (Addr×Obj)} {σ:St} {H:Hp} {s:Shared} {A:Around} {E:Value→Shared→Prop} {Q:Value→Shared→Prop} {c:Value} {b:Bool}
inductive TyOf (K:PySem.W.Frag) (H:Hp):V→Value→Prop where
  | non:TyOf K H .non (.type "NoneType")
  | bl (x:Bool):TyOf K H (.bl x) (.type "bool")
  | int (i:Int):TyOf K H (.int i) (.type "int")
  | str (x:Str):TyOf K H (.str x) (.type "str")
  | flt (x:UInt64):TyOf K H (.flt x) (.type "float")
  | lst {a:Addr} {xs:List V} (e:H a=some (.lst xs)):TyOf K H (.ref a) (.type "list")
  | frz {a:Addr} {o:Obj} {xs:List V} (e:H a=some (.frz o (.lst xs))):TyOf K H (.ref a) (.type "list")
  | tup {a:Addr} {xs:List V} (e:H a=some (.tup xs)):TyOf K H (.ref a) (.type "tuple")
  | dK {a:Addr} {kvs:List (Key×V)} (e:H a=some (.dK kvs)):TyOf K H (.ref a) (.type "dict")
  | dT {a:Addr} {kvs:List (List Key×V)} (e:H a=some (.dT kvs)):TyOf K H (.ref a) (.type "dict")
  | ins {a C dx:Addr} {fs:List (Str×V)} (e:H a=some (.ins C dx fs)) (cl:Cls K C) (ha:PySem.W.findIn K (.ref C) "__class__" = some (some (.builtin "object.__class__")))
      (hn:PySem.W.specialIn K (.builtin "object.__class__") "__get__" = some (some (.builtin "getset_descriptor.__get__"))) (htk:PySem.W.takesIn K (.builtin "object.__class__")=some true)
      (hm:PySem.W.mroIn K C (.type "object")=some true):TyOf K H (.ref a) (.ref C)
theorem isinst_ok {x:V} {u t:Value} (I:Inv X pins σ H s) (rx:RelV x u) (ty:TyOf X.K H x t) (e:PySem.W.kitOne X.K t c=some b) (h:∀ tk,Q (.bool b) { s with toks:=tk }) :
    wpAny (model X.prog X.w) A (call (.builtin "isinstance") [u,c]) Q E s:=by
  cases ty with
  | non=>cases (show u=Value.none from rx);exact PySem.W.kia_one PySem.W.kitx_none I.kIn True.intro e (fun z=>nomatch z) h
  | bl y=>cases (show u=Value.bool y from rx);exact PySem.W.kia_one PySem.W.kitx_bool I.kIn True.intro e (fun z=>nomatch z) h
  | int i=>obtain ⟨t,q⟩:=(show ∃ t,u=Value.int i t from rx);cases q;exact PySem.W.kia_one PySem.W.kitx_int I.kIn True.intro e (fun z=>nomatch z) h
  | str y=>obtain ⟨t,q⟩:=(show ∃ t,u=Value.str y t from rx);cases q;exact PySem.W.kia_one PySem.W.kitx_str I.kIn True.intro e (fun z=>nomatch z) h
  | flt y=>obtain ⟨t,q⟩:=(show ∃ t,u=Value.float y t from rx);cases q;exact PySem.W.kia_one PySem.W.kitx_float I.kIn True.intro e (fun z=>nomatch z) h
  | @lst a xs ea =>
    cases (show u=Value.ref a from rx)
    obtain ⟨_,_,n,_,h1⟩:=(show ObjOk X.prog X.w H s.heap a (.lst xs) from I.hok a _ ea)
    exact PySem.W.kia_one PySem.W.kitx_list I.kIn ⟨_,h1,rfl⟩ e (fun z=>nomatch z) h
  | @frz a ob xs ea =>
    cases (show u=Value.ref a from rx)
    obtain ⟨_,_,_,n,_,h1⟩:=(show ObjOk X.prog X.w H s.heap a (.frz ob (.lst xs)) from I.hok a _ ea)
    exact PySem.W.kia_one PySem.W.kitx_list I.kIn ⟨_,h1,rfl⟩ e (fun z=>nomatch z) h
  | @tup a xs ea =>
    cases (show u=Value.ref a from rx)
    obtain ⟨_,_,_,p⟩:=(show ObjOk X.prog X.w H s.heap a (.tup xs) from I.hok a _ ea)
    obtain ⟨o,h1,h2,_⟩:=p
    exact PySem.W.kia_one PySem.W.kitx_tuple I.kIn ⟨o,h1,h2⟩ e (fun z=>nomatch z) h
  | @dK a kvs ea =>
    cases (show u=Value.ref a from rx)
    obtain ⟨_,_,vs,_,p⟩:=(show ObjOk X.prog X.w H s.heap a (.dK kvs) from I.hok a _ ea)
    obtain ⟨o,es,ep,h1,h2,_⟩:=p
    exact PySem.W.kia_one PySem.W.kitx_dict I.kIn ⟨o,h1,h2.1⟩ e (fun z=>nomatch z) h
  | @dT a kvs ea =>
    cases (show u=Value.ref a from rx)
    obtain ⟨_,_,xs,_,o,es,ep,h1,h2,_⟩:=(show ObjOk X.prog X.w H s.heap a (.dT kvs) from I.hok a _ ea)
    exact PySem.W.kia_one PySem.W.kitx_dict I.kIn ⟨o,h1,h2.1⟩ e (fun z=>nomatch z) h
  | @ins a C dx fs ea cl ha hn htk hm =>
    cases (show u=Value.ref a from rx)
    obtain ⟨mA,O,_⟩:=ins_get I.hok ea
    obtain ⟨od,J,_⟩:=O.look
    exact PySem.W.kia_one (PySem.W.kitx_own (cl.get _) cl.hd ha hn htk hm) I.kIn J e (fun z=>nomatch z) h
end
end L2
namespace L2
open PySem PySem.Spec PyProof.Rows
structure Room (k:Nat) (A:Around):Prop where
  hd:A.handled=none
  dp:A.depth+3*k+5 < recursionLimit
  un:A.units+16*k+200 < cLine
theorem Room.mono {j k:Nat} {A:Around} (r:Room k A) (h:j≤k):Room j A:=⟨r.hd,by have:=r.dp;omega,by have:=r.un;omega⟩
theorem Room.deeper {k:Nat} {A:Around} (r:Room (k+1) A) (env:Env):Room k (A.deeper env) :=
  ⟨r.hd,by have:=r.dp;show A.depth+1+3*k+5 < _;omega,by have:=r.un;show A.units+3+16*k+200 < _;omega⟩
theorem Room.depth {k:Nat} {A:Around} (r:Room k A):A.depth < recursionLimit:=by have:=r.dp;omega
theorem Room.units {k:Nat} {A:Around} (r:Room k A):A.units+64 < cLine:=by have:=r.un;omega
noncomputable def tNil:TA:=fun _ H Q=>Q [] H
noncomputable def tCons (ta:TE) (tr:TA):TA:=fun σ H Q=>ta σ H fun x H1=>tr σ H1 fun xs H2=>Q (x::xs) H2
section
variable {X:Cx} {e:Expr} {es:List Expr} {te:TE} {t:TA} {pos:Pos}
theorem pa_nil:PA X [] tNil:=fun _ _ _ _ H Q I h=>Calls.spliced_nil ⟨[],H,I,.nil,h⟩
theorem pa_cons (ha:PE X e te) (hr:PA X es t) (hs:starEach (e::es) X.env=(false,eval e X.env)::starEach es X.env:=by rfl):PA X (e::es) (tCons te t):=by
  intro pos pins s σ H Q I h
  rw [hs]
  show wpAny _ _ (spliced ((false,eval e X.env)::backTo pos (starEach es X.env))) _ _ s
  refine Calls.spliced_cons (thn (ha pins s σ H _ I h) fun u s1 ⟨x,H1,I1,r1,q1⟩=>?_)
  exact thn (hr pos pins s1 σ H1 _ I1 q1) fun us s2 ⟨xs,H2,I2,r2,q2⟩=>⟨x::xs,H2,I2,.cons r1 r2,q2⟩
noncomputable def tTup (t:TA):TE:=fun σ H Q=>t σ H fun xs H1=>xs.length≤sizeLine∧∀ p,H1 p=none→Q (.ref p) (upd H1 p (.tup xs))
noncomputable def tLst (t:TA):TE:=fun σ H Q=>t σ H fun xs H1=>xs.length≤sizeLine∧∀ p,H1 p=none→Q (.ref p) (upd H1 p (.lst xs))
theorem pe_tup {x1} (h:PA X es t):PE X (.Tuple es x1 pos) (tTup t):=by
  intro pins s σ H Q I hq
  refine wpAny_Tuple_spliced (thn (h pos pins s σ H _ I hq) fun us s1 ⟨xs,H1,I1,r,z,q⟩=>⟨by rw [←r.length];exact z,?_⟩)
  have hf:H1 s1.heap.objs.size=none:=I1.hok.fresh (Nat.le_refl _)
  refine ⟨.ref s1.heap.objs.size,upd H1 s1.heap.objs.size (.tup xs),I1.laid (t':=s1.toks) (fun b u e=>Heap.get?_push_of_some _ e) (Nat.le_refl _) ?_,rfl,q _ hf⟩
  exact ⟨z,us,r,⟨_,Heap.get?_push_size _ rfl,rfl,_,rfl⟩⟩
theorem pe_lst (h:PA X es t):PE X (.List es pos) (tLst t):=by
  intro pins s σ H Q I hq
  refine wpAny_List_spliced (thn (h pos pins s σ H _ I hq) fun us s1 ⟨xs,H1,I1,r,z,q⟩=>⟨by rw [←r.length];exact z,?_⟩)
  have hf:H1 s1.heap.objs.size=none:=I1.hok.fresh (Nat.le_refl _)
  refine ⟨.ref s1.heap.objs.size,upd H1 s1.heap.objs.size (.lst xs),I1.laid (t':=s1.toks) (fun b u e=>Heap.get?_push_of_some _ e) (Nat.le_refl _) ?_,rfl,q _ hf⟩
  exact ⟨z,us,0,r,Heap.get?_push_size _ rfl⟩
end
abbrev Sp:=List V→Hp→VK→XK→Prop
abbrev CXT:=List Env→Hp→Shared→XK→Value→Shared→Prop
structure Env0 (P:Program) (w:World) (K:PySem.W.Frag) (mg:Str→Option Value) (base:Heap) (A:Around) (outer:List Env) (s:Shared) (H:Hp):Prop where
  frames:A.frames=some outer
  mod:Mod K mg base
  bs:∀ b o,base.get? b=some o→s.heap.get? b=some o∧H b=none
  bsz:base.objs.size≤s.heap.objs.size
  funs:s.heap.FunFrames base outer
  frf:∀ b∈frs outer,H b=none
  hok:HOk P w H s.heap
  bare:AllBare s.gens
def CE (outer:List Env) (P:Program) (w:World) (H:Hp) (s:Shared) (Q:VK) (u:Value) (s':Shared):Prop :=
  ∃ v H',s'.os=s.os∧AllBare s'.gens∧Un (frs outer) [] H H' s.heap s'.heap∧HOk P w H' s'.heap∧RelV v u∧Q v H'
def CR (CX:CXT) (outer:List Env) (P:Program) (w:World) (H:Hp) (s:Shared) (Q:VK) (E:XK) (r:Result) (s':Shared):Prop :=
  match r with
  | .ok (.ret u)=>CE outer P w H s Q u s'
  | .ok _=>False
  | .error e=>CX outer H s E e s'
structure FnOk (P:Program) (w:World) (K:PySem.W.Frag) (mg:Str→Option Value) (base:Heap) (CX:CXT) (k:Nat) (f:Addr) (fd:FuncData) (ps:List Str) (sp:Sp):Prop where
  len:∀ vs H Q E,sp vs H Q E→vs.length=ps.length
  run:∀ (A:Around) (outer:List Env) (s:Shared) (H:Hp) (args:Args) (us:List Value) (vs:List V) (Q:VK) (E:XK),Room k A→Env0 P w K mg base A outer s H→BindsTo s fd args (ps.zip us)→Vals vs us→sp vs H Q E →
    codeAny (model P w) A (.call (.ref f) args) (CR CX outer P w H s Q E) s
section
variable {X:Cx} {pins:List (Addr×Obj)} {σ:St} {H:Hp} {s s':Shared}
theorem Inv.env0 (I:Inv X pins σ H s):Env0 X.prog X.w X.K X.mg X.base X.A X.stack s H :=
  ⟨I.ok.frames,I.ok.mod,I.bs,Nat.le_trans I.ok.bsz I.sz,I.stack,I.stkFree,I.hok,I.bare⟩
theorem Inv.after {Q:VK} {u:Value} (I:Inv X pins σ H s) (h:CE X.stack X.prog X.w H s Q u s'):EP X pins σ Q u s':=by
  obtain ⟨v,H',os,bare,un,hok,r,q⟩:=h
  obtain ⟨hh,g,d,t,os'⟩:=s'
  obtain rfl:os'=s.os:=os
  exact ⟨v,H',I.call (h':=hh) (g':=g) (d':=d) (t':=t) (ch:=[]) un hok bare (fun b z=>absurd z (by simp)),r,q⟩
end
noncomputable def tCall (sp:Sp) (dvs:List V) (E:XK) (t:TA):TE:=fun σ H Q=>t σ H fun vs H1=>sp (vs++dvs) H1 Q E
def Binds (K:PySem.W.Frag) (fd:FuncData) (ps:List Str) (ds:List Value):Prop :=
  ∀ (s:Shared) (us:List Value),K.In s.heap→(us++ds).length=ps.length→BindsTo s fd ⟨us,[]⟩ (ps.zip (us++ds))
theorem Binds.all {K:PySem.W.Frag} {fd:FuncData} {ps:List Str} (h:∀ us:List Value,us.length=ps.length→bindArgs fd ⟨us,[]⟩=pure (ps.zip us)):Binds K fd ps []:=fun s us _ hl=>by
  rw [List.append_nil] at hl ⊢
  exact .of_eq (h us hl)
def Passes (CX:CXT) (X:Cx) (E:XK):Prop:=∀ (pins:List (Addr×Obj)) (σ:St) (H:Hp) (s:Shared) (e:Value) (s':Shared),Inv X pins σ H s→CX X.stack H s E e s'→X.xe e s'
section
variable {X:Cx} {CX:CXT} {k:Nat} {f C:Addr} {fd:FuncData} {ps:List Str} {sp:Sp} {dvs:List V} {ds:List Value} {E:XK} {x m:Str} {p pos apos:Pos} {e o:Expr} {es:List Expr} {ta:TE} {t:TA}
theorem run_fn {pins:List (Addr×Obj)} {σ:St} {H:Hp} {s:Shared} {Q:VK} {us:List Value} {vs:List V} (F:FnOk X.prog X.w X.K X.mg X.base CX k f fd ps sp) (hr:Room k X.A) (hb:Binds X.K fd ps ds) (hd:Vals dvs ds) (hx:Passes CX X E)
    (I:Inv X pins σ H s) (r:Vals vs us) (h:sp (vs++dvs) H Q E):wpAny (model X.prog X.w) X.A (call (.ref f) us) (EP X pins σ Q) X.xe s:=by
  have r2:Vals (vs++dvs) (us++ds):=r.append hd
  have hl:(us++ds).length=ps.length:=by rw [←r2.length];exact F.len _ _ _ _ h
  refine wpAny_call (codeAny_mono (F.run X.A X.stack s H ⟨us,[]⟩ (us++ds) (vs++dvs) Q E hr I.env0 (hb s us I.kIn hl) r2 h) fun r s' hq=>?_)
  cases r with
  | error e=>exact hx pins σ H s e s' I hq
  | ok fl =>
    cases fl with
    | ret u=>exact I.after hq
    | next=>exact False.elim hq
    | brk=>exact False.elim hq
    | cont=>exact False.elim hq
theorem pe_call (F:FnOk X.prog X.w X.K X.mg X.base CX k f fd ps sp) (hr:Room k X.A) (hg:Gl X x) (hm:X.mg x=some (.ref f)) (hk:PySem.W.keepIn X.K (.ref f)=true) (hb:Binds X.K fd ps ds) (hd:Vals dvs ds) (hx:Passes CX X E)
    (ha:PA X (e::es) t) (hdb:(x == ("__debug__" : Str))=false:=by decide) (he:starEach (e::es) X.env=(false,eval e X.env)::starEach es X.env:=by rfl) (hpl:(backTo pos (starEach es X.env)).any (·.1)=false:=by rfl) :
    PE X (.Call (.Name x p) (e::es) [] pos) (tCall sp dvs E t):=by
  intro pins s σ H Q I h
  refine wpAny_Call_Name_kw (ld_glob I hg hm ?_ hdb)
  refine PySem.W.callWith_K (h₀:=X.base) I.ok.mod.kin hk (thn (ha pos pins s σ H _ I h) fun us s1 ⟨vs,H1,I1,r,q⟩=>⟨I1.kIn,?_⟩) he hpl
  exact run_fn F hr hb hd hx I1 r q
end
section
variable {X:Cx} {CX:CXT} {k:Nat} {f C:Addr} {fd:FuncData} {ps ks:List Str} {sp:Sp} {E:XK} {x m:Str} {p pos apos kpos:Pos} {e o:Expr} {es:List Expr} {kws:List Keyword} {te ta:TE} {t tk:TA} {nm:Option Str}
variable {g:List Value→List Value→List Value} {gV:List V→List V→List V}
end
structure FnScope (N P:List Str) (sc:Scope):Prop where
  kind:sc.kind=.function
  co:sc.isCoroutine=false
  gen:sc.isGenerator=false
  nd:N.Nodup
  pre:N.take P.length=P
  par:∀ x∈P,sc.names.lookup x=some .local∨sc.names.lookup x=some .cell
  nofree:∀ y∈sc.names,y.2≠.free
theorem bindL_out {kindOf:Str→Option NameKind} {x:Str}:∀ {binds:List (Str×Value)} {m:Str→Option Value},(∀ v,(x,v)∉binds)→bindL kindOf binds m x=m x
  | [],_,_=>rfl
  | (n,v)::r,m,h=>by
    unfold bindL
    rw [bindL_out fun w hw=>h w (List.mem_cons_of_mem _ hw)]
    split
    · have:x≠n:=by rintro rfl;exact h v List.mem_cons_self
      simp [this]
    · rfl
theorem bindC_out {kindOf:Str→Option NameKind} {x:Str}:∀ {binds:List (Str×Value)} {m:Str→Option Value},(∀ v,(x,v)∉binds)→bindC kindOf binds m x=m x
  | [],_,_=>rfl
  | (n,v)::r,m,h=>by
    unfold bindC
    rw [bindC_out fun w hw=>h w (List.mem_cons_of_mem _ hw)]
    split
    · rfl
    · have:x≠n:=by rintro rfl;exact h v List.mem_cons_self
      simp [this]
theorem bindL_get {kindOf:Str→Option NameKind} {x:Str} {v:Value}:∀ {P:List Str} {vs:List Value} {i:Nat} {m:Str→Option Value},P.Nodup→P[i]?=some x→vs[i]?=some v→kindOf x=some .local →
    bindL kindOf (P.zip vs) m x=some v
  | [],_,_,_,_,h,_,_=>by simp at h
  | _::_,[],_,_,_,_,h,_=>by simp at h
  | p::P,w::vs,0,m,nd,h1,h2,hk=>by
    simp at h1 h2;subst h1;subst h2
    show bindL kindOf ((p,w)::P.zip vs) m p=_
    unfold bindL
    rw [bindL_out fun v hv=>(List.nodup_cons.mp nd).1 (List.of_mem_zip hv).1,if_pos hk]
    simp
  | p::P,w::vs,i+1,m,nd,h1,h2,hk=>by
    show bindL kindOf ((p,w)::P.zip vs) m x=_
    unfold bindL
    exact bindL_get (i:=i) (List.nodup_cons.mp nd).2 (by simpa using h1) (by simpa using h2) hk
theorem bindC_get {kindOf:Str→Option NameKind} {x:Str} {v:Value}:∀ {P:List Str} {vs:List Value} {i:Nat} {m:Str→Option Value},P.Nodup→P[i]?=some x→vs[i]?=some v→kindOf x≠some .local →
    bindC kindOf (P.zip vs) m x=some v
  | [],_,_,_,_,h,_,_=>by simp at h
  | _::_,[],_,_,_,_,h,_=>by simp at h
  | p::P,w::vs,0,m,nd,h1,h2,hk=>by
    simp at h1 h2;subst h1;subst h2
    show bindC kindOf ((p,w)::P.zip vs) m p=_
    unfold bindC
    rw [bindC_out fun v hv=>(List.nodup_cons.mp nd).1 (List.of_mem_zip hv).1,if_neg hk]
    simp
  | p::P,w::vs,i+1,m,nd,h1,h2,hk=>by
    show bindC kindOf ((p,w)::P.zip vs) m x=_
    unfold bindC
    exact bindC_get (i:=i) (List.nodup_cons.mp nd).2 (by simpa using h1) (by simpa using h2) hk
noncomputable def start (N:List Str) (vs:List V):St:=vs.map some++List.replicate (N.length - vs.length) none
noncomputable def cxOf (CX:CXT) (P:Program) (w:World) (K:PySem.W.Frag) (mg:Str→Option Value) (base:Heap) (N:List Str) (qual:Str) (scope:Scope) (f:Addr) (cd:Value) (A:Around) (outer:List Env) (s:Shared) (H:Hp) (E:XK):Cx where
  prog:=P
  w:=w
  K:=K
  mg:=mg
  base:=base
  A:=A.deeper (envOfC qual scope s.heap.objs.size f cd)
  N:=N
  s₀:=s
  H₀:=H
  env:=envOfC qual scope s.heap.objs.size f cd
  outer:=outer
  stack:=envOfC qual scope s.heap.objs.size f cd::outer
  ex:=[]
  calm:=true
  fn:=fun _=>true
  pn:=[]
  xe:=fun e s'=>wpAny (model P w) (A.deeper (envOfC qual scope s.heap.objs.size f cd)) (leaving (envOfC qual scope s.heap.objs.size f cd) e) (fun _ s''=>CX outer H s E e s'') (fun e' s''=>CX outer H s E e' s'') s'
theorem cell_has {sc:Scope} {n:Nat} {x:Str} (h:sc.names.lookup x=some .cell):∃ c,(cellsFrom n sc.names []).lookup x=some c:=by
  have q:=PySem.W.cellsFrom_some sc.names n [] (.inl h)
  exact Option.isSome_iff_exists.mp q
theorem inv_start {CX:CXT} {P:Program} {w:World} {K:PySem.W.Frag} {mg:Str→Option Value} {base:Heap} {N ps:List Str} {qual:Str} {scope:Scope} {f:Addr} {cd:Value} {A:Around} {outer:List Env} {s s1:Shared} {H:Hp} {E:XK} {us:List Value} {vs:List V}
    (S:FnScope N ps scope) (hd:A.handled=none) (e0:Env0 P w K mg base A outer s H) (hl:vs.length=ps.length) (r:Vals vs us)
    (x:InCallC s s.heap.objs.size (bindL (envOfC qual scope s.heap.objs.size f cd).kindOf (ps.zip us) fun _=>none) (cellsFrom (s.heap.objs.size+1) scope.names []) (bindC (envOfC qual scope s.heap.objs.size f cd).kindOf (ps.zip us) fun _=>none) s1) :
    Inv (cxOf CX P w K mg base N qual scope f cd A outer s H E) [] (start N vs) H s1:=by
  have hpl:ps.length≤N.length:=by have:=congrArg List.length S.pre;rw [List.length_take] at this;omega
  obtain ⟨h1,tk,rfl,hk⟩:=x.done
  have noA:∀ b:Addr,b∉(cxOf CX P w K mg base N qual scope f cd A outer s H E).ex:=fun b z=>absurd (show b∈([]:List Addr) from z) (by simp)
  refine ⟨⟨e0.mod,S.kind,rfl,rfl,Nat.le_refl _,fun y z c h1 h2=>?_,fun y hy=>?_,fun y c _ h=>?_,fun _=>hd,Around.frames_deeper e0.frames,.inr ⟨rfl,rfl⟩,fun b z=>absurd z (noA b),e0.bs,e0.bsz,fun b _ _=>noA b,fun b z=>absurd z (noA b),e0.funs,e0.frf⟩,
    rfl,e0.bare,Un.kept hk,⟨_,x.toInCall.ns,fun i y v h1 h2 h3=>?_⟩,fun y c h=>⟨_,x.cell y c h⟩,e0.hok.fresh (Nat.le_refl _),fun y c h=>?_,fun p hp=>absurd (show p∈([]:List (Addr×Obj)) from hp) (by simp),e0.hok.kept hk,?_⟩
  · exact name_of_addr x.apart (PySem.mem_of_lookup h1) (PySem.mem_of_lookup h2)
  · have hy:scope.names.lookup y=some .cell∨scope.names.lookup y=some .free:=hy
    rcases hy with hy|hy
    · exact cell_has hy
    · exact absurd rfl (S.nofree _ (PySem.mem_of_lookup hy))
  · exact Nat.le_of_lt (x.above y c (PySem.mem_of_lookup h))
  · have hi:i < vs.length:=by
      unfold start at h2
      by_cases hi:i < vs.length
      · exact hi
      · rw [List.getElem?_append_right (by simpa using hi)] at h2
        rw [List.getElem?_replicate] at h2
        split at h2 <;> cases h2
    have ha:vs[i]?=some v:=by
      unfold start at h2
      rw [List.getElem?_append_left (by simpa using hi),List.getElem?_map] at h2
      cases e:vs[i]? with
      | none=>rw [e] at h2;cases h2
      | some a=>rw [e] at h2;cases h2;rfl
    obtain ⟨u,hu,rv⟩:=r.get ha
    have hp:ps[i]?=some y:=by
      rw [←S.pre,List.getElem?_take_of_lt (by omega)];exact h1
    have ndP:ps.Nodup:=by rw [←S.pre];exact S.nd.sublist (List.take_sublist _ _)
    refine ⟨u,rv,?_⟩
    rcases S.par y (List.mem_of_getElem? hp) with k|k
    · exact .inl ⟨k,bindL_get ndP hp hu k⟩
    · obtain ⟨c,e⟩:=cell_has (n:=s.heap.objs.size+1) k
      refine .inr ⟨.inl k,c,e,?_⟩
      have q:=x.cell y c e
      rw [bindC_get ndP hp hu (by show scope.names.lookup y≠_;rw [k];decide)] at q
      exact q
  · exact e0.hok.fresh (Nat.le_of_lt (x.above y c (PySem.mem_of_lookup h)))
  · unfold start
    show _=N.length
    rw [List.length_append,List.length_map,List.length_replicate]
    omega
theorem fn_of {CX:CXT} {P:Program} {w:World} {K:PySem.W.Frag} {mg:Str→Option Value} {base:Heap} {k:Nat} {f:Addr} {name qual:Str} {params:Arguments} {body:List Stmt} {scope:Scope} {dV kV doc pm cdv ct oc:Value} {an od:Option Addr}
    {osl:Array (Option Value)} {N ps:List Str} {sp:Sp} (lk:K.lookup f=some ⟨oc,od,.func (PySem.W.fnOf name qual params body scope dV kV doc pm an cdv ct),osl⟩) (hcd:PySem.W.codeIn K cdv qual=true) (S:FnScope N ps scope)
    (len:∀ vs H Q E,sp vs H Q E→vs.length=ps.length)
    (hbody:∀ (A:Around) (outer:List Env) (s:Shared) (H:Hp) (vs:List V) (Q:VK) (E:XK),Room k (A.deeper (envOfC qual scope s.heap.objs.size f cdv))→sp vs H Q E →
      ∃ t,PSs (cxOf CX P w K mg base N qual scope f cdv A outer s H E) body t∧t { nx:=fun _ H'=>Q .non H',rt:=Q } (start N vs) H) :
    FnOk P w K mg base CX (k+1) f (PySem.W.fnOf name qual params body scope dV kV doc pm an cdv ct) ps sp:=by
  refine ⟨len,fun A outer s H args us vs Q E hr e0 hb r hsp=>?_⟩
  have hl:=len _ _ _ _ hsp
  have KX:K.In s.heap:=e0.mod.kin.keeps fun b o e=>(e0.bs b o e).1
  have lim:s.heap.NoLimit:=e0.mod.nolimit.keeps fun b o e=>(e0.bs b o e).1
  have hkind:∀ y∈ps.zip us,scope.names.lookup y.1=some .local∨(scope.names.lookup y.1=some .cell∧((cellsFrom (s.heap.objs.size+1) scope.names []).lookup y.1).isSome=true):=fun ⟨n,v⟩ hy=>by
    rcases S.par n (List.of_mem_zip hy).1 with q|q
    · exact .inl q
    · exact .inr ⟨q,PySem.W.cellsFrom_some _ _ _ (.inl q)⟩
  refine codeAny_call_function hr.depth (KX _ _ lk) rfl S.co S.gen rfl (PySem.W.codeRec_of KX hcd) (hb _ _ _ _ ?_)
  refine wpAny_newFunctionEnv_cells S.kind hkind fun env he s1 x=>?_
  subst he
  refine ⟨lim.keeps x.toInCall.keep,codeAny_func ?_⟩
  obtain ⟨t,ht,hq⟩:=hbody A outer s H vs Q E (hr.deeper _) hsp
  have I:Inv (cxOf CX P w K mg base N qual scope f cdv A outer s H E) [] (start N vs) H s1:=inv_start S hr.hd e0 hl r x
  refine wpAny_mono (ht [] s1 (start N vs) H _ I hq) (fun fl s' hs=>?_) fun e s' hs=>hs
  have fin:∀ {σ':St} {H':Hp} {v:V} {u:Value},Inv (cxOf CX P w K mg base N qual scope f cdv A outer s H E) [] σ' H' s'→RelV v u→Q v H'→CE outer P w H s Q u s' :=
    fun {σ' H' v u} J rv q=>⟨v,H',J.os,J.bare,J.base,J.hok,rv,q⟩
  cases fl with
  | ret u =>
    obtain ⟨v,σ',H',J,rv,q⟩:=hs
    exact fin J rv q
  | next =>
    obtain ⟨σ',H',J,q⟩:=hs
    exact fin (v:=V.non) (u:=Value.none) J rfl q
  | brk =>
    obtain ⟨_,_,_,q⟩:=hs
    exact False.elim q
  | cont =>
    obtain ⟨_,_,_,q⟩:=hs
    exact False.elim q
end L2
namespace L2
open PySem PySem.Spec PyProof.Rows
section
variable {X:Cx} {x:Str} {p pos:Pos} {e:Expr} {es:List Expr} {t:TA} {id T:String} {r:List V→Hp→VK→Prop}
noncomputable def tCB (r:List V→Hp→VK→Prop) (t:TA):TE:=fun σ H Q=>t σ H fun vs H1=>r vs H1 Q
theorem pe_callB (hc:CallR X (.builtin id) r) (hg:Gl X x) (hm:X.mg x=none) (hv:bootBuiltins x=some (.builtin id)) (ha:PA X (e::es) t) (hn:x ≠ "__name__" := by decide) (hdb:(x == ("__debug__" : Str))=false:=by decide)
    (he:starEach (e::es) X.env=(false,eval e X.env)::starEach es X.env:=by rfl) (hpl:(backTo pos (starEach es X.env)).any (·.1)=false:=by rfl):PE X (.Call (.Name x p) (e::es) [] pos) (tCB r t):=by
  intro pins s σ H Q I h
  refine wpAny_Call_Name_kw (ld_blt I hg hm hv ?_ hn hdb)
  exact PyProof.Rows.callWith_builtin1 (thn (ha pos pins s σ H _ I h) fun us s1 ⟨vs,H1,I1,r1,q1⟩=>hc pins s1 σ H1 vs us Q I1 r1 q1) he hpl
theorem pe_callTy (hc:CallR X (.type T) r) (hg:Gl X x) (hm:X.mg x=none) (hv:bootBuiltins x=some (.type T)) (ha:PA X (e::es) t) (hn:x ≠ "__name__" := by decide) (hdb:(x == ("__debug__" : Str))=false:=by decide)
    (he:starEach (e::es) X.env=(false,eval e X.env)::starEach es X.env:=by rfl) (hpl:(backTo pos (starEach es X.env)).any (·.1)=false:=by rfl):PE X (.Call (.Name x p) (e::es) [] pos) (tCB r t):=by
  intro pins s σ H Q I h
  refine wpAny_Call_Name_kw (ld_blt I hg hm hv ?_ hn hdb)
  exact PyProof.Rows.callWith_type1 (thn (ha pos pins s σ H _ I h) fun us s1 ⟨vs,H1,I1,r1,q1⟩=>hc pins s1 σ H1 vs us Q I1 r1 q1) he hpl
end
end L2
namespace HT
open PySem PyProof.Rows
section
open PySem.SeqAt
open PySem.AutoSeq1 (wpAny_loadPart')
open PySem.MeetsSeq PySem.MeetsSeq2 PySem.MeetsSeq3
end
section
variable {prog:Program} {w:World} {A:Around} {E:Value→Shared→Prop} {s:Shared}
theorem cat_tup {t b:Addr} {vs ws:List Value} {Q:Value→Shared→Prop} (ht:IsTup s.heap t vs.toArray) (hb:IsTup s.heap b ws.toArray) (hv:vs≠[])
    (h1:ws=[]→Q (.ref t) s) (h2:ws≠[]→Q (.ref s.heap.objs.size) { s with heap:=s.heap.push { cls:=.type "tuple", data:=.seq (vs++ws).toArray } })
    (hsz:vs.length+ws.length≤sizeLine):wpAny (model prog w) A (binaryOp .Add (.ref t) (.ref b)) Q E s:=by
  obtain ⟨⟨cls,dd,data,sl⟩,ho,hc,n,hd⟩:=id ht
  obtain ⟨⟨cls2,dd2,data2,sl2⟩,ho2,hc2,n2,hd2⟩:=id hb
  simp only at hc hd hc2 hd2
  subst hc hd hc2 hd2
  have e:vs.toArray++ws.toArray=(vs++ws).toArray:=by simp
  by_cases hw:ws=[]
  · exact concat_meets ⟨_,ho,rfl⟩ ⟨_,ho2,rfl⟩ noFill_tuple_add seq_tuple_add PySem.F.slot_tuple_add PySem.F.entry_tuple_add (PySem.F.args_tuple_add_2 _ _)
      (tuple_addW1 t b vs.toArray ws.toArray n n2 dd dd2 sl sl2 (by simpa using hv) (by simp [hw])) ⟨ho,ho2,h1 hw⟩
  · refine concat_meets ⟨_,ho,rfl⟩ ⟨_,ho2,rfl⟩ noFill_tuple_add seq_tuple_add PySem.F.slot_tuple_add PySem.F.entry_tuple_add (PySem.F.args_tuple_add_2 _ _)
      (tuple_addW2 t b vs.toArray ws.toArray n n2 dd dd2 sl sl2 (by simpa using hv) (by simpa using hw) (by rw [List.size_toArray,List.size_toArray];exact hsz)) ⟨ho,ho2,?_⟩
    rw [e]
    exact h2 hw
noncomputable def sIx (n d:Nat):Option Int→Nat
  | none=>d
  | some v=>if v < 0 then (v+(n:Int)).toNat else min v.toNat n
theorem sIx_none (n d:Nat):sIx n d none=d:=rfl
theorem sIx_nat (n d k:Nat):sIx n d (some (k:Int))=min k n:=by
  show (if (k:Int) < 0 then ((k:Int)+(n:Int)).toNat else min (k:Int).toNat n)=min k n
  rw [if_neg (by omega),Int.toNat_natCast]
theorem sIx_le (n d:Nat) (hd:d≤n) (o:Option Int):sIx n d o≤n:=by
  cases o with
  | none=>exact hd
  | some v =>
    show (if v < 0 then (v+(n:Int)).toNat else min v.toNat n)≤n
    by_cases hv:v < 0
    · rw [if_pos hv];omega
    · rw [if_neg hv];exact Nat.min_le_right _ _
theorem clip_eq (v:Int) (n d:Nat):(if v < 0 then max (v+(n:Int)) 0 else min v (n:Int))=((sIx n d (some v):Nat):Int):=by
  show (if v < 0 then max (v+(n:Int)) 0 else min v (n:Int))=(((if v < 0 then (v+(n:Int)).toNat else min v.toNat n):Nat):Int)
  by_cases hv:v < 0
  · simp only [if_pos hv];omega
  · simp only [if_neg hv];omega
theorem adjust_gen (lo hi:Option Int) (n:Nat):Builtin.Slice.sliceAdjust lo hi 1 (n:Int)=(((sIx n 0 lo:Nat):Int),((sIx n n hi:Nat):Int)):=by
  have h1:¬((1:Int) < 0):=by omega
  unfold Builtin.Slice.sliceAdjust
  simp only [h1,if_false]
  refine Prod.ext ?_ ?_
  · cases lo with
    | none=>rfl
    | some v=>exact clip_eq v n 0
  · cases hi with
    | none=>rfl
    | some v=>exact clip_eq v n n
theorem places_gen (i j:Nat):Builtin.Slice.slicePlaces (i:Int) (j:Int) 1=j - i:=by
  unfold Builtin.Slice.slicePlaces
  have h1:(1:Int) > 0:=by omega
  simp only [h1,if_true,Int.ediv_one]
  split <;> omega
theorem slicePart_ {v:Value} {o:Option Int} {Q:Option Int→Shared→Prop} (p:IsPart v o) (h:Q o s):wpAny (model prog w) A (Builtin.Slice.slicePartIndex v) Q E s:=by
  cases p with
  | none=>exact slicePart_none h
  | int i t=>exact slicePart_int h
theorem sliceApplied_gen {sl:Addr} {vl vu:Value} {lo hi:Option Int} {n:Nat} {Q:Int×Int×Nat→Shared→Prop} (hs:s.heap.IsSliceOf sl vl vu .none) (pl:IsPart vl lo) (pu:IsPart vu hi)
    (h:Q (((sIx n 0 lo:Nat):Int),1,sIx n n hi - sIx n 0 lo) s):wpAny (model prog w) A (Builtin.Slice.sliceApplied (.ref sl) (pure (n:Int))) Q E s:=by
  obtain ⟨os,hos,hcs,hds⟩:=id hs
  unfold Builtin.Slice.sliceApplied Builtin.Slice.sliceFields
  refine wpAny_bind (wpAny_bind (wpAny_field hos hds (x:=vl) rfl (wpAny_bind (wpAny_field hos hds (x:=vu) rfl (wpAny_bind (wpAny_field hos hds (x:=.none) rfl (wpAny_pure ?_)))))))
  refine wpAny_bind (slicePart_none ?_)
  show wpAny _ _ (if ((1:Int) == 0)=true then _ else _) _ _ s
  rw [if_neg (by decide)]
  refine wpAny_bind (slicePart_ pl (wpAny_bind (slicePart_ pu (wpAny_bind (wpAny_pure ?_)))))
  show wpAny _ _ (match Builtin.Slice.sliceAdjust lo hi 1 (n:Int) with|(lo,hi)=>pure (lo,(1:Int),Builtin.Slice.slicePlaces lo hi 1)) _ _ s
  rw [adjust_gen lo hi n]
  show wpAny _ _ (pure (((sIx n 0 lo:Nat):Int),(1:Int),Builtin.Slice.slicePlaces ((sIx n 0 lo:Nat):Int) ((sIx n n hi:Nat):Int) 1)) _ _ s
  rw [places_gen]
  exact wpAny_pure h
theorem pick_gen (xs:Array Value) (i k:Nat):((List.range k).filterMap fun (m:Nat)=>xs[((i:Int)+(m:Int)*1).toNat]?).toArray=((xs.toList.drop i).take k).toArray:=by
  have e:(fun (m:Nat)=>xs[((i:Int)+(m:Int)*1).toNat]?)=fun m=>xs[i+m]?:=by
    funext m
    have:((i:Int)+(m:Int)*1).toNat=i+m:=by omega
    rw [this]
  rw [e]
  have:=pick_run xs i k
  rw [List.filterMap_map] at this
  have e2:((fun x=>xs[x]?) ∘ fun x=>i+x)=fun m=>xs[i+m]?:=rfl
  rw [e2] at this
  rw [this]
theorem getItem_tuple_cut {t sl:Addr} {items:Array Value} {vl vu:Value} {lo hi:Option Int} {Q:Value→Shared→Prop} (ht:IsTup s.heap t items) (hs:s.heap.IsSliceOf sl vl vu .none) (pl:IsPart vl lo) (pu:IsPart vu hi)
    (hw:¬(sIx items.size 0 lo=0∧sIx items.size items.size hi=items.size))
    (h:Q (.ref s.heap.objs.size) { s with heap:=s.heap.push { cls:=.type "tuple", data:=.seq ((items.toList.drop (sIx items.size 0 lo)).take (sIx items.size items.size hi - sIx items.size 0 lo)).toArray } })
    (hsz:items.size≤sizeLine):wpAny (model prog w) A (getItem (.ref t) (.ref sl)) Q E s:=by
  have htake:sizeOk (.seq ((items.toList.drop (sIx items.size 0 lo)).take (sIx items.size items.size hi - sIx items.size 0 lo)).toArray):=by
    show ((items.toList.drop (sIx items.size 0 lo)).take (sIx items.size items.size hi - sIx items.size 0 lo)).toArray.size≤sizeLine
    rw [List.size_toArray,List.length_take,List.length_drop,Array.length_toList]
    omega
  have hj:sIx items.size items.size hi≤items.size:=sIx_le _ _ (Nat.le_refl _) hi
  obtain ⟨os,hos,hcs,hds⟩:=id hs
  have hTs:s.TypeIs (.ref sl) "slice" := ⟨os,hos,hcs⟩
  unfold getItem
  try with_reducible refine wpAny_holding ?_
  first|refine wpAny_bind (wpAny_pure ?_)|skip
  refine wpAny_bind (wpAny_sequenceKey ht.typeIs (by decide) ?_)
  refine wpAny_bind (wpAny_callSpecial?_slot (name:=Str.ofString "__getitem__") ht.typeIs PyProof.Rows.slot_tuple_getitem
    (wpAny_call_entry PyProof.Rows.slot_tuple_getitem ht.typeIs entry_tuple_getitem ?_ (args_tuple_getitem _ _)))
  show wpAny _ _ (Builtin.Tuple.tupleItemsOf (.ref t) >>= _) _ _ s
  refine wpAny_bind (tupleItemsOf_ ht ?_)
  refine wpAny_bind (wpAny_typeOf hTs ?_)
  rw [if_pos (by decide)]
  refine wpAny_bind (sliceApplied_gen hs pl pu ?_)
  have hno:¬((((sIx items.size 0 lo:Nat):Int) == 0 && (1:Int) == 1 && (sIx items.size items.size hi - sIx items.size 0 lo) == items.size)=true):=by
    intro q
    rw [Bool.and_eq_true,Bool.and_eq_true] at q
    have q1:((sIx items.size 0 lo:Nat):Int)=0:=eq_of_beq q.1.1
    have q2:sIx items.size items.size hi - sIx items.size 0 lo=items.size:=eq_of_beq q.2
    exact hw ⟨by omega,by omega⟩
  show wpAny _ _ (if (((sIx items.size 0 lo:Nat):Int) == 0 && (1:Int) == 1 && (sIx items.size items.size hi - sIx items.size 0 lo) == items.size)=true then _ else _) _ _ s
  rw [if_neg hno,pick_gen]
  first
    | exact wpAny_bind (m:=Builtin.Tuple.tupleExact _) (wpAny_newObj_type (wpAny_pure ⟨_,rfl,wpAny_pure h⟩) htake)
    | exact wpAny_bind (m:=Builtin.Tuple.tupleExact _) (wpAny_newObj_type (wpAny_bind (wpAny_pure (wpAny_pure ⟨_,rfl,wpAny_pure h⟩))) htake)
    | exact wpAny_bind (wpAny_bind (m:=Builtin.Tuple.tupleExact _) (wpAny_newObj_type (wpAny_pure (wpAny_pure ⟨_,rfl,wpAny_pure h⟩)) htake))
    | exact wpAny_bind (wpAny_bind (m:=Builtin.Tuple.tupleExact _) (wpAny_newObj_type (wpAny_pure ⟨_,rfl,wpAny_pure h⟩) htake))
end
end HT
namespace L2
open PySem PySem.Spec PyProof.Rows
abbrev TO:=St→Hp→(Option Int→Hp→Prop)→Prop
def PO (X:Cx) (e:Option Expr) (t:TO):Prop :=
  ∀ (pins:List (Addr×Obj)) (s:Shared) (σ:St) (H:Hp) (Q:Option Int→Hp→Prop),Inv X pins σ H s→t σ H Q →
    wpAny (model X.prog X.w) X.A (evalPart e X.env) (fun u s'=>∃ o H',Inv X pins σ H' s'∧IsPart u o∧Q o H') X.xe s
noncomputable def tNoPart:TO:=fun _ H Q=>Q none H
noncomputable def tPart (t:TE):TO:=fun σ H Q=>t σ H fun x H1=>∃ i,x=.int i∧Q (some i) H1
theorem intsAre_of {ns:List Int}:∀ {us:List Value},Vals (ns.map V.int) us→IntsAre us ns:=by
  induction ns with
  | nil=>intro us r;rw [List.map_nil] at r;cases r;exact .nil
  | cons n ns ih =>
    intro us r
    rw [List.map_cons] at r
    cases r with
    | cons r1 r2 =>
      obtain ⟨t,e⟩:=r1
      subst e
      exact .cons n t (ih r2)
section
variable {X:Cx} {e:Expr} {te:TE} {lo hi:Option Expr} {tl th:TO} {pos p2:Pos}
theorem po_none:PO X none tNoPart:=by
  intro pins s σ H Q I h
  rw [evalPart_none]
  exact wpAny_pure ⟨none,H,I,.none,h⟩
theorem po_some (h:PE X e te):PO X (some e) (tPart te):=by
  intro pins s σ H Q I hw
  rw [evalPart_some]
  refine thn (h pins s σ H _ I hw) fun u s1 ⟨x,H1,I1,r1,q1⟩=>?_
  obtain ⟨i,rfl,q⟩:=q1
  obtain ⟨t,rfl⟩:=r1
  exact ⟨some i,H1,I1,.int i t,q⟩
def SlR (X:Cx) (r:V→Option Int→Option Int→Hp→VK→Prop):Prop :=
  ∀ (pins:List (Addr×Obj)) (s:Shared) (σ:St) (H:Hp) (x:V) (v vl vu:Value) (lo hi:Option Int) (sl:Addr) (Q:VK),Inv X pins σ H s→RelV x v→s.heap.IsSliceOf sl vl vu .none→IsPart vl lo→IsPart vu hi→r x lo hi H Q →
    ∃ T id,typeLookup (.type T) "__getitem__" = pure (some (.builtin id))∧s.TypeIs v T∧wpAny (model X.prog X.w) X.A (getItem v (.ref sl)) (EP X pins σ Q) X.xe s
theorem SlR.or {r r':V→Option Int→Option Int→Hp→VK→Prop} (h:SlR X r) (h':SlR X r'):SlR X (fun x lo hi H Q=>r x lo hi H Q∨r' x lo hi H Q):=by
  intro pins s σ H x v vl vu lo hi sl Q I rx hs pl pu q
  rcases q with q|q
  · exact h pins s σ H x v vl vu lo hi sl Q I rx hs pl pu q
  · exact h' pins s σ H x v vl vu lo hi sl Q I rx hs pl pu q
noncomputable def tSl (r:V→Option Int→Option Int→Hp→VK→Prop) (te:TE) (tl th:TO):TE:=fun σ H Q=>te σ H fun x H1=>tl σ H1 fun l H2=>th σ H2 fun u H3=>r x l u H3 Q
theorem pe_slice {r:V→Option Int→Option Int→Hp→VK→Prop} (hr:SlR X r) (he:PE X e te) (hl:PO X lo tl) (hu:PO X hi th):PE X (.Subscript e (.Slice lo hi none p2) pos) (tSl r te tl th):=by
  intro pins s σ H Q I h
  refine Subscript_ (thn (he pins s σ H _ I h) fun v s1 ⟨x,H1,I1,r1,q1⟩=>?_)
  refine wpAny_Slice (thn (hl pins s1 σ H1 _ I1 q1) fun vl s2 ⟨l,H2,I2,pl,q2⟩=>thn (hu pins s2 σ H2 _ I2 q2) fun vu s3 ⟨u,H3,I3,pu,q3⟩=>?_)
  rw [evalPart_none]
  refine wpAny_pure ?_
  have I4:Inv X pins σ H3 { s3 with heap:=s3.heap.push { cls:=.type "slice", data:=.fields #[vl,vu,.none] } }:=I3.kept (t':=s3.toks) fun b ob q=>Heap.get?_push_of_some _ q
  obtain ⟨T,id,hT,ht,hg⟩:=hr pins { s3 with heap:=s3.heap.push { cls:=.type "slice", data:=.fields #[vl,vu,.none] } } σ H3 x v vl vu l u s3.heap.objs.size Q I4 r1 (Heap.IsSliceOf.new ..) pl pu q3
  show wpAny (model X.prog X.w) X.A (subscriptTail e (.Slice lo hi none p2) v (.ref s3.heap.objs.size)) (EP X pins σ Q) X.xe { s3 with heap:=s3.heap.push { cls:=.type "slice", data:=.fields #[vl,vu,.none] } }
  exact tail_any (ops:=[.ref s3.heap.objs.size,v]) ht hT hg (by with_unfolding_all rfl)
noncomputable def cutV (xs:List V) (lo hi:Option Int):List V:=(xs.drop (HT.sIx xs.length 0 lo)).take (HT.sIx xs.length xs.length hi - HT.sIx xs.length 0 lo)
theorem cutV_length (xs:List V) (lo hi:Option Int):(cutV xs lo hi).length≤xs.length:=by
  unfold cutV
  rw [List.length_take,List.length_drop]
  omega
def rSlT (K:PySem.W.Frag):V→Option Int→Option Int→Hp→VK→Prop:=fun x lo hi H Q=>∃ a xs,x=.ref a∧SqT K H a xs ∧
  ¬(HT.sIx xs.length 0 lo=0∧HT.sIx xs.length xs.length hi=xs.length)∧∀ p,H p=none→Q (.ref p) (upd H p (.tup (cutV xs lo hi)))
theorem sl_tup:SlR X (rSlT X.K):=by
  intro pins s σ H x v vl vu lo hi sl Q I rx hs pl pu h
  obtain ⟨a,xs,rfl,hx,hw,q⟩:=h
  cases rx
  obtain ⟨its,r,ht,hz⟩:=I.tuple hx
  have hlen:its.toArray.size=xs.length:=by rw [List.size_toArray];exact r.length.symm
  refine ⟨"tuple", _,PyProof.Rows.slot_tuple_getitem.lookup,ht.typeIs,?_⟩
  refine HT.getItem_tuple_cut ht hs pl pu (by rw [hlen];exact hw) ?_ (by rw [hlen];exact hz)
  rw [hlen]
  refine ⟨.ref s.heap.objs.size,_,I.laid (t':=s.toks) (o:=.tup (cutV xs lo hi)) (fun b ob q=>Heap.get?_push_of_some _ q) (Nat.le_refl _) ?_,rfl,q _ (I.hok.fresh (Nat.le_refl _))⟩
  exact ⟨Nat.le_trans (cutV_length xs lo hi) hz,_,(r.drop (HT.sIx xs.length 0 lo)).take (HT.sIx xs.length xs.length hi - HT.sIx xs.length 0 lo),IsTup.new _ _⟩
noncomputable def rCatT (K:PySem.W.Frag):R2:=fun x y H Q=>∃ a b xs ys,x=.ref a∧y=.ref b∧SqT K H a xs∧SqT K H b ys∧xs≠[]∧xs.length+ys.length≤sizeLine ∧
  (ys=[]→Q (.ref a) H)∧(ys≠[]→∀ p,H p=none→Q (.ref p) (upd H p (.tup (xs++ys))))
theorem Vals.nil_iff {xs:List V} {us:List Value} (r:Vals xs us):us=[]↔xs=[]:=by
  cases r with
  | nil=>simp
  | cons _ _=>simp
theorem op_catT:OpR X (binaryOp .Add) (rCatT X.K):=by
  intro pins s σ H x y v u Q I rx ry h
  obtain ⟨a,b,xs,ys,rfl,rfl,ha,hb,hx,hz,q1,q2⟩:=h
  cases rx
  cases ry
  obtain ⟨its,r1,p1,_⟩:=I.tuple ha
  obtain ⟨its2,r2,p2,_⟩:=I.tuple hb
  refine HT.cat_tup p1 p2 (fun z=>hx (r1.nil_iff.mp z)) (fun z=>⟨.ref a,H,I,rfl,q1 (r2.nil_iff.mp z)⟩) (fun z=>?_) (by rw [←r1.length,←r2.length];exact hz)
  refine ⟨.ref s.heap.objs.size,_,I.laid (t':=s.toks) (o:=.tup (xs++ys)) (fun b ob q=>Heap.get?_push_of_some _ q) (Nat.le_refl _) ?_,rfl,q2 (fun w=>z (r2.nil_iff.mpr w)) _ (I.hok.fresh (Nat.le_refl _))⟩
  exact ⟨by rw [List.length_append];exact hz,_,r1.append r2,IsTup.new _ _⟩
end
end L2
namespace L2
open PySem PySem.Spec PyProof.Rows
noncomputable def ixN (n:Nat) (i:Int):Option Nat:=if 0≤i then (if i < n then some i.toNat else none) else if -(n:Int)≤i then some (i+n).toNat else none
noncomputable def atI {α:Type} (xs:List α) (i:Int):Option α:=(ixN xs.length i).bind fun j=>xs[j]?
theorem ixN_seq {n:Nat} {i:Int} {j:Nat} (h:ixN n i=some j):seqIndex? i n=some j∧j < n∧-(n:Int)≤i∧i < n:=by
  unfold ixN at h
  by_cases h0:0≤i
  · rw [if_pos h0] at h
    by_cases h1:i < n
    · rw [if_pos h1] at h
      have e:i.toNat=j:=Option.some.inj h
      exact ⟨by rw [seqIndex_of h0 h1,e],by omega,by omega,h1⟩
    · rw [if_neg h1] at h;cases h
  · rw [if_neg h0] at h
    by_cases h1:-(n:Int)≤i
    · rw [if_pos h1] at h
      have e:(i+n).toNat=j:=Option.some.inj h
      exact ⟨by rw [seqIndex_neg (by omega) h1,e],by omega,h1,by omega⟩
    · rw [if_neg h1] at h;cases h
theorem atI_get {α:Type} {xs:List α} {i:Int} {v:α} (h:atI xs i=some v):∃ j,seqIndex? i xs.length=some j∧xs[j]?=some v∧j < xs.length∧-(xs.length:Int)≤i∧i < xs.length:=by
  unfold atI at h
  cases e:ixN xs.length i with
  | none=>rw [e] at h;cases h
  | some j =>
    rw [e] at h
    obtain ⟨h1,h2,h3,h4⟩:=ixN_seq e
    exact ⟨j,h1,h,h2,h3,h4⟩
def PlainIx (b:Expr):Prop:=∀ o i,subscripted b false o i=operate [o,i] (getItem o i)
def IxR (X:Cx) (r:R2):Prop :=
  ∀ (value slice:Expr) (pins:List (Addr×Obj)) (s:Shared) (σ:St) (H:Hp) (x y:V) (v u:Value) (Q:VK),Inv X pins σ H s→RelV x v→RelV y u→r x y H Q →
    subscripted slice false v u=operate [v,u] (getItem v u)→wpAny (model X.prog X.w) X.A (subscriptTail value slice v u) (EP X pins σ Q) X.xe s
def MtR (X:Cx) (id:String) (r:V→List V→Hp→VK→Prop):Prop :=
  ∀ (pins:List (Addr×Obj)) (s:Shared) (σ:St) (H:Hp) (x:V) (xs:List V) (v:Value) (us:List Value) (Q:VK),Inv X pins σ H s→RelV x v→Vals xs us→r x xs H Q →
    wpAny (model X.prog X.w) X.A (call (.builtin id) (v::us)) (EP X pins σ Q) X.xe s
section
variable {X:Cx} {a b:Expr} {ta tb:TE} {pos:Pos}
theorem IxR.or {r r':R2} (h:IxR X r) (h':IxR X r'):IxR X (fun x y H Q=>r x y H Q∨r' x y H Q):=by
  intro value slice pins s σ H x y v u Q I rx ry q hs
  rcases q with q|q
  · exact h value slice pins s σ H x y v u Q I rx ry q hs
  · exact h' value slice pins s σ H x y v u Q I rx ry q hs
theorem pe_ix {r:R2} (hr:IxR X r) (ha:PE X a ta) (hb:PE X b tb) (hs:PlainIx b):PE X (.Subscript a b pos) (tOp r ta tb):=by
  intro pins s σ H Q I h
  exact Subscript_ (binT ha hb I h fun v u s2 x y H2 I2 rx ry q=>hr a b pins s2 σ H2 x y v u Q I2 rx ry q (hs _ _))
noncomputable def rIxL (K:PySem.W.Frag):R2:=fun x y H Q=>∃ p xs i v,x=.ref p∧y=.int i∧SqL K H p xs∧atI xs i=some v∧Q v H
noncomputable def rIxT (K:PySem.W.Frag):R2:=fun x y H Q=>∃ p xs i v,x=.ref p∧y=.int i∧SqT K H p xs∧atI xs i=some v∧Q v H
noncomputable def rIxS:R2:=fun x y H Q=>∃ z i c,x=.str z∧y=.int i∧z.length≤sizeLine∧atI z.cps.toList i=some c∧Q (.str ⟨#[c]⟩) H
theorem ix_list:IxR X (rIxL X.K):=by
  intro value slice pins s σ H x y v u Q I rx ry h hs
  obtain ⟨p,xs,i,z,rfl,rfl,hq,he,q⟩:=h
  cases rx
  obtain ⟨t,rfl⟩:=ry
  obtain ⟨its,r,pl,hz⟩:=I.list hq
  obtain ⟨j,h1,h2,h3,h4,h5⟩:=atI_get he
  obtain ⟨w,ew,rw'⟩:=r.get h2
  have hl:=r.length
  have hn:=line63
  have fin:EP X pins σ Q w s:=⟨z,H,I,rw',q⟩
  by_cases h0:0≤i
  · have hj:i.toNat=j:=by
      rw [seqIndex_of h0 h5] at h1
      exact Option.some.inj h1
    exact item_listR pl.isList h0 (by omega) (by rw [hj];simpa using ew) fin hs
  · have hj:(i+(its.toArray.size:Int)).toNat=j:=by
      rw [seqIndex_neg (by omega) h4] at h1
      rw [List.size_toArray,←hl]
      exact Option.some.inj h1
    exact subscriptTail_builtinR (x:=w) pl.isList.typeIs slot_list_getitem.lookup
      (wpAny_getItem_list_neg (Q:=fun r s'=>r=w∧EP X pins σ Q r s') pl.isList (by omega) (by rw [List.size_toArray] <;> omega) (by omega) (by rw [hj];simpa using ew) ⟨rfl,fin⟩) hs
theorem ix_tup:IxR X (rIxT X.K):=by
  intro value slice pins s σ H x y v u Q I rx ry h hs
  obtain ⟨p,xs,i,z,rfl,rfl,hq,he,q⟩:=h
  cases rx
  obtain ⟨t,rfl⟩:=ry
  obtain ⟨its,r,pl,hz⟩:=I.tuple hq
  obtain ⟨j,h1,h2,h3,h4,h5⟩:=atI_get he
  obtain ⟨w,ew,rw'⟩:=r.get h2
  have hl:=r.length
  have hn:=line63
  have fin:EP X pins σ Q w s:=⟨z,H,I,rw',q⟩
  exact subscriptTail_builtinR (x:=w) pl.typeIs slot_tuple_getitem.lookup
    (getItem_tuple (j:=j) (Q:=fun r s'=>r=w∧EP X pins σ Q r s') pl (by omega) (by omega) (by rw [List.size_toArray,←hl];exact h1) (by simpa using ew) ⟨rfl,fin⟩) hs
theorem ix_str:IxR X rIxS:=by
  intro value slice pins s σ H x y v u Q I rx ry h hs
  obtain ⟨z,i,c,rfl,rfl,hz,he,q⟩:=h
  obtain ⟨t,rfl⟩:=rx
  obtain ⟨t',rfl⟩:=ry
  obtain ⟨j,h1,h2,h3,h4,h5⟩:=atI_get he
  have hl:z.cps.toList.length=z.length:=by simp [Str.length]
  rw [hl] at h1 h4 h5
  have hn:=line63
  exact tail_any (typeIs_str s z t) slot_str_getitem.lookup (getItem_str (c:=c) (by
    have e1:decide (i < -(2 ^ 63:Int))=false:=decide_eq_false (by omega)
    have e2:decide (i≥2 ^ 63)=false:=decide_eq_false (by omega)
    rw [e1,e2,Bool.or_false]) (by rw [h1];simpa using h2) ⟨.str ⟨#[c]⟩,H,I.tok _,⟨_,rfl⟩,q⟩) hs
noncomputable def rIx (K:PySem.W.Frag):R2:=fun x y H Q=>rIxL K x y H Q∨rIxT K x y H Q∨rIxS x y H Q
theorem ix_seq:IxR X (rIx X.K):=ix_list.or (ix_tup.or ix_str)
theorem Inv.lst {pins:List (Addr×Obj)} {σ:St} {H:Hp} {s:Shared} {p:Addr} {xs:List V} (I:Inv X pins σ H s) (h:H p=some (.lst xs)) :
    ∃ (its:List Value) (n:Nat),Vals xs its∧s.heap.get? p=some { cls:=.type "list", data:=.seq its.toArray n }∧xs.length≤sizeLine:=by
  obtain ⟨z,its,n,r,e⟩:=I.hok p _ h
  exact ⟨its,n,r,e,z⟩
theorem slice_bounds (lo hi:Option Int) (n:Nat):(sliceBounds lo hi none n).1=((HT.sIx n 0 lo:Nat):Int)∧(sliceBounds lo hi none n).2.1=((HT.sIx n n hi:Nat):Int)∧(sliceBounds lo hi none n).2.2=1:=by
  refine ⟨?_,?_,rfl⟩
  · cases lo with
    | none=>simp [sliceBounds,HT.sIx]
    | some i =>
      simp only [sliceBounds,HT.sIx,Option.getD_none,show (1:Int) > 0 by decide,if_true]
      by_cases h:i < 0
      · simp only [h,if_true] <;> omega
      · simp only [h,if_false] <;> omega
  · cases hi with
    | none=>simp [sliceBounds,HT.sIx]
    | some i =>
      simp only [sliceBounds,HT.sIx,Option.getD_none,show (1:Int) > 0 by decide,if_true]
      by_cases h:i < 0
      · simp only [h,if_true] <;> omega
      · simp only [h,if_false] <;> omega
theorem slicePick_cut (its:List Value) (lo hi:Option Int):slicePick its.toArray lo hi none=((its.drop (HT.sIx its.length 0 lo)).take (HT.sIx its.length its.length hi - HT.sIx its.length 0 lo)).toArray:=by
  obtain ⟨h1,h2,h3⟩:=slice_bounds lo hi its.toArray.size
  unfold slicePick
  rw [h1,h2,h3]
  simp only [sliceRange_one,pick_run,List.size_toArray] <;> rfl
def rSlL (K:PySem.W.Frag):V→Option Int→Option Int→Hp→VK→Prop:=fun x lo hi H Q=>∃ a xs,x=.ref a∧SqL K H a xs∧∀ p,H p=none→Q (.ref p) (upd H p (.lst (cutV xs lo hi)))
theorem sl_list:SlR X (rSlL X.K):=by
  intro pins s σ H x v vl vu lo hi sl Q I rx hs pl pu h
  obtain ⟨a,xs,rfl,hx,q⟩:=h
  cases rx
  obtain ⟨its,r,ht,hz⟩:=I.list hx
  have hlen:=r.length
  refine ⟨"list", _,slot_list_getitem.lookup,ht.isList.typeIs,?_⟩
  refine wpAny_getItem_list_slice ht.isList hs pl pu .none (by simp) ?_ (by rw [List.size_toArray] <;> omega)
  rw [slicePick_cut,←hlen]
  refine ⟨.ref s.heap.objs.size,_,I.laid (t':=s.toks) (o:=.lst (cutV xs lo hi)) (fun b ob q=>Heap.get?_push_of_some _ q) (Nat.le_refl _) ?_,rfl,q _ (I.hok.fresh (Nat.le_refl _))⟩
  exact ⟨Nat.le_trans (cutV_length xs lo hi) hz,_,0,(r.drop (HT.sIx xs.length 0 lo)).take (HT.sIx xs.length xs.length hi - HT.sIx xs.length 0 lo),Heap.get?_push_size _ rfl⟩
theorem call_len_seq:CallR X (.builtin "len") (fun xs H Q=>∃ p ys,xs=[.ref p]∧(SqL X.K H p ys∨SqT X.K H p ys)∧Q (.int ys.length) H):=by
  intro pins s σ H xs us Q I r h
  obtain ⟨p,ys,rfl,hq,q⟩:=h
  obtain ⟨u,rfl,rx⟩:=vals1 r
  cases rx
  have hn:=line63
  rcases hq with hq|hq
  · obtain ⟨its,r',pl,hz⟩:=I.list hq
    have hlen:=r'.length
    exact Calls.call_len_list pl.isList (by simp only [List.size_toArray] <;> omega) ⟨.int ys.length,H,I.tok _,⟨s.toks+1,by rw [List.size_toArray,hlen]⟩,q⟩
  · obtain ⟨its,r',pl,hz⟩:=I.tuple hq
    have hlen:=r'.length
    exact len_tuple pl (by simp only [List.size_toArray] <;> omega) ⟨.int ys.length,H,I.tok _,⟨s.toks+1,by rw [List.size_toArray,hlen]⟩,q⟩
theorem call_list_of:CallR X (.type "list") (fun xs H Q=>∃ p ys,xs=[.ref p]∧(SqL X.K H p ys∨SqT X.K H p ys)∧∀ l,H l=none→Q (.ref l) (upd H l (.lst ys))):=by
  intro pins s σ H xs us Q I r h
  obtain ⟨p,ys,rfl,hq,q⟩:=h
  obtain ⟨u,rfl,rx⟩:=vals1 r
  cases rx
  have fin:∀ (its:List Value),Vals ys its→ys.length≤sizeLine→∀ (h':Heap) (c':Nat),(∀ b o',s.heap.get? b=some o'→h'.get? b=some o') →
      h'.get? s.heap.objs.size=some { cls:=.type "list", dict:=none,data:=.seq its.toArray c',slots:=#[] }→EP X pins σ Q (.ref s.heap.objs.size) { s with heap:=h' }:=fun its r' hz h' c' kp e =>
    ⟨.ref s.heap.objs.size,_,I.laid (t':=s.toks) kp (Nat.le_refl _) (show ObjOk X.prog X.w _ h' _ (.lst ys) from ⟨hz,its,c',r',e⟩),rfl,q _ (I.hok.fresh (Nat.le_refl _))⟩
  rcases hq with hq|hq
  · obtain ⟨its,r',pl,hz⟩:=I.list hq
    have hlen:=r'.length
    obtain ⟨o,ho,hc,n,hd⟩:=pl.isList
    exact call_list_seq p (.inl rfl) ho hc hd (fun h' c' kp e=>fin its r' hz h' c' kp e) (by simp only [List.size_toArray] <;> omega)
  · obtain ⟨its,r',pl,hz⟩:=I.tuple hq
    have hlen:=r'.length
    obtain ⟨o,ho,hc,n,hd⟩:=pl
    exact call_list_seq p (.inr rfl) ho hc hd (fun h' c' kp e=>fin its r' hz h' c' kp e) (by simp only [List.size_toArray] <;> omega)
def tyV (K:PySem.W.Frag) (T:String) (x:V) (H:Hp):Prop:=match x with
  | .str _=>T = "str"
  | .int _=>T = "int"
  | .ref p=>(T = "list" ∧ ∃ xs,SqL K H p xs)∨(T = "tuple" ∧ ∃ o,K.lookup p=some o∧o.cls=.type "tuple" ∧ o.dict=none) ∨
      (T = "dict" ∧ ((∃ kvs,H p=some (.dK kvs))∨∃ kvs,H p=some (.dT kvs)))∨(T = "set" ∧ ∃ S n,H p=some (.set S n))
  | _=>False
theorem tyV_is {pins:List (Addr×Obj)} {σ:St} {H:Hp} {s:Shared} {T:String} {x:V} {v:Value} (I:Inv X pins σ H s) (r:RelV x v) (ty:tyV X.K T x H) :
    s.TypeIs v T∧∀ a,v=.ref a→∃ ob,s.heap.get? a=some ob∧ob.dict=none:=by
  cases x with
  | str z =>
    obtain ⟨t,rfl⟩:=r
    cases (show T = "str" from ty)
    exact ⟨typeIs_str s z t,fun _ e=>nomatch e⟩
  | int i =>
    obtain ⟨t,rfl⟩:=r
    cases (show T = "int" from ty)
    exact ⟨typeIs_int s i t,fun _ e=>nomatch e⟩
  | ref p =>
    cases r
    rcases ty with ⟨rfl,xs,hq⟩|⟨rfl,o,hk,hc,hd⟩|⟨rfl,hk⟩|⟨rfl,S,n,hk⟩
    · obtain ⟨its,_,pl,_⟩:=I.list hq
      refine ⟨pl.isList.typeIs,fun a e=>?_⟩
      cases e
      obtain ⟨o,n,e,c,hd,_⟩:=pl
      exact ⟨o,e,hd⟩
    · refine ⟨⟨o,I.kIn p o hk,hc⟩,fun a e=>?_⟩
      cases e
      exact ⟨o,I.kIn _ o hk,hd⟩
    · have z:∃ o,s.heap.get? p=some o∧o.ExactDict:=by
        rcases hk with ⟨kvs,hk⟩|⟨kvs,hk⟩
        · obtain ⟨_,_,_,_,o,_,_,e,ex,_⟩:=I.hok p _ hk
          exact ⟨o,e,ex⟩
        · obtain ⟨_,_,_,_,o,_,_,e,ex,_⟩:=I.hok p _ hk
          exact ⟨o,e,ex⟩
      obtain ⟨o,e,ex⟩:=z
      refine ⟨⟨o,e,ex.1⟩,fun a e2=>?_⟩
      cases e2
      exact ⟨o,e,ex.2.1⟩
    · obtain ⟨o,_,_,_,e,ex,_⟩:=I.hok p _ hk
      refine ⟨⟨o,e,ex.1⟩,fun a e2=>?_⟩
      cases e2
      exact ⟨o,e,ex.2.1⟩
  | _=>exact False.elim ty
noncomputable def tBM0 (K:PySem.W.Frag) (T:String) (r:V→List V→Hp→VK→Prop) (to:TE):TE:=fun σ H Q=>to σ H fun x H1=>tyV K T x H1∧r x [] H1 Q
noncomputable def tBM (K:PySem.W.Frag) (T:String) (r:V→List V→Hp→VK→Prop) (to:TE) (t:TA):TE:=fun σ H Q=>to σ H fun x H1=>tyV K T x H1∧t σ H1 fun xs H2=>r x xs H2 Q
variable {o e:Expr} {es:List Expr} {to:TE} {t:TA} {name:Str} {apos cpos:Pos} {T id:String} {r:V→List V→Hp→VK→Prop}
theorem pe_bm0 (pa:PlainAttrs T) (slot:Slot T name id) (hty:typeOf (.builtin id)=pure (.type "method_descriptor")) (hm:MtR X id r) (ho:PE X o to)
    (hbase:attributeBase o name X.env (eval o X.env)=eval o X.env:=by rfl) (hline:(apos.endLine == cpos.line)=true:=by rfl):PE X (.Call (.Attribute o name apos) [] [] cpos) (tBM0 X.K T r to):=by
  intro pins s σ H Q I h
  refine wpAny_Call_method0_late hbase hline (thn (ho pins s σ H _ I h) fun v s1 ⟨x,H1,I1,r1,ty,q1⟩=>?_)
  obtain ⟨h1,h2⟩:=tyV_is I1 r1 ty
  exact ⟨T,id,pa,slot,hty,h1,h2,Calls.callWith_builtin rfl (PySem.evalArgs_none (hm pins s1 σ H1 x [] v [] Q I1 r1 .nil q1))⟩
theorem pe_bm (pa:PlainAttrs T) (slot:Slot T name id) (hty:typeOf (.builtin id)=pure (.type "method_descriptor")) (hm:MtR X id r) (ho:PE X o to) (ha:PA X (e::es) t)
    (hbase:attributeBase o name X.env (eval o X.env)=eval o X.env:=by rfl)
    (hfew:((backTo cpos (starEach (e::es) X.env)).all (fun x=>!x.1) && (backToKw cpos (keywordEach [] X.env)).all (fun x=>x.1.isSome)
      && decide ((e::es).length+([]:List Keyword).length+(if ([]:List Keyword).isEmpty then 0 else 1) < 30))=true:=by rfl)
    (hline:(apos.endLine == cpos.line)=true:=by rfl) (hs:starEach (e::es) X.env=(false,eval e X.env)::starEach es X.env:=by rfl) (hplain:(backTo cpos (starEach es X.env)).any (·.1)=false:=by rfl) :
    PE X (.Call (.Attribute o name apos) (e::es) [] cpos) (tBM X.K T r to t):=by
  intro pins s σ H Q I h
  refine wpAny_Call_method_late hbase hfew hline rfl (thn (ho pins s σ H _ I h) fun v s1 ⟨x,H1,I1,r1,ty,q1⟩=>?_)
  obtain ⟨h1,h2⟩:=tyV_is I1 r1 ty
  refine ⟨T,id,pa,slot,hty,h1,h2,?_⟩
  have hA:=ha cpos pins s1 σ H1 _ I1 q1
  rw [hs] at hA ⊢
  refine Calls.callWith_builtin (by show (false || (backTo cpos (starEach es X.env)).any (·.1))=false;rw [hplain] <;> rfl) (Calls.evalArgs_plain ?_)
  exact thn hA fun us s2 ⟨vs,H2,I2,r2,q2⟩=>hm pins s2 σ H2 x vs v us Q I2 r1 r2 q2
/- xs.append(e),list.index on a module's tuple .. are MtR facts of 06m -/
end
end L2
namespace L2
open PySem PySem.Spec PyProof.Rows
def MtM (X:Cx) (id:String) (r:V→List V→Hp→VK→Prop):Prop :=
  ∀ (pins:List (Addr×Obj)) (s:Shared) (σ:St) (H:Hp) (x:V) (xs:List V) (v:Value) (us:List Value) (Q:VK),Inv X pins σ H s→RelV x v→Vals xs us→r x xs H Q →
    wpAny (model X.prog X.w) X.A (call (.builtin id) (v::us)) (EP X pins σ Q) X.xe s
theorem Vals.one:∀ {x:V} {us:List Value},Vals [x] us→∃ u,us=[u]∧RelV x u
  | _,_,.cons r .nil=>⟨_,rfl,r⟩
theorem Vals.zero:∀ {us:List Value},Vals [] us→us=[]
  | _,.nil=>rfl
theorem Vals.dropLast {xs:List V} {us:List Value} (h:Vals xs us):Vals xs.dropLast us.dropLast:=by
  induction h with
  | nil=>exact .nil
  | cons r t ih =>
    cases t with
    | nil=>exact .nil
    | cons q t'=>exact .cons r ih
theorem Vals.eraseIdx:∀ {xs:List V} {us:List Value} (i:Nat),Vals xs us→Vals (xs.eraseIdx i) (us.eraseIdx i)
  | _,_,_,.nil=>.nil
  | _,_,0,.cons _ t=>t
  | _,_,i+1,.cons r t=>.cons r (Vals.eraseIdx i t)
theorem Vals.reverse {xs:List V} {us:List Value} (h:Vals xs us):Vals xs.reverse us.reverse:=by
  induction h with
  | nil=>exact .nil
  | cons r t ih=>rw [List.reverse_cons,List.reverse_cons];exact Vals.append ih (.cons r .nil)
theorem Vals.rep {xs:List V} {us:List Value} (h:Vals xs us):∀ k:Nat,Vals (List.replicate k xs).flatten (List.replicate k us).flatten
  | 0=>.nil
  | k+1=>by
    rw [List.replicate_succ,List.replicate_succ,List.flatten_cons,List.flatten_cons]
    exact Vals.append h (Vals.rep h k)
theorem erase_last {α:Type} (l:List α):l.eraseIdx (l.length - 1)=l.dropLast:=by
  induction l with
  | nil=>rfl
  | cons a r ih =>
    cases r with
    | nil=>rfl
    | cons b r =>
      have e:(a::b::r).length - 1=((b::r).length - 1)+1:=by
        have h1:(a::b::r).length=r.length+2:=rfl
        have h2:(b::r).length=r.length+1:=rfl
        omega
      rw [e,List.eraseIdx_cons_succ,ih]
      all_goals rfl
theorem len_erase {α:Type}:∀ (l:List α) (i:Nat),(l.eraseIdx i).length≤l.length
  | [],_=>Nat.le_refl _
  | _::_,0=>Nat.le_succ _
  | _::r,i+1=>Nat.succ_le_succ (len_erase r i)
section
variable {X:Cx} {pins:List (Addr×Obj)} {σ:St} {H:Hp} {s:Shared} {l b:Addr} {xs ys zs:List V}
theorem Inv.lset {its its':List Value} {n:Nat} {f:Array Value→Array Value} {t':Nat} (I:Inv X pins σ H s) (hH:H l=some (.lst xs))
    (e:s.heap.get? l=some { cls:=.type "list", data:=.seq its.toArray n }) (hf:f its.toArray=its'.toArray) (hv:Vals ys its') (hz:ys.length≤sizeLine) :
    Inv X pins σ (upd H l (.lst ys)) { s with heap:=s.heap.update l (Obj.mapSeq f),toks:=t' }:=by
  have q:=PySem.IsL.update e f
  rw [hf] at q
  refine I.write (x:=l) (e:=l) (by rw [hH];exact trivial) (.inl rfl) (fun b' u hb hu=>(Heap.get?_update_other s.heap (Obj.mapSeq f) (Ne.symm hb)).trans hu) ⟨_,q⟩ ?_
  exact ⟨hz,its',_,hv,q⟩
theorem Inv.lnew {its:List Value} {t':Nat} (I:Inv X pins σ H s) (hv:Vals ys its) (hz:ys.length≤sizeLine) :
    Inv X pins σ (upd H s.heap.objs.size (.lst ys)) { s with heap:=s.heap.push { cls:=.type "list", data:=.seq its.toArray },toks:=t' } :=
  I.laid (fun _ _ q=>Heap.get?_push_of_some _ q) (Nat.le_refl _) ⟨hz,its,0,hv,Heap.get?_push_size _ rfl⟩
theorem Inv.fresh (I:Inv X pins σ H s):H s.heap.objs.size=none:=I.hok.fresh (Nat.le_refl _)
theorem Inv.lstM (I:Inv X pins σ H s) (hH:H l=some (.lst xs)):xs.length≤sizeLine∧∃ (its:List Value) (n:Nat),Vals xs its∧xs.length=its.length∧s.heap.get? l=some { cls:=.type "list", data:=.seq its.toArray n }:=by
  obtain ⟨z,its,n,r,e⟩:=I.hok l _ hH
  exact ⟨z,its,n,r,r.length,e⟩
theorem notLongL {n:Nat} (h:n≤sizeLine):Builtin.List.listTooLong n=false:=by
  unfold Builtin.List.listTooLong
  exact decide_eq_false (by omega)
end
section
variable {X:Cx}
def rAppend:V→List V→Hp→VK→Prop:=fun x vs H Q=>∃ l xs y,x=.ref l∧vs=[y]∧H l=some (.lst xs)∧xs.length < sizeLine∧Q .non (upd H l (.lst (xs++[y])))
theorem mt_append:MtM X "list.append" rAppend:=by
  intro pins s σ H x vs v us Q I rx rv h
  obtain ⟨l,xs,y,rfl,rfl,hH,hz,q⟩:=h
  cases rx
  obtain ⟨u,rfl,ru⟩:=rv.one
  obtain ⟨z,its,n,r,hl,e⟩:=I.lstM hH
  refine call_meets F.slot_list_append ⟨_,e,rfl⟩ F.entry_list_append (F.args_list_append_2 _ _) (PySem.list_append l its.toArray n u (by rw [List.size_toArray];omega)) ⟨e,?_⟩
  refine ⟨.non,_,I.lset (its':=its++[u]) hH e (by simp) (r.append (.cons ru .nil)) ?_,rfl,q⟩
  rw [List.length_append,List.length_singleton]
  omega
def rExtend:V→List V→Hp→VK→Prop:=fun x vs H Q=>∃ l b xs zs,x=.ref l∧vs=[.ref b]∧H l=some (.lst xs)∧H b=some (.lst zs)∧xs.length+zs.length≤sizeLine∧Q .non (upd H l (.lst (xs++zs)))
theorem mt_extend:MtM X "list.extend" rExtend:=by
  intro pins s σ H x vs v us Q I rx rv h
  obtain ⟨l,b,xs,zs,rfl,rfl,hH,hB,hz,q⟩:=h
  cases rx
  obtain ⟨u,rfl,ru⟩:=rv.one
  cases ru
  obtain ⟨z,its,n,r,hl,e⟩:=I.lstM hH
  obtain ⟨z2,its2,n2,r2,hl2,e2⟩:=I.lstM hB
  have hsz:its.toArray.size+its2.toArray.size≤sizeLine:=by rw [List.size_toArray,List.size_toArray];omega
  have hlong:¬(!its.toArray.isEmpty && Builtin.List.listTooLong (its.toArray.size+its2.toArray.size))=true:=by
    rw [notLongL hsz,Bool.and_false]
    exact Bool.false_ne_true
  refine call_meets F.slot_list_extend ⟨_,e,rfl⟩ F.entry_list_extend (F.args_list_extend_2 _ _)
    (AutoSeq1.list_extend_list_list_0 l its.toArray n b its2.toArray n2 hlong (by rw [List.size_toArray];omega) (by omega)) ⟨e,e2,?_⟩
  refine ⟨.non,_,I.lset (its':=its++its2) hH e (by simp) (r.append r2) ?_,rfl,q⟩
  rw [List.length_append]
  omega
def rPop:V→List V→Hp→VK→Prop:=fun x vs H Q=>∃ l xs y,x=.ref l∧vs=[]∧H l=some (.lst xs)∧xs[xs.length - 1]?=some y∧Q y (upd H l (.lst xs.dropLast))
theorem mt_pop:MtM X "list.pop" rPop:=by
  intro pins s σ H x vs v us Q I rx rv h
  obtain ⟨l,xs,y,rfl,rfl,hH,hy,q⟩:=h
  cases rx
  have hus:=rv.zero
  subst hus
  obtain ⟨z,its,n,r,hl,e⟩:=I.lstM hH
  obtain ⟨u,hu,ru⟩:=r.get hy
  have hy':its.toArray[its.toArray.size - 1]?=some u:=by
    show its.toArray[its.length - 1]?=some u
    rw [←Array.getElem?_toList,←hl]
    exact hu
  refine call_meets F.slot_list_pop ⟨_,e,rfl⟩ F.entry_list_pop (F.args_list_pop_1 _) (MeetsSeq.list_pop_last l its.toArray n u hy' (by rw [List.size_toArray];omega)) ⟨e,?_⟩
  refine ⟨y,_,I.lset (its':=its.dropLast) hH e ?_ r.dropLast ?_,ru,q⟩
  · show its.toArray.eraseIdxIfInBounds (its.toArray.size - 1)=its.dropLast.toArray
    rw [List.size_toArray,List.eraseIdxIfInBounds_toArray,erase_last]
  · rw [List.length_dropLast]
    omega
def rPopAt:V→List V→Hp→VK→Prop:=fun x vs H Q=>∃ l xs i k y,x=.ref l∧vs=[.int i]∧H l=some (.lst xs)∧-(2 ^ 63)≤i∧i < 2 ^ 63∧seqIndex? i xs.length=some k∧xs[k]?=some y∧Q y (upd H l (.lst (xs.eraseIdx k)))
theorem mt_popAt:MtM X "list.pop" rPopAt:=by
  intro pins s σ H x vs v us Q I rx rv h
  obtain ⟨l,xs,i,k,y,rfl,rfl,hH,h1,h2,hk,hy,q⟩:=h
  cases rx
  obtain ⟨u,rfl,ru⟩:=rv.one
  obtain ⟨t,rfl⟩:=ru
  obtain ⟨z,its,n,r,hl,e⟩:=I.lstM hH
  obtain ⟨w,hw,rw'⟩:=r.get hy
  refine call_meets F.slot_list_pop ⟨_,e,rfl⟩ F.entry_list_pop (F.args_list_pop_2 _ _)
    (MeetsSeq.list_pop_at l its.toArray n i t k w (fitsIndex_both h1 h2) (by rw [List.size_toArray,←hl];exact hk) (by rw [←Array.getElem?_toList];exact hw) (by rw [List.size_toArray];omega)) ⟨e,?_⟩
  refine ⟨y,_,I.lset (its':=its.eraseIdx k) hH e ?_ (r.eraseIdx k) ?_,rw',q⟩
  · show its.toArray.eraseIdxIfInBounds k=(its.eraseIdx k).toArray
    rw [List.eraseIdxIfInBounds_toArray]
  · have:=len_erase xs k
    omega
noncomputable def rCat:R2:=fun x y H Q=>∃ l b xs zs,x=.ref l∧y=.ref b∧H l=some (.lst xs)∧H b=some (.lst zs)∧xs.length+zs.length≤sizeLine∧∀ p,H p=none→Q (.ref p) (upd H p (.lst (xs++zs)))
theorem op_cat:OpR X (binaryOp .Add) rCat:=by
  intro pins s σ H x y v u Q I rx ry h
  obtain ⟨l,b,xs,zs,rfl,rfl,hH,hB,hz,q⟩:=h
  cases rx
  cases ry
  obtain ⟨z,its,n,r,hl,e⟩:=I.lstM hH
  obtain ⟨z2,its2,n2,r2,hl2,e2⟩:=I.lstM hB
  refine PySem.P.add_list e e2 ?_ (by rw [List.size_toArray,List.size_toArray];omega)
  have ea:its.toArray++its2.toArray=(its++its2).toArray:=by simp
  rw [ea]
  exact ⟨.ref _,_,I.lnew (t':=s.toks) (r.append r2) (by rw [List.length_append];omega),rfl,q _ I.fresh⟩
end
section
variable {prog:Program} {w:World} {A:Around} {E:Value→Shared→Prop} {s:Shared}
end
section
variable {X:Cx}
end
end L2
namespace Att
open PySem PySem.W PySem.Calls PyProof.Rows
theorem ints_of_wellAll {P:Params} {h:Heap}:∀ (ns:List Int) (vs:List Value),WellAll P h vs (ns.map WData.int)→IntsAre vs ns:=by
  intro ns
  induction ns with
  | nil =>
    intro vs w
    rw [List.map_nil] at w
    cases w
    exact .nil
  | cons n ns ih =>
    intro vs w
    rw [List.map_cons] at w
    cases w with
    | cons a b =>
      cases a
      exact .cons _ _ (ih _ b)
theorem script_of {l:OpenLaw} {n:Nat} (hn:l.most=some n) {P:Params} {h:Heap} {args:List WData} {vals:List Value}
    (hpre:l.row.toRowW.claim.pre args=true) (hwl:WellAll P h vals args) :
    ∃ a vs ns,vals=[Value.ref a]∧args=[WData.list (ns.map WData.int)]∧h.get? a=some { cls:=.type "list", data:=.seq vs.toArray }∧IntsAre vs ns∧ns.length≤n:=by
  have hsh:WShape.hasAll [] args [.list .int]=true:=(pre_splitW hpre).1
  have hc:l.pre.holds [] { args:=args }=true:=(pre_splitW hpre).2
  obtain ⟨d,r,rfl,h1,h2⟩:=hasAllW_cons hsh
  obtain rfl:=hasAllW_nil h2
  obtain ⟨xs,rfl,h3⟩:=hasW_list h1
  obtain ⟨ns,rfl⟩:=items_int h3
  have hlen:ns.length≤n:=by
    unfold OpenLaw.pre at hc
    have h4:(WTm.not (.lt (.lit (.int (n:Int))) (.len (.arg 0)))).holds [] { args:=[.list (ns.map .int)] }=true:=by
      have h4:=(holds_andW hc).1
      rw [hn] at h4
      exact h4
    have h5:=condW_of h4 (w_not (w_lt w_lit (w_len_list (w_arg rfl))))
    rw [List.length_map] at h5
    refine Nat.le_of_not_lt fun q=>?_
    have q':(n:Int) < ((ns.length:Nat):Int):=by omega
    first
      | (rw [decide_eq_true q'] at h5;exact absurd h5 (by decide))
      | (simp at h5;omega)
  cases hwl with
  | cons w1 w2 =>
    cases w2
    cases w1 with
    | list ho hall=>exact ⟨_,_,ns,rfl,rfl,ho,ints_of_wellAll ns _ hall,hlen⟩
theorem post_true (l:OpenLaw) (args:List WData):l.row.toRowW.claim.post args (.bool true) args=true :=
  postW_of (r:=l.row.toRowW) (X:=(true == true))
    (show WShape.has [] (.bool true) .bool=true by first|rfl|decide|simp [WShape.has,WShape.arms,WShape.armsAll])
    (show (WTm.eq .res (.lit (.bool true))).value [] { args:=args,res:=some (.bool true),after:=args }=some (.bool (true == true)) from w_eq_bool (w_res rfl) w_lit) rfl
theorem attach_call {l:OpenLaw} {n:Nat} {q:Program} {loose:List Str} {XP:(Str→Option Value)→Heap→Prop} {YP:World→Heap→Prop} {d:DefRec}
    (hn:l.most=some n) (hdf:d.params.defaults=[])
    (call:∀ (w:World) (s₀ s₁:Shared) (mg mb:Str→Option Value) (fa:Addr) (o:Obj) (pm cd doc:Value) (a:Addr) (vs:List Value) (ns:List Int),
      Ground q loose [] XP w s₀ mg mb s₁.heap→YP w s₁.heap →
      s₁.heap.get? fa=some o→o.data=.func (docDef d.name d.params d.body d.scope pm cd doc)→s₁.heap.CodeRec cd d.name→mg d.name=some (.ref fa) →
      s₁.heap.get? a=some { cls:=.type "list", data:=.seq vs.toArray }→IntsAre vs ns→ns.length≤n→s₁.gens=#[] →
      codeAny (model l.prog w) callerA (.call (.ref fa) ⟨[.ref a],[]⟩) (fun r s'=>r=.ok (.ret (.bool true))∧OldK s₁.heap s'.heap∧s'.os=s₁.os∧AllBare s'.gens) s₁) :
    WalkO q loose XP YP l.row.toRowW d [] (fun f vs=>PySem.call f vs):=by
  intro w s₀ s₁ mg mb G Y fa o pm cd doc dV kV ho hd hcd hD hmg hg args vals as hpre hlay hrd hwl hlo
  obtain rfl:dV=.none:=Dflts.none hD hdf
  obtain rfl:kV=.none:=Dflts.noKw hD
  obtain ⟨a,vs,ns,rfl,rfl,hobj,hints,hlen⟩:=script_of hn hpre hwl
  refine enter_call (codeAny_mono (call w s₀ s₁ mg mb fa o pm cd doc a vs ns G Y ho (fd_plain hd) hcd hmg hobj hints hlen hg) fun r s' hq=>?_)
  obtain ⟨rfl,h2,h3,h4⟩:=hq
  exact ⟨.inl ⟨.bool true,.bool true,[],rfl,fun _=>rfl,.bool true,post_true l _,fun _=>⟨List.Pairwise.nil,fun _ hm=>(nomatch hm)⟩⟩,h2,h3,h4⟩
section
variable {prog:Program} {w:World} {A:Around} {E:Value→Shared→Prop} {s:Shared} {K:Frag}
end
end Att
namespace L2
open PySem PySem.Spec PyProof.Rows
theorem vals_ints:∀ {vs:List Value} {ns:List Int},IntsAre vs ns→Vals (ns.map V.int) vs
  | _,_,.nil=>.nil
  | _,_,.cons n t h=>.cons ⟨t,rfl⟩ (vals_ints h)
def Only (H:Hp):Prop:=∀ b,H b=none∨∃ o xs,H b=some (.frz o (.lst xs))
theorem law_call {P:Program} {w:World} {K:PySem.W.Frag} {mg mb:Str→Option Value} {CX:CXT} {k:Nat} {fa a:Addr} {fd:FuncData} {x:Str} {sp:Sp} {s₁:Shared} {vs:List Value} {ns:List Int}
    (KX:K.In s₁.heap) (hns:s₁.heap.Ns mainGlobals mg) (hb:s₁.heap.Ns builtinsNs mb) (hbb:∀ x:Str,x ≠ "__name__" → mb x=bootBuiltins x) (hlim:s₁.heap.NoLimit) (hg:s₁.gens=#[])
    (ha:s₁.heap.get? a=some { cls:=.type "list", data:=.seq vs.toArray }) (hi:IntsAre vs ns) (hl:ns.length≤sizeLine) (hr:Room k callerA)
    (F:∀ base:Heap,K.In base→base.Ns mainGlobals mg→FnOk P w K mg base CX k fa fd [x] sp) (hbind:∀ (s:Shared) (u:Value),BindsTo s fd ⟨[u],[]⟩ [(x,u)])
    (hsp:∀ H:Hp,Only H→SqL K H a (ns.map V.int)→sp [.ref a] H (fun v _=>v=.bl true) fun _ _ _=>False)
    (hCX:∀ H e s',CX [] H s₁ (fun _ _ _=>False) e s'→False) :
    codeAny (model P w) callerA (.call (.ref fa) ⟨[.ref a],[]⟩) (fun r s'=>r=.ok (.ret (.bool true))∧OldK s₁.heap s'.heap∧s'.os=s₁.os∧AllBare s'.gens) s₁:=by
  have rv:=vals_ints hi
  have lenV:=hi.length
  have core:∀ H:Hp,Only H→SqL K H a (ns.map V.int)→HOk P w H s₁.heap→(∀ b,H b≠none→b=a)→(H a≠none→K.lookup a=none) →
      codeAny (model P w) callerA (.call (.ref fa) ⟨[.ref a],[]⟩) (fun r s'=>r=.ok (.ret (.bool true))∧OldK s₁.heap s'.heap∧s'.os=s₁.os∧AllBare s'.gens) s₁:=by
    intro H hO hS hok hA hK
    have base_of:∀ {b:Addr} {o:Obj},s₁.heap.get? b=some o→H b=none→(hidT s₁.heap H).get? b=some o:=fun e n=>hidT_get e n
    have noA:∀ {b:Addr} {o:Obj} {es:Array DictEntry} {ep:Nat},s₁.heap.get? b=some o→o.data=.dict es ep→H b=none:=fun {b o es ep} e d=>by
      cases q:H b with
      | none=>rfl
      | some u =>
        have e':b=a:=hA b (by rw [q];simp)
        subst e'
        rw [ha] at e;cases e
        have d':Data.seq vs.toArray _=Data.dict es ep:=d
        cases d'
    have nsK:∀ {b:Addr} {m:Str→Option Value},s₁.heap.Ns b m→(hidT s₁.heap H).Ns b m:=fun {b m} ⟨o,es,ep,e,d,r⟩=>⟨o,es,ep,base_of e (noA e d),d,r⟩
    have hKb:K.In (hidT s₁.heap H):=fun b o e=>base_of (KX b o e) (by
      cases q:H b with
      | none=>rfl
      | some u =>
        have e':b=a:=hA b (by rw [q];simp)
        subst e'
        rw [hK (by rw [q];simp)] at e;cases e)
    have hM:Mod K mg (hidT s₁.heap H):=⟨hKb,nsK hns,⟨mb,nsK hb,hbb⟩,let ⟨mc,h1,h2⟩:=hlim;⟨mc,nsK h1,h2⟩⟩
    have e0:Env0 P w K mg (hidT s₁.heap H) callerA [] s₁ H:=⟨rfl,hM,fun b o e=>of_hidT e,Nat.le_of_eq (hidT_size _ _),trivial,fun b hb=>absurd (show b∈([]:List Addr) from hb) (by simp),hok,.of_eq hg⟩
    refine codeAny_mono ((F _ hKb (nsK hns)).run callerA [] s₁ H ⟨[.ref a],[]⟩ [.ref a] [.ref a] _ _ hr e0 (hbind s₁ (.ref a)) (.cons rfl .nil) (hsp H hO hS)) fun r s' h=>?_
    cases r with
    | error e=>exact (hCX H e s' h).elim
    | ok fl =>
      cases fl with
      | next=>exact False.elim h
      | brk=>exact False.elim h
      | cont=>exact False.elim h
      | ret u =>
        obtain ⟨v,H',os,bare,un,hok',r',q⟩:=h
        have q':v=.bl true:=q
        subst q'
        obtain rfl:u=Value.bool true:=r'
        refine ⟨rfl,OldK.of_keep fun b o e=>?_,os,bare⟩
        cases q:H b with
        | none=>exact un.keep b o e q (by intro z;exact absurd (show b∈([]:List Addr) from z) (by simp)) (by simp)
        | some u =>
          rcases hO b with z|⟨ob,xs,z⟩
          · rw [q] at z;cases z
          · have z2:=un.frzs b ob _ z
            obtain ⟨e1,_⟩:=hok b _ z
            obtain ⟨e2,_⟩:=hok' b _ z2
            rw [e] at e1;cases e1
            exact e2
  cases hk:K.lookup a with
  | some o =>
    have e:=KX a o hk
    rw [ha] at e
    cases e
    refine core (fun _=>none) (fun _=>.inl rfl) (.inr ⟨_,vs.toArray,_,hk,rfl,rfl,rfl,by rw [List.size_toArray,lenV];exact hl,by simpa using rv⟩) (fun b u z=>by have z':(none:Option HO)=some u:=z;cases z') (fun b z=>absurd rfl z) fun z=>absurd rfl z
  | none =>
    refine core (fun b=>if b=a then some (.frz { cls:=.type "list", data:=.seq vs.toArray } (.lst (ns.map V.int))) else none) (fun b=>?_) (.inl (.inr ⟨{ cls:=.type "list", data:=.seq vs.toArray },if_pos rfl⟩)) (fun b u z=>?_) (fun b z=>?_) fun _=>hk
    · by_cases hb:b=a
      · exact .inr ⟨_,_,if_pos hb⟩
      · exact .inl (if_neg hb)
    · by_cases hb:b=a
      · have z':=(if_pos hb).symm.trans z
        cases z'
        subst hb
        exact ⟨ha,by rw [List.length_map];exact hl,vs,_,rv,ha⟩
      · have z':=(if_neg hb).symm.trans z
        cases z'
    · by_cases hb:b=a
      · exact hb
      · exact absurd (if_neg hb) z
end L2
namespace L2
open PySem PySem.Spec PyProof.Rows
noncomputable abbrev KOf {K:PySem.W.Frag} {h:Heap} (_:K.In h):PySem.W.Frag:=K
theorem walk_of {l:PySem.W.OpenLaw} {n k:Nat} {q:Program} {loose:List Str} {XP:(Str→Option Value)→Heap→Prop} {YP:World→Heap→Prop} {d:DefRec} {K:Params→PySem.W.Frag} {CX:World→CXT} {sp:World→Sp} {x:Str}
    (hn:l.most=some n) (hn2:n≤sizeLine) (hdf:d.params.defaults=[]) (hr:Room k callerA)
    (hY:∀ (w:World) (h:Heap),YP w h→(K w.params).In h)
    (F:∀ (w:World) (mg:Str→Option Value) (fa:Addr) (h:Heap),(K w.params).In h→h.Ns mainGlobals mg→mg d.name=some (.ref fa) →
      ∃ fd:FuncData,(∀ (s:Shared) (u:Value),BindsTo s fd ⟨[u],[]⟩ [(x,u)]) ∧
        ∀ base:Heap,(K w.params).In base→base.Ns mainGlobals mg→FnOk l.prog w (K w.params) mg base (CX w) k fa fd [x] (sp w))
    (hsp:∀ (w:World) (H:Hp) (a:Addr) (ns:List Int),ns.length≤n→Only H→SqL (K w.params) H a (ns.map V.int)→sp w [.ref a] H (fun v _=>v=.bl true) fun _ _ _=>False)
    (hCX:∀ (w:World) (H:Hp) (s:Shared) (e:Value) (s':Shared),CX w [] H s (fun _ _ _=>False) e s'→False) :
    PySem.W.WalkO q loose XP YP l.row.toRowW d [] (fun f vs=>PySem.call f vs):=by
  refine Att.attach_call hn hdf fun w s₀ s₁ mg mb fa o pm cd doc a vs ns G Y ho hd hcd hmg hobj hints hlen hg=>?_
  have KX:=hY w _ Y
  obtain ⟨fd,hb,hF⟩:=F w mg fa _ KX G.T.g hmg
  exact law_call KX G.T.g G.T.b G.T.builtins G.T.nolimit hg hobj hints (Nat.le_trans hlen hn2) hr hF hb (fun H hO hS=>hsp w H a ns hlen hO hS) fun H e s'=>hCX w H s₁ e s'
end L2
/- THE LAST THEOREM (shape;LID,My.* are yours):
   My.Adr: a structure of the addresses that your layer names (classes,functions);My.Txt K t: a structure (Prop) of the equations over K;
   My.txt_mk:{K} {implicit addresses ..} (e1:nsIn K mainGlobals "law" = some (some (.ref f))) (e2:K.lookup f=some ⟨oc,od,.func (fnOf "law" "law" params body scope dV kV doc pm an cdv ct),sl⟩) (e3:codeIn K cdv "law" = true) ..:∃ t,My.Txt K t
set_option maxRecDepth 100000 in
set_option maxHeartbeats 0 in
theorem PySem.Challenge.cw_LID_holds : PySem.Challenge.rw_LID.Holds := by
  w_on;o_law;k_head;(case hw=>w_witness2)
  k_fill
  refine L2.walk_of (l:=PySem.Challenge.rw_LID) (n:=63) (k:=40) (x := "script") (CX:=fun w=>..) (sp:=fun _=>My.sp_law) rfl (by decide) rfl ⟨rfl,by decide,by decide⟩ (fun w h Y=>PySem.W.kIn_of Y) ?F ?S ?C
  case F =>
    intro w mg fa h KX G hmg
    have T:∃ t,My.Txt (L2.KOf KX) t:=by
      dsimp only [L2.KOf]                          -- K must stand as «<heap const> w.params» for k_is
      refine' My.txt_mk ?e1 ?e2 ?e3 ..
      (case e1=>PySem.W.k_is)                    -- in the order: a name->its address->its object->its parts
      (case e2=>PySem.W.k_is)
      ..
    obtain ⟨t,T⟩:=T
    have e0:=hmg.symm.trans (PySem.W.mg_of KX G T.law)
    cases e0                                       -- fa is the law's own address
    exact ⟨_,fun s u=>.of_eq rfl,fun base kb nb=>My.law_fn T kb nb⟩     -- if «.of_eq rfl» comes too early: refine' ⟨_,?b,fun base kb nb=>My.law_fn T kb nb⟩;exact fun s u=>.of_eq rfl
  case S=>exact fun w H a ns hl hO hS=>..
  case C=>exact ..
(the tactic k_is has no namespace: write k_is) -/
namespace L2
open PySem PySem.Spec PyProof.Rows
noncomputable def defArgs (s:Stmt):Arguments:=match s with
  | .FunctionDef _ a _ _ _ _ _ _ _ _=>a
  | _=>{ posonlyargs:=[],args:=[],vararg:=none,kwonlyargs:=[],kw_defaults:=[],kwarg:=none,defaults:=[] }
noncomputable def defBody (s:Stmt):List Stmt:=match s with
  | .FunctionDef _ _ b _ _ _ _ _ _ _=>b
  | _=>[]
noncomputable def defScope (s:Stmt):Scope:=match s with
  | .FunctionDef _ _ _ _ _ _ sc _ _ _=>sc
  | _=>{ kind:=.function,names:=[],isGenerator:=false,isCoroutine:=false }
noncomputable abbrev CX0:CXT:=fun _ _ _ _ _ _=>False
noncomputable abbrev E0:XK:=fun _ _ _=>False
theorem pass0 {X:Cx}:Passes CX0 X E0:=fun _ _ _ _ _ _ _ h=>h.elim
structure Fun (K:PySem.W.Frag) (x qual:Str) (st:Stmt) (f:Addr) (fd:FuncData):Prop where
  ex:∃ (oc:Value) (od:Option Addr) (kV doc pm:Value) (an:Option Addr) (cdv ct:Value) (osl:Array (Option Value)),
    fd=PySem.W.fnOf x qual (defArgs st) (defBody st) (defScope st) .none kV doc pm an cdv ct∧K.lookup f=some ⟨oc,od,.func fd,osl⟩∧PySem.W.codeIn K cdv qual=true
  kp:PySem.W.keepIn K (.ref f)=true
section
variable {P:Program} {w:World} {K:PySem.W.Frag} {mg:Str→Option Value} {base:Heap}
theorem Fun.ok {x qual:Str} {st:Stmt} {f:Addr} {fd:FuncData} {N ps:List Str} {k:Nat} {sp:Sp} (F:Fun K x qual st f fd) (S:FnScope N ps (defScope st)) (len:∀ vs H Q E,sp vs H Q E→vs.length=ps.length)
    (hbody:∀ (cdv:Value) (A:Around) (outer:List Env) (s:Shared) (H:Hp) (vs:List V) (Q:VK) (E:XK),Room k (A.deeper (envOfC qual (defScope st) s.heap.objs.size f cdv))→sp vs H Q E →
      ∃ t,PSs (cxOf CX0 P w K mg base N qual (defScope st) f cdv A outer s H E).nox (defBody st) t∧t { nx:=fun _ H'=>Q .non H',rt:=Q } (start N vs) H):FnOk P w K mg base CX0 (k+1) f fd ps sp:=by
  obtain ⟨oc,od,kV,doc,pm,an,cdv,ct,osl,rfl,lk,hcd⟩:=F.ex
  refine fn_of lk hcd S len fun A outer s H vs Q E hr hsp=>?_
  obtain ⟨t,h,q⟩:=hbody cdv A outer s H vs Q E hr hsp
  exact ⟨t,h.nox,q⟩
theorem Fun.binds {x qual:Str} {st:Stmt} {f:Addr} {fd:FuncData} {ps:List Str} (F:Fun K x qual st f fd)
    (h:∀ (kV doc pm:Value) (an:Option Addr) (cdv ct:Value) (us:List Value),us.length=ps.length→bindArgs (PySem.W.fnOf x qual (defArgs st) (defBody st) (defScope st) .none kV doc pm an cdv ct) ⟨us,[]⟩=pure (ps.zip us)):Binds K fd ps []:=by
  obtain ⟨oc,od,kV,doc,pm,an,cdv,ct,osl,rfl,lk,hcd⟩:=F.ex
  exact .all (h kV doc pm an cdv ct)
theorem fun_mk {x qual:Str} {st:Stmt} {f:Addr} {oc:Value} {od an:Option Addr} {osl:Array (Option Value)} {kV doc pm cdv ct:Value} (l:K.lookup f=some ⟨oc,od,.func (PySem.W.fnOf x qual (defArgs st) (defBody st) (defScope st) .none kV doc pm an cdv ct),osl⟩)
    (c:PySem.W.codeIn K cdv qual=true) (k:PySem.W.keepIn K (.ref f)=true):Fun K x qual st f (PySem.W.fnOf x qual (defArgs st) (defBody st) (defScope st) .none kV doc pm an cdv ct):=⟨⟨oc,od,kV,doc,pm,an,cdv,ct,osl,rfl,l,c⟩,k⟩
end
theorem small1000 {n:Nat} (h:n≤1000):n < sizeLine:=Nat.lt_of_le_of_lt h (by decide)
section
variable {X:Cx}
theorem pv (i:Nat) {x:Str} {pos:Pos} (hN:X.N[i]?=some x:=by rfl) (hv:Vis X.env.scope x:=by first|exact Or.inl rfl|exact Or.inr (Or.inl rfl)|exact Or.inr (Or.inr rfl)) (hd:(x == ("__debug__" : Str))=false:=by decide)
    (hcd:(x == ("__classdict__" : Str))=false:=by decide):PE X (.Name x pos) (tVar i):=pe_var hN hv hd hcd
end
def Same (H H':Hp):Prop:=∀ b o,H b=some o→H' b=some o
theorem Same.refl (H:Hp):Same H H:=fun _ _ h=>h
theorem Same.trans {H H1 H2:Hp} (a:Same H H1) (b:Same H1 H2):Same H H2:=fun c o h=>b c o (a c o h)
theorem Same.free {H H':Hp} (e:Same H H') {l:Addr} (h:H' l=Option.none):H l=Option.none:=by
  cases q:H l with
  | none=>rfl
  | some o =>
    rw [e l o q] at h
    cases h
theorem Same.seq {K:PySem.W.Frag} {H H':Hp} {a:Addr} {xs:List V} (e:Same H H') (h:SqL K H a xs):SqL K H' a xs:=by
  rcases h with (h|⟨o,h⟩)|h
  · exact .inl (.inl (e _ _ h))
  · exact .inl (.inr ⟨o,e _ _ h⟩)
  · exact .inr h
end L2
namespace Hk
open PySem
def Rise (xs:Array Nat):Prop:=xs.toList.Pairwise (· < ·)
theorem rise_lt {l:List Nat} (h:l.Pairwise (· < ·)) {i j:Nat} (hi:i < l.length) (hj:j < l.length) (hij:i < j):l[i] < l[j]:=List.pairwise_iff_getElem.mp h i j hi hj hij
theorem below_go {xs:Array Nat} {j:Nat} (h:Rise xs):∀ (fuel lo hi:Nat),lo≤hi→hi≤xs.size→hi - lo≤fuel→(∀ k (z:k < xs.toList.length),k < lo→xs.toList[k] < j)→(∀ k (z:k < xs.toList.length),hi≤k→j≤xs.toList[k]) →
    SetTable.below.go xs j fuel lo hi≤xs.size∧(∀ k (z:k < xs.toList.length),k < SetTable.below.go xs j fuel lo hi→xs.toList[k] < j)∧(∀ k (z:k < xs.toList.length),SetTable.below.go xs j fuel lo hi≤k→j≤xs.toList[k]):=by
  intro fuel
  induction fuel with
  | zero =>
    intro lo hi h1 h2 h3 h4 h5
    have e:lo=hi:=by omega
    subst e
    exact ⟨h2,h4,h5⟩
  | succ n ih =>
    intro lo hi h1 h2 h3 h4 h5
    unfold SetTable.below.go
    by_cases hl:lo < hi
    · rw [if_pos hl]
      have hm:(lo+hi) / 2 < xs.toList.length:=by rw [Array.length_toList];omega
      have hg:xs.getD ((lo+hi) / 2) j=xs.toList[(lo+hi) / 2]:=by
        rw [Array.getD_eq_getD_getElem?,←Array.getElem?_toList,List.getElem?_eq_getElem hm];rfl
      by_cases hc:xs.getD ((lo+hi) / 2) j < j
      · simp only [hc,if_true]
        refine ih _ _ (by omega) h2 (by omega) (fun k z hk=>?_) h5
        by_cases e:k=(lo+hi) / 2
        · subst e;rw [hg] at hc;exact hc
        · have:=rise_lt h z hm (by omega)
          rw [hg] at hc;omega
      · simp only [hc,if_false]
        refine ih _ _ (by omega) (by omega) (by omega) h4 (fun k z hk=>?_)
        by_cases e:k=(lo+hi) / 2
        · subst e;rw [hg] at hc;omega
        · have:=rise_lt h hm z (by omega)
          rw [hg] at hc;omega
    · rw [if_neg hl]
      have e:lo=hi:=by omega
      subst e
      exact ⟨h2,h4,h5⟩
theorem below_ok {xs:Array Nat} (h:Rise xs) (j:Nat):SetTable.below xs j≤xs.size∧(∀ k (z:k < xs.toList.length),k < SetTable.below xs j→xs.toList[k] < j)∧(∀ k (z:k < xs.toList.length),SetTable.below xs j≤k→j≤xs.toList[k]) :=
  below_go h xs.size 0 xs.size (Nat.zero_le _) (Nat.le_refl _) (by omega) (fun k z hk=>absurd hk (Nat.not_lt_zero _)) (fun k z hk=>by rw [Array.length_toList] at z;omega)
theorem insertAt_list {α:Type} (xs:Array α) (p:Nat) (x:α):(SetTable.insertAt xs p x).toList=xs.toList.take p++x::xs.toList.drop p:=by
  unfold SetTable.insertAt
  simp [Array.toList_extract,List.take_of_length_le]
theorem rise_insert {xs:Array Nat} (h:Rise xs) {j:Nat} (hn:xs[SetTable.below xs j]?≠some j):Rise (SetTable.insertAt xs (SetTable.below xs j) j):=by
  obtain ⟨h1,h2,h3⟩:=below_ok h j
  unfold Rise
  rw [insertAt_list,List.pairwise_append]
  have lt:∀ y∈xs.toList.drop (SetTable.below xs j),j < y:=by
    intro y hy
    obtain ⟨k,hk,e⟩:=List.mem_iff_getElem.mp hy
    rw [List.length_drop] at hk
    rw [List.getElem_drop] at e
    have hb:SetTable.below xs j < xs.toList.length:=by omega
    have hh:=h3 _ hb (Nat.le_refl _)
    have ne:xs.toList[SetTable.below xs j]≠j:=fun z=>hn (by rw [←Array.getElem?_toList,List.getElem?_eq_getElem hb,z])
    have hle:xs.toList[SetTable.below xs j]≤y:=by
      by_cases e0:k=0
      · subst e0;rw [←e];simp
      · rw [←e];exact Nat.le_of_lt (rise_lt h hb (by omega) (by omega))
    omega
  refine ⟨List.Pairwise.sublist (List.take_sublist _ _) h,List.pairwise_cons.mpr ⟨lt,List.Pairwise.sublist (List.drop_sublist _ _) h⟩,fun a ha b hb=>?_⟩
  have haj:a < j:=by
    obtain ⟨k,hk,e⟩:=List.mem_iff_getElem.mp ha
    rw [List.length_take] at hk
    rw [List.getElem_take] at e
    rw [←e]
    exact h2 k (by omega) (by omega)
  rcases List.mem_cons.mp hb with rfl|hb
  · exact haj
  · exact Nat.lt_trans haj (lt b hb)
structure Tb (t:SetTable) (n:Nat):Prop where
  fits:t.fits n=true
  rise:Rise t.place
  dum:t.dummies=#[]
theorem slot_nodummy {t:SetTable} (hd:t.dummies=#[]) (j:Nat):t.slot j≠.dummy:=by
  unfold SetTable.slot
  rw [hd]
  dsimp only
  split
  · exact fun z=>nomatch z
  · have:SetTable.has #[] j=false:=by simp [SetTable.has]
    rw [this]
    exact fun z=>nomatch z
theorem probe_empty {t:SetTable} (hd:t.dummies=#[]) {h:Int}:∀ (fuel:Nat) (p:SetTable.Probe) (m:SetTable.Met),p.dummy=none→SetTable.probe.go t (fun _=>h+1) h fuel p=some m→∃ j,m=.empty j none∧t.slot j=.empty:=by
  intro fuel
  induction fuel with
  | zero=>intro p m _ e;cases e
  | succ n ih =>
    intro p m hp e
    unfold SetTable.probe.go at e
    cases hs:t.slot p.j with
    | empty =>
      rw [hs] at e
      cases e
      exact ⟨p.j,by rw [hp],hs⟩
    | dummy=>exact absurd hs (slot_nodummy hd _)
    | live i =>
      rw [hs] at e
      have hne:(h+1 == h)=false:=by simp only [beq_eq_false_iff_ne,ne_eq];omega
      dsimp only at e
      rw [hne] at e
      refine ih _ m ?_ e
      unfold SetTable.advance
      split
      · exact hp
      · exact hp
theorem freeSlot_ok {t:SetTable} (hd:t.dummies=#[]) {h:Int} {slot:Nat} {b:Bool} (e:t.freeSlot h=some (slot,b)):b=false∧t.place[SetTable.below t.place slot]?≠some slot:=by
  unfold SetTable.freeSlot at e
  cases q:t.probe (fun _=>h+1) h (t.probeStart h) with
  | none=>rw [q] at e;cases e
  | some m =>
    rw [q] at e
    obtain ⟨j,rfl,hs⟩:=probe_empty hd _ _ m (by rfl) q
    cases e
    refine ⟨rfl,fun z=>?_⟩
    unfold SetTable.slot at hs
    dsimp only at hs
    have:(t.place[SetTable.below t.place j]? == some j)=true:=by
      rw [show t.place[SetTable.below t.place j]?=some j from z];simp
    rw [if_pos this] at hs
    cases hs
theorem rise_range (n:Nat):Rise (Array.range n):=by
  unfold Rise
  rw [Array.toList_range]
  exact List.pairwise_lt_range
theorem tb_standIn (t:SetTable) (n:Nat):Tb (t.standIn n) n:=by
  refine ⟨?_,rise_range n,rfl⟩
  unfold SetTable.fits SetTable.standIn SetTable.fill
  simp
  omega
theorem tb_or {t:SetTable} {n:Nat} (h:Rise t.place) (hd:t.dummies=#[]):Tb (t.orStandIn n) n:=by
  unfold SetTable.orStandIn
  by_cases z:t.fits n=true
  · rw [if_pos z];exact ⟨z,h,hd⟩
  · rw [if_neg z];exact tb_standIn t n
theorem led_or (t:SetTable) (n:Nat):(t.orStandIn n).led=t.led:=by
  unfold SetTable.orStandIn
  split <;> rfl
theorem layNew_ok {t:SetTable} {es:Array (Int×Value)} {h:Int} {x:Value} (T:Tb t es.size) :
    (layNew t es h x).2.2.1=false∧Tb (layNew t es h x).2.1 (layNew t es h x).1.size∧(layNew t es h x).2.1.led=t.led∧(layNew t es h x).1.toList.Perm ((h,x)::es.toList):=by
  unfold layNew
  cases q:t.freeSlot h with
  | none =>
    refine ⟨rfl,?_,rfl,?_⟩
    · rw [Array.size_push];exact tb_standIn t _
    · rw [Array.toList_push]
      exact List.perm_append_singleton _ _
  | some p =>
    obtain ⟨slot,b⟩:=p
    obtain ⟨rfl,hn⟩:=freeSlot_ok T.dum q
    have hd:(t.put slot).1.dummies=#[]:=by
      unfold SetTable.put
      dsimp only
      rw [T.dum]
      simp [SetTable.has]
    refine ⟨rfl,tb_or (rise_insert T.rise hn) hd,(led_or _ _).trans rfl,?_⟩
    rw [insertAt_list]
    refine List.Perm.trans List.perm_middle ?_
    rw [List.take_append_drop]
theorem some_sub {α:Type} {f:α→Option α} (h:∀ x y,f x=some y→y=x):∀ l:List α,(l.filterMap f).Sublist l
  | []=>by simp
  | a::r=>by
    rw [List.filterMap_cons]
    cases q:f a with
    | none=>exact (some_sub h r).cons a
    | some b=>rw [h a b q];exact (some_sub h r).cons_cons a
theorem all_places {α:Type}:∀ l:List α,(List.range l.length).filterMap (fun i=>l[i]?)=l
  | []=>rfl
  | a::r=>by
    rw [List.length_cons,List.range_succ_eq_map,List.filterMap_cons]
    simp only [List.getElem?_cons_zero]
    rw [List.filterMap_map]
    have e:((fun i=>(a::r)[i]?) ∘ Nat.succ)=fun i=>r[i]?:=by funext i;simp
    rw [e,all_places r]
theorem laid_ok {mask finger moves:Nat} {led plain:Bool} {hs:Array Int} {t:SetTable} {o:Array Nat} (e:SetTable.laid mask finger moves led plain hs=some (t,o)):Rise t.place∧t.dummies=#[]∧t.led=led:=by
  unfold SetTable.laid at e
  cases q:SetTable.layClean mask hs with
  | none=>rw [q] at e;cases e
  | some owner =>
    rw [q] at e
    cases e
    refine ⟨?_,rfl,rfl⟩
    unfold Rise
    dsimp only
    rw [List.map_filterMap]
    refine List.Pairwise.sublist (some_sub (fun x y z=>?_) _) List.pairwise_lt_range
    cases q2:owner.getD x none with
    | none=>rw [q2] at z;cases z
    | some c=>rw [q2] at z;exact (Option.some.inj z).symm
theorem relay_ok {t:SetTable} {es:Array (Int×Value)} (w:Nat):Tb (relayAll t es w).2.1 (relayAll t es w).1.size∧(relayAll t es w).2.1.led=t.led∧(relayAll t es w).1.toList.Perm es.toList:=by
  unfold relayAll
  cases q:t.relaid (es.map (·.1)) w with
  | none=>exact ⟨tb_standIn t _,rfl,List.Perm.refl _⟩
  | some p =>
    obtain ⟨t',order⟩:=p
    dsimp only
    obtain ⟨h1,h2,h3⟩:=laid_ok q
    by_cases z:(coversAll order es.size && t'.fits (order.filterMap (es[·]?)).size)=true
    · rw [if_pos z]
      rw [Bool.and_eq_true] at z
      refine ⟨⟨z.2,h1,h2⟩,h3,?_⟩
      have hp:order.toList.Perm (List.range es.size):=List.isPerm_iff.mp z.1
      rw [Array.toList_filterMap]
      have e:(fun (i:Nat)=>es[i]?)=fun (i:Nat)=>es.toList[i]?:=by funext i;simp
      rw [e]
      have q2:=hp.filterMap fun i=>es.toList[i]?
      rw [←Array.length_toList,all_places] at q2
      exact q2
    · rw [if_neg z]
      exact ⟨tb_standIn t _,rfl,List.Perm.refl _⟩
end Hk
set_option maxRecDepth 100000
namespace Hk
open PySem PySem.Spec PyProof.Rows
noncomputable def vI:Value→Int
  | .int i _=>i
  | _=>0
def GoodE (e:Int×Value):Prop:=∃ x t,e=(hashInt x,Value.int x t)
theorem good_elems {prog:Program} {w:World} {l:List (Int×Value)} (h:∀ e∈l,GoodE e):ElemsOf (intKind prog w) l:=fun e he=>by
  obtain ⟨x,t,rfl⟩:=h e he
  exact ⟨⟨x,intKind_is _ _ _ _,rfl⟩,rfl⟩
def SetI (h:Heap) (a:Addr) (led:Bool) (xs:List Int):Prop:=∃ o es ep t,h.get? a=some o∧o.ExactSet∧o.data=.set es ep t∧Tb t es.size∧t.led=led∧es.size < scanBound ∧
  (∀ e∈es.toList,GoodE e)∧es.toList.map (fun e=>vI e.2)=xs∧xs.Nodup
theorem SetI.len {h:Heap} {a:Addr} {led:Bool} {xs:List Int} (S:SetI h a led xs):xs.length < scanBound:=by
  obtain ⟨o,es,ep,t,_,_,_,_,_,z,_,e,_⟩:=S
  rw [←e,List.length_map,Array.length_toList];exact z
theorem SetI.at {h h':Heap} {a:Addr} {led:Bool} {xs:List Int} (S:SetI h a led xs) (k:∀ o,h.get? a=some o→h'.get? a=some o):SetI h' a led xs:=by
  obtain ⟨o,es,ep,t,e,r⟩:=S
  exact ⟨o,es,ep,t,k o e,r⟩
theorem good_is {prog:Program} {w:World} {e:Int×Value} (h:GoodE e) (x:Int):(intKind prog w).is x e.2=decide (vI e.2=x):=by
  obtain ⟨y,t,rfl⟩:=h
  show Value.isInt x (.int y t)=decide (y=x)
  by_cases z:y=x
  · subst z;simp [Value.isInt]
  · simp [Value.isInt,z]
theorem find_none {prog:Program} {w:World} {l:List (Int×Value)} (h:∀ e∈l,GoodE e) {x:Int} (q:l.findIdx? (fun e=>(intKind prog w).is x e.2)=none):x∉l.map (fun e=>vI e.2):=fun z=>by
  obtain ⟨e,he,ex⟩:=List.mem_map.mp z
  have:=List.findIdx?_eq_none_iff.mp q e he
  rw [good_is (h e he),ex] at this
  simp at this
theorem find_some {prog:Program} {w:World} {l:List (Int×Value)} (h:∀ e∈l,GoodE e) {x:Int} {j:Nat} (q:l.findIdx? (fun e=>(intKind prog w).is x e.2)=some j):x∈l.map (fun e=>vI e.2):=by
  obtain ⟨hj,hp,_⟩:=List.findIdx?_eq_some_iff_getElem.mp q
  rw [good_is (h _ (List.getElem_mem hj))] at hp
  exact List.mem_map.mpr ⟨_,List.getElem_mem hj,of_decide_eq_true hp⟩
section
variable {prog:Program} {w:World} {A:Around} {E:Value→Shared→Prop} {s:Shared}
theorem store_I {h:Heap} {a:Addr} {o:Obj} {es es':Array (Int×Value)} {ep:Nat} {t t':SetTable} {led:Bool} {xs:List Int} (go:h.get? a=some o) (gx:o.ExactSet) (gd:o.data=.set es ep t)
    (T:Tb t' es'.size) (gl:t'.led=led) (gb:es'.size < scanBound) (gg:∀ e∈es'.toList,GoodE e) (gv:es'.toList.map (fun e=>vI e.2)=xs) (gn:xs.Nodup) :
    (h.update a (Obj.putSet es' t')).get? a=some { o with data:=.set es' (ep+1) t' }∧SetI (h.update a (Obj.putSet es' t')) a led xs:=by
  have q:=Heap.get?_update_self (Obj.putSet es' t') go (by rw [putSet_of es' t' gd];rfl)
  rw [putSet_of es' t' gd] at q
  exact ⟨q,_,es',ep+1,t',q,gx,rfl,T,gl,gb,gg,gv,gn⟩
theorem tail_I {g:Bool→Sem Unit} (gw:∀ (b:Bool) (s1:Shared) (Q':Unit→Shared→Prop),Q' () s1→wpAny (model prog w) A (g b) Q' E s1)
    {a:Addr} {o:Obj} {es es1:Array (Int×Value)} {ep:Nat} {t t2:SetTable} {led:Bool} {xs:List Int} (go:s.heap.get? a=some o) (gx:o.ExactSet) (gd:o.data=.set es ep t)
    (T:Tb t2 es1.size) (gl:t2.led=led) (gb:es1.size < scanBound) (gg:∀ e∈es1.toList,GoodE e) (gv:es1.toList.map (fun e=>vI e.2)=xs) (gn:xs.Nodup) {dm:Bool} {R:Option Bool→Shared→Prop}
    (k:∀ h' ys,Heap.SameBut a s.heap h'→SetI h' a led ys→ys.Perm xs→R (some true) { s with heap:=h' }) :
    wpAny (model prog w) A (do
        storeSet a es1 t2
        if (!dm && t2.tooFull)=true then do
            g (relayAll t2 es1 (SetTable.grown es1.size)).2.2
            storeSet a (relayAll t2 es1 (SetTable.grown es1.size)).1 (relayAll t2 es1 (SetTable.grown es1.size)).2.1
            pure (some true)
          else pure (some true)) R E s:=by
  refine wpAny_bind (wpAny_storeSet_of go gd ?_ (fits_of_scanBound gb))
  obtain ⟨g1,S1⟩:=store_I go gx gd T gl gb gg gv gn
  have sb:=Heap.SameBut.update s.heap a (Obj.putSet es1 t2)
  split
  · obtain ⟨T2,l2,p2⟩:=relay_ok (t:=t2) (es:=es1) (SetTable.grown es1.size)
    generalize relayAll t2 es1 (SetTable.grown es1.size)=rl at T2 l2 p2 ⊢
    obtain ⟨es2,t3,gv2⟩:=rl
    dsimp only at T2 l2 p2 ⊢
    have hz:es2.size=es1.size:=by rw [←Array.length_toList,p2.length_eq,Array.length_toList]
    have gb2:es2.size < scanBound:=by rw [hz];exact gb
    have pv:(es2.toList.map fun e=>vI e.2).Perm xs:=by rw [←gv];exact p2.map _
    refine wpAny_bind (gw _ _ _ ?_)
    refine wpAny_bind (wpAny_storeSet_of g1 rfl ?_ (fits_of_scanBound gb2))
    obtain ⟨_,S2⟩:=store_I g1 gx rfl T2 (l2.trans gl) gb2 (fun e he=>gg e (p2.mem_iff.mp he)) rfl (pv.nodup_iff.mpr gn)
    exact wpAny_pure (k _ _ (sb.trans (Heap.SameBut.update _ a _)) S2 pv)
  · exact wpAny_pure (k _ _ sb S1 (List.Perm.refl _))
theorem add_I {a:Addr} {led:Bool} {xs:List Int} {x:Int} {tk:Tok} {Q:Bool→Shared→Prop} (S:SetI s.heap a led xs) (room:xs.length+1 < scanBound)
    (k:∀ b h' ys,Heap.SameBut a s.heap h'→SetI h' a led ys→(x∈xs→ys=xs)→(x∉xs→ys.Perm (x::xs))→Q b { s with heap:=h' }) :
    wpAny (model prog w) A (setAddHashed a (.int x tk) (hashInt x)) Q E s:=by
  obtain ⟨o,es,ep,t,go,gx,gd,T,gl,gb,gg,gv,gn⟩:=id S
  have hl:es.size=xs.length:=by rw [←gv,List.length_map,Array.length_toList]
  have el:ElemsOf (intKind prog w) es.toList:=good_elems gg
  unfold setAddHashed setAddHashedIn
  refine wpAny_holding (wpAny_bind (wpAny_setState_of go gd T.fits ?_))
  dsimp only
  rw [byScan_of (knd:=intKind prog w) (x:=.int x tk) rfl gb el]
  simp only [↓reduceIte]
  unfold setAddByScan
  refine wpAny_bind (wpAny_bind (wpAny_rule (wpAny_bind (wpAny_setScan_of (knd:=intKind prog w) (k:=x) (intKind_is _ _ _ _) go gd T.fits el ?_))))
  cases q:List.findIdx? (fun e=>(intKind prog w).is x e.2) es.toList with
  | some j =>
    dsimp only
    have hx:x∈xs:=by rw [←gv];exact find_some gg q
    refine wpAny_pure (wpAny_pure ?_)
    exact k false s.heap xs (Heap.SameBut.refl a s.heap) S (fun _=>rfl) fun z=>absurd hx z
  | none =>
    dsimp only
    have hx:x∉xs:=by rw [←gv];exact find_none gg q
    obtain ⟨d0,T1,l1,p1⟩:=layNew_ok (t:=t) (es:=es) (h:=hashInt x) (x:=.int x tk) T
    generalize layNew t es (hashInt x) (.int x tk)=ly at d0 T1 l1 p1 ⊢
    obtain ⟨es1,t1,dm,gave⟩:=ly
    dsimp only at d0 T1 l1 p1 ⊢
    have gg1:∀ e∈es1.toList,GoodE e:=fun e he=>by
      rcases List.mem_cons.mp (p1.mem_iff.mp he) with rfl|he
      · exact ⟨x,tk,rfl⟩
      · exact gg e he
    have pv:(es1.toList.map fun e=>vI e.2).Perm (x::xs):=by rw [←gv];exact p1.map _
    have gn1:(es1.toList.map fun e=>vI e.2).Nodup:=pv.nodup_iff.mpr (List.nodup_cons.mpr ⟨hx,gn⟩)
    have gb1:es1.size < scanBound:=by
      have:=pv.length_eq
      rw [List.length_map,Array.length_toList,List.length_cons] at this
      omega
    have gw:∀ (b:Bool) (s1:Shared) (Q':Unit→Shared→Prop),Q' () s1→wpAny (model prog w) A (match b with|true=>rule "set.scan.the-table-gave-way" | false=>pure ()) Q' E s1 :=
      fun b s1 Q' z=>by cases b <;> first|exact wpAny_pure z|exact wpAny_rule z
    refine wpAny_bind (gw _ _ _ ?_)
    have fin:∀ h' ys,Heap.SameBut a s.heap h'→SetI h' a led ys→ys.Perm (es1.toList.map fun e=>vI e.2)→Q true { s with heap:=h' }:=fun h' ys sb S' p=>k true h' ys sb S' (fun z=>absurd z hx) fun _=>p.trans pv
    split
    · refine wpAny_bind ?_
      rw [hashByValue_scannable 8 (x:=Value.int x tk) rfl]
      refine wpAny_pure ?_
      refine tail_I (fun b s1 Q' z=>by cases b <;> first|exact wpAny_pure z|exact wpAny_rule z) go gx gd T1 (l1.trans gl) gb1 gg1 rfl gn1 fun h' ys sb S' p=>?_
      exact wpAny_pure (fin h' ys sb S' p)
    · refine wpAny_bind (wpAny_pure ?_)
      simp only [↓reduceIte]
      refine tail_I (fun b s1 Q' z=>by cases b <;> first|exact wpAny_pure z|exact wpAny_rule z) go gx gd T1 (l1.trans gl) gb1 gg1 rfl gn1 fun h' ys sb S' p=>?_
      exact wpAny_pure (fin h' ys sb S' p)
end
def SetV (h:Heap) (S:Addr) (led:Bool) (val:Nat→Int) (m:Nat):Prop:=∃ xs,SetI h S led xs∧xs.length≤m∧∀ x,x∈xs↔∃ i,i < m∧val i=x
theorem SetV.at {h h':Heap} {a:Addr} {led:Bool} {val:Nat→Int} {m:Nat} (S:SetV h a led val m) (k:∀ o,h.get? a=some o→h'.get? a=some o):SetV h' a led val m:=by
  obtain ⟨xs,q,r⟩:=S
  exact ⟨xs,q.at k,r⟩
section
variable {prog:Program} {w:World} {A:Around} {R:Result→Shared→Prop} {I:Addr} {fp wr:List Addr} {G:Array GenState→Array GenState→Prop} {n:Nat} {P:Nat→Value→Prop} {St:Nat→Shared→Prop}
theorem updLoop (W:WalksS prog w A.in1 I fp wr G n P St) (S:Addr) (hS:S∉fp) {led:Bool} (val:Nat→Int) (hv:∀ i v,P i v→∃ t,v=.int (val i) t) (hb:n+1 < scanBound) :
    ∀ (k i:Nat) (s:Shared),n - i=k→i≤n→St i s→SetV s.heap S led val i→(∀ s',Moved (S::wr) G s s'→SetV s'.heap S led val n→R (.ok (.ret .none)) s') →
      codeAny (model prog w) A (.builtin "set.update.loop" ⟨[.ref S,.ref I],[]⟩) R s:=by
  have hw:S∉wr:=fun z=>hS (W.sub _ z)
  have hsub:∀ b∈wr,b∈S::wr:=fun b z=>List.mem_cons_of_mem _ z
  intro k
  induction k with
  | zero =>
    intro i s hk hi st SV hR
    have hin:i=n:=by omega
    subst hin
    refine codeAny_builtin PyProof.Rows.F.entry_set_update_loop ?_
    rw [Around.under_plainId PyProof.Rows.F.plain_set_update_loop _]
    show wpAny _ A.in1 (pyNext (.ref I) >>= _) _ _ s
    refine wpAny_bind (W.done s _ _ st fun s' hm=>?_)
    show wpAny _ A.in1 (ret Value.none) _ _ s'
    exact wpAny_pure (hR s' (hm.mono hsub) (SV.at fun o e=>hm.heap S o hw e))
  | succ k ih =>
    intro i s hk hi st SV hR
    have hlt:i < n:=by omega
    refine codeAny_builtin PyProof.Rows.F.entry_set_update_loop ?_
    rw [Around.under_plainId PyProof.Rows.F.plain_set_update_loop _]
    show wpAny _ A.in1 (pyNext (.ref I) >>= _) _ _ s
    refine wpAny_bind (W.item i s _ _ hlt st fun v s1 hP st1 hm=>?_)
    obtain ⟨t,rfl⟩:=hv i v hP
    obtain ⟨xs,S1,hl,hx⟩:=SV.at (h':=s1.heap) fun o e=>hm.heap S o hw e
    show wpAny _ A.in1 (holding [Value.int (val i) t] (setAdd S (.int (val i) t)) >>= _) _ _ s1
    refine wpAny_bind (wpAny_holding ?_)
    unfold setAdd
    refine wpAny_holding ?_
    refine wpAny_bind ((intKind prog w).pyHash (k:=val i) (intKind_is _ _ _ _) ?_)
    refine add_I (s:={ s1 with toks:=s1.toks+1 }) (x:=val i) S1 (by omega) fun b h' ys sb S2 y1 y2=>?_
    have SV2:SetV h' S led val (i+1):=by
      refine ⟨ys,S2,?_,fun x=>?_⟩
      · by_cases z:val i∈xs
        · rw [y1 z];omega
        · rw [(y2 z).length_eq,List.length_cons];omega
      · by_cases z:val i∈xs
        · rw [y1 z,hx]
          refine ⟨fun ⟨j,h1,h2⟩=>⟨j,by omega,h2⟩,fun ⟨j,h1,h2⟩=>?_⟩
          by_cases e:j=i
          · subst e;exact (hx x).mp (by rw [←h2];exact z)
          · exact ⟨j,by omega,h2⟩
        · rw [(y2 z).mem_iff,List.mem_cons,hx]
          refine ⟨fun h=>?_,fun ⟨j,h1,h2⟩=>?_⟩
          · rcases h with h|⟨j,h1,h2⟩
            · exact ⟨i,by omega,h.symm⟩
            · exact ⟨j,by omega,h2⟩
          · by_cases e:j=i
            · subst e;exact .inl h2.symm
            · exact .inr ⟨j,by omega,h2⟩
    refine wpAny_pure ⟨plainId_quiet PyProof.Rows.F.plain_set_update_loop _,ih (i+1) _ (by omega) hlt (W.frame _ s1 _ _ st1 (Nat.le_succ _) fun b z o e=>?_) SV2 fun s2 hm2 S3=>?_⟩
    · rw [sb.2 b (fun y:b=S=>hS (by rw [←y];exact z))];exact e
    · refine hR s2 (Moved.trans W.gtrans ((hm.mono hsub).then_heap (Nat.le_succ _) fun b o z e=>?_) hm2) S3
      rw [sb.2 b (fun y:b=S=>z (by rw [y];exact List.mem_cons_self))];exact e
end
end Hk
set_option maxRecDepth 100000
namespace Hk
open PySem PySem.Spec PyProof.Rows
noncomputable abbrev ledOf (w:World):Bool:=!w.params.followText "set-order"
section
variable {prog:Program} {w:World} {A:Around} {E:Value→Shared→Prop} {s:Shared}
theorem set_new (a:Value) {Q1:Value→Shared→Prop} (h:Q1 (.ref s.heap.objs.size) { s with heap:=s.heap.push { cls:=.type "set", data:=.set #[] 0 (.fresh 0 0 (ledOf w)) } }) :
    codeAny (model prog w) A (.call (.builtin "set.__new__") ⟨[.type "set", a],[]⟩) (wants Q1 E) s:=by
  refine codeAny_of_tree ?_
  show wpAny _ A.in1 (checkBuiltinCall "set.__new__" ⟨[.type "set", a],[]⟩ >>= fun _=>again (.builtin "set.__new__" ⟨[.type "set", a],[]⟩)) _ _ s
  refine wpAny_bind (wpAny_of_eq (PySem.F.newCall_set_1 a) (wpAny_pure ⟨plainId_quiet PySem.F.plain_set_new _,codeAny_builtin PySem.F.entry_set_new ?_⟩))
  rw [Around.under_plainId PySem.F.plain_set_new _]
  unfold Builtin.«set.__new__» Builtin.Frozenset.newClass
  have p1:=sub_set_self
  obtain ⟨hp,g,d,tk,os⟩:=s
  dsimp only
  wp_walk
  refine wpAny_askSetting (wpAny_pure ?_)
  dsimp only
  simp only [newObj]
  refine wpAny_bind (wpAny_alloc (wpAny_pure ?_))
  exact wpAny_pure h
set_option maxHeartbeats 3200000 in
theorem set_of_list {l:Addr} {items:Array Value} {ns:List Int} {Q:Value→Shared→Prop} (hh:A.handled=none) (il:s.heap.IsList l items) (ia:IntsAre items.toList ns) (hb:items.size+1 < scanBound)
    (k:∀ (h':Heap) (tk:Nat),SetV h' s.heap.objs.size (ledOf w) (fun i=>ns.getD i 0) items.size→(∀ b o,b < s.heap.objs.size→s.heap.get? b=some o→h'.get? b=some o)→Q (.ref s.heap.objs.size) { s with heap:=h',toks:=tk }) :
    wpAny (model prog w) A (call (.type "set") [.ref l]) Q E s:=by
  obtain ⟨c,tl,c1⟩:=PySem.F.called_set.mro
  have c2:=PySem.F.called_set.made
  have c3:=PySem.F.called_set.sub
  refine wpAny_call (codeAny_of_tree ?_)
  show wpAny _ _ (callAny (.type "set") _) _ _ _
  refine wpAny_pure ⟨Code.quiet_builtin _ (by decide +kernel),codeAny_builtin PySem.F.entry_type_call ?_⟩
  rw [Around.under_plain (weight_type_call_type "set" [.ref l] []) rfl]
  have c4:=PySem.F.called_set.notType
  have c5:=PySem.F.called_set.canCreate
  have c6:=PySem.F.typeCall_set_1 (.ref l)
  repeat (any_goals (first|assumption|wp_step))
  refine codeAny_mono (set_new (.ref l) (E:=E) (Q1:=fun obj s1=>obj=.ref s.heap.objs.size∧s1={ s with heap:=s.heap.push { cls:=.type "set", data:=.set #[] 0 (.fresh 0 0 (ledOf w)) } }) ⟨rfl,rfl⟩) fun r s1 hr=>?_
  cases r with
  | error e=>exact hr
  | ok fl =>
    cases fl with
    | ret obj =>
      obtain ⟨rfl,rfl⟩:=hr
      have hS:(s.heap.push { cls:=.type "set", data:=.set #[] 0 (.fresh 0 0 (ledOf w)) }).get? s.heap.objs.size=some { cls:=.type "set", data:=.set #[] 0 (.fresh 0 0 (ledOf w)) }:=Heap.get?_push_size _ rfl
      have hT:Shared.TypeIs { s with heap:=s.heap.push { cls:=.type "set", data:=.set #[] 0 (.fresh 0 0 (ledOf w)) } } (.ref s.heap.objs.size) "set" := ⟨_,hS,rfl⟩
      have c7:=PySem.F.called_set.init.lookup
      have c8:=PySem.F.called_set.init.bind (.ref s.heap.objs.size)
      repeat (any_goals (first|assumption|wp_step))
      refine codeAny_mono (codeAny_call_builtin (R:=wants (fun r s2=>r=.none∧∃ h' tk,s2={ s with heap:=h',toks:=tk }∧SetV h' s.heap.objs.size (ledOf w) (fun i=>ns.getD i 0) items.size ∧
          (∀ b o,b < s.heap.objs.size→s.heap.get? b=some o→h'.get? b=some o)) E) PySem.F.called_set.init.plain PySem.F.entry_set_init (check_set_init_1 hT ?_)) fun r2 s2 hr2=>?_
      · obtain ⟨ol,e1,e2,nl,e3⟩:=il
        obtain ⟨ocls,odict,odata,oslots⟩:=ol
        simp only at e2 e3
        subst e2;subst e3
        have e1':(s.heap.push { cls:=.type "set", data:=.set #[] 0 (.fresh 0 0 (ledOf w)) }).get? l=some { cls:=.type "list", dict:=odict,data:=.seq items nl,slots:=oslots }:=Heap.get?_push_of_some _ e1
        have d1:=PySem.F.sub_list_set
        have d2:=PySem.F.sub_list_frozenset
        have d3:(Value.type "list" == Value.type "dict")=false:=by decide
        have il1:(s.heap.push { cls:=.type "set", data:=.set #[] 0 (.fresh 0 0 (ledOf w)) }).IsList l items:=⟨_,e1',rfl,nl,rfl⟩
        unfold Builtin.«set.__init__» noKeywords Builtin.Frozenset.updateFrom
        generalize hPI:pyIter=PI
        wp_walk
        subst hPI
        refine wpAny_pyIter_list il1 ?_
        refine wpAny_bind (wpAny_runValue ?_)
        have lS:l < s.heap.objs.size:=Heap.lt_size e1
        have h3:A.in1.in1.in1.handled=none:=by simp [hh]
        have nI:l≠(s.heap.push { cls:=.type "set", data:=.set #[] 0 (.fresh 0 0 (ledOf w)) }).objs.size:=by rw [Heap.size_push];exact Nat.ne_of_lt (Nat.lt_succ_of_lt lS)
        have nS:s.heap.objs.size∉[(s.heap.push { cls:=.type "set", data:=.set #[] 0 (.fresh 0 0 (ledOf w)) }).objs.size,l]:=by
          rw [Heap.size_push];simp only [List.mem_cons,List.mem_singleton,List.not_mem_nil,or_false,not_or]
          exact ⟨Nat.ne_of_lt (Nat.lt_succ_self _),Nat.ne_of_gt lS⟩
        have hv:∀ (i:Nat) (v:Value),items[i]?=some v→∃ t,v=.int ((fun i=>ns.getD i 0) i) t:=fun i v z=>IntsAre.int_at ia i v (by rw [Array.getElem?_toList];exact z)
        refine updLoop ((Walks.list h3 _ l nI items).toS) s.heap.objs.size nS (led:=ledOf w) (fun i=>ns.getD i 0) hv hb (items.size - 0) 0 _ (by omega) (Nat.zero_le _) ⟨⟨_,Heap.get?_push_size _ rfl,rfl,rfl⟩,(il1.push _)⟩ ?S0 ?RR
        case S0 =>
          refine ⟨[],⟨_,#[],0,.fresh 0 0 (ledOf w),Heap.get?_push_of_some _ hS,⟨rfl,rfl,rfl⟩,rfl,⟨rfl,List.Pairwise.nil,rfl⟩,rfl,by show 0 < scanBound;decide,fun e z=>by simp at z,rfl,List.nodup_nil⟩,Nat.le_refl _,fun x=>⟨fun z=>(by cases z),fun ⟨i,z,_⟩=>absurd z (Nat.not_lt_zero _)⟩⟩
        case RR =>
          intro s' hm S'
          obtain ⟨h',g',d',tk',os'⟩:=s'
          have eg:g'=s.gens:=hm.gens
          have ed:d'=s.drawn:=hm.drawn
          have eos:os'=s.os:=hm.os
          subst eg;subst ed;subst eos
          show wpAny _ _ _ _ _ _
          refine wpAny_pure ?_
          show wpAny _ _ (ret Value.none) _ _ _
          refine wpAny_pure ⟨rfl,h',tk',rfl,S',fun b o z y=>?_⟩
          refine hm.heap b o ?_ (Heap.get?_push_of_some _ (Heap.get?_push_of_some _ y))
          simp only [List.mem_cons,List.mem_singleton,List.not_mem_nil,or_false,not_or]
          exact ⟨Nat.ne_of_lt z,by rw [Heap.size_push];exact Nat.ne_of_lt (Nat.lt_succ_of_lt z)⟩
      · cases r2 with
        | error e=>exact hr2
        | ok fl2 =>
          cases fl2 with
          | ret r =>
            obtain ⟨rfl,h',tk,rfl,S',kp⟩:=hr2
            repeat (any_goals (first|assumption|wp_step))
            exact k _ _ S' kp
          | next=>exact hr2.elim
          | brk=>exact hr2.elim
          | cont=>exact hr2.elim
    | next=>exact hr.elim
    | brk=>exact hr.elim
    | cont=>exact hr.elim
end
end Hk
set_option maxRecDepth 100000
namespace PySem.F
theorem slotSetNext:Slot "set_iterator" "__next__" "set_iterator.__next__" := .of (owner := "set_iterator") (n := "__next__") (by rw [typeLookup_type,builtinLookup_eq_fast];kernel_rfl) (by decide +kernel) (by decide +kernel) (by decide +kernel) (by first|exact .inl (by decide +kernel)|exact .inr (by decide +kernel)) (by rw [isSubtype_type];kernel_rfl)
theorem slotSetIt:Slot "set_iterator" "__iter__" "set_iterator.__iter__" := .of (owner := "set_iterator") (n := "__iter__") (by rw [typeLookup_type,builtinLookup_eq_fast];kernel_rfl) (by decide +kernel) (by decide +kernel) (by decide +kernel) (by first|exact .inl (by decide +kernel)|exact .inr (by decide +kernel)) (by rw [isSubtype_type];kernel_rfl)
theorem ownSetIt:Manifest.owners.lookup (String.ofList ['r','o','t','a','r','e','t','i','_','t','e','s'].reverse)=some Manifest.sig_set_iterator:=by kernel_rfl
theorem argsSetNext (a:Value):argsOk "set_iterator.__next__" ⟨[a],[]⟩:=by
  unfold argsOk
  rw [signature?_of (id := "set_iterator.__next__") (n:=['_','_','t','x','e','n','_','_']) (o:=['r','o','t','a','r','e','t','i','_','t','e','s']) (by kernel_rfl) ownSetIt]
  kernel_rfl
theorem argsSetIt (a:Value):argsOk "set_iterator.__iter__" ⟨[a],[]⟩:=by
  unfold argsOk
  rw [signature?_of (id := "set_iterator.__iter__") (n:=['_','_','r','e','t','i','_','_']) (o:=['r','o','t','a','r','e','t','i','_','t','e','s']) (by kernel_rfl) ownSetIt]
  kernel_rfl
theorem entSetNext:entryFor table "set_iterator.__next__" = some Builtin.«set_iterator.__next__»:=entryFor_of_tree (by kernel_rfl)
theorem entSetIter:entryFor table "set.__iter__" = some Builtin.«frozenset.__iter__»:=entryFor_alias (id' := "frozenset.__iter__") (by kernel_rfl) rfl (by decide +kernel) (by kernel_rfl)
theorem entSetIt:entryFor table "set_iterator.__iter__" = some Builtin.«dict_keyiterator.__iter__»:=entryFor_alias (id' := "dict_keyiterator.__iter__") (by kernel_rfl) rfl (by decide +kernel) (by kernel_rfl)
end PySem.F
namespace Hk
open PySem PySem.Spec PyProof.Rows
section
variable {prog:Program} {w:World} {A:Around} {E:Value→Shared→Prop} {s:Shared}
theorem perm_erase {α:Type}:∀ (l:List α) (k:Nat) (h:k < l.length),(l[k]::l.eraseIdx k).Perm l
  | a::r,0,_=>List.Perm.refl _
  | a::r,k+1,h=>by
    have h':k < r.length:=by simpa using h
    show (r[k]::a::r.eraseIdx k).Perm (a::r)
    exact (List.Perm.swap a r[k] _).trans ((perm_erase r k h').cons a)
theorem pick_go {α:Type} (next:Nat→Nat):∀ (fuel k:Nat) (left:List α) (out:Array α),left.length=fuel→(pickOrder.go next fuel k left out).toList.Perm (out.toList++left)
  | 0,k,left,out,h=>by
    have e:left=[]:=List.eq_nil_of_length_eq_zero h
    subst e
    unfold pickOrder.go
    rw [List.append_nil]
  | fuel+1,k,left,out,h=>by
    unfold pickOrder.go
    have hlt:next k % left.length < left.length:=Nat.mod_lt _ (by omega)
    rw [List.getElem?_eq_getElem hlt]
    dsimp only
    refine (pick_go next fuel (k+1) _ _ (by rw [List.length_eraseIdx_of_lt hlt,h];rfl)).trans ?_
    rw [Array.toList_push,List.append_assoc]
    exact List.Perm.append_left _ (perm_erase left _ hlt)
theorem pick_perm {α:Type} (next:Nat→Nat) (xs:Array α):(pickOrder next xs).toList.Perm xs.toList:=by
  have:=pick_go next xs.size 0 xs.toList #[] (by simp)
  simpa [pickOrder] using this
theorem wp_choose {M:Model} {src:Source} {n:Nat} {Q:Nat→Shared→Prop} (hn:n≠0) (h:Q (M.w.draws src (s.drawn.get src) % n) { s with drawn:=s.drawn.bump src }):wpAny M A (choose src n) Q E s:=fun _ _ _=>⟨hn,h⟩
theorem wp_drawOrder {M:Model} {α:Type}:∀ (n:Nat) (xs:List α) (s:Shared) (Q:List α→Shared→Prop),xs.length=n→(∀ ys d,ys.Perm xs→Q ys { s with drawn:=d })→wpAny M A (drawOrder n xs) Q E s
  | 0,xs,s,Q,hl,h=>by
    have e:xs=[]:=List.eq_nil_of_length_eq_zero hl
    subst e
    exact wpAny_pure (h [] s.drawn (List.Perm.refl _))
  | n+1,[],s,Q,hl,h=>by cases hl
  | n+1,x::r,s,Q,hl,h=>by
    unfold drawOrder
    refine wpAny_bind (wp_choose (by simp) ?_)
    generalize hk:M.w.draws Source.order (s.drawn.get Source.order) % (x::r).length=k
    have hlt:k < (x::r).length:=by rw [←hk];exact Nat.mod_lt _ (by simp)
    rw [List.getElem?_eq_getElem hlt]
    dsimp only
    have hl2:((x::r).eraseIdx k).length=n:=by rw [List.length_eraseIdx_of_lt hlt,hl];rfl
    refine wpAny_bind (wp_drawOrder n _ _ _ hl2 fun ys d p=>wpAny_pure (h _ d ?_))
    refine List.Perm.trans (p.cons _) ?_
    exact perm_erase _ k hlt
end
end Hk
set_option maxRecDepth 100000
namespace Hk
open PySem PySem.Spec PyProof.Rows
noncomputable abbrev itObj (f:Value) (i:Nat) (a:Addr) (n ep:Nat):Obj:={ cls:=.type "set_iterator", data:=.fields #[f,.int i 0,.ref a,.int n 0,.int ep 0] }
section
variable {prog:Program} {w:World} {A:Around} {E:Value→Shared→Prop} {s:Shared}
theorem entries_of {a:Addr} {o:Obj} {es:Array (Int×Value)} {ep:Nat} {t:SetTable} {Q:Array (Int×Value)→Shared→Prop} (go:s.heap.get? a=some o) (gd:o.data=.set es ep t) (gf:t.fits es.size=true) (h:Q es s):wpAny (model prog w) A (setEntries a) Q E s:=by
  unfold setEntries
  exact wpAny_bind (wpAny_setState_of go gd gf (wpAny_pure h))
theorem next_slot {it a:Addr} {slot i n ep:Nat} {o:Obj} {es:Array (Int×Value)} {t:SetTable} {x:Value} {nxt:Nat} {Q:Option Value→Shared→Prop} (e:s.heap.get? it=some (itObj (.int slot 0) i a n ep))
    (go:s.heap.get? a=some o) (gd:o.data=.set es ep t) (gf:t.fits es.size=true) (hn:es.size=n)
    (hnext:∀ A' Q' E',Q' (some (x,nxt)) s→wpAny (model prog w) A' (setNext a slot i ep) Q' E' s) (k:∀ h',h'.get? it=some (itObj (.int nxt 0) (i+1) a n ep)→Heap.SameBut it s.heap h'→Q (some x) { s with heap:=h' }) :
    wpAny (model prog w) A (pyNext (.ref it)) Q E s:=by
  have hT:s.TypeIs (.ref it) "set_iterator" := ⟨_,e,rfl⟩
  unfold pyNext
  refine wpAny_bind (wpAny_attempt (wpAny_callSpecial?_slot (name:=Str.ofString "__next__") hT F.slotSetNext (wpAny_call_entry F.slotSetNext hT F.entSetNext ?_ (F.argsSetNext _))))
  unfold Builtin.«set_iterator.__next__»
  refine wpAny_bind (m:=slotArgs "__next__" 0 ⟨[.ref it],[]⟩) (wpAny_pure ?_)
  refine wpAny_bind (wpAny_fieldsOf e rfl ?_)
  dsimp only
  refine wpAny_bind (entries_of go gd gf ?_)
  rw [if_neg (by rw [hn];simp)]
  simp only [Int.toNat_natCast]
  refine wpAny_bind (hnext _ _ _ ?_)
  dsimp only
  refine wpAny_bind (wpAny_setField_rec e (by simp) fun h1 e1 sb1=>?_)
  refine wpAny_bind (wpAny_setField_rec (s:={ s with heap:=h1 }) e1 (by simp) fun h2 e2 sb2=>?_)
  refine wpAny_pure ⟨_,rfl,wpAny_pure (k h2 ?_ (sb1.trans sb2))⟩
  rw [e2]
  simp [rawInt]
theorem stop_slot {it a:Addr} {slot i n ep:Nat} {o:Obj} {es:Array (Int×Value)} {t:SetTable} {Q:Option Value→Shared→Prop} (hh:A.handled=none) (e:s.heap.get? it=some (itObj (.int slot 0) i a n ep))
    (go:s.heap.get? a=some o) (gd:o.data=.set es ep t) (gf:t.fits es.size=true) (hn:es.size=n)
    (hnext:∀ A' Q' E',Q' none s→wpAny (model prog w) A' (setNext a slot i ep) Q' E' s) (k:∀ h',Heap.ExtBut it s.heap h'→Q none { s with heap:=h' }) :
    wpAny (model prog w) A (pyNext (.ref it)) Q E s:=by
  have hT:s.TypeIs (.ref it) "set_iterator" := ⟨_,e,rfl⟩
  unfold pyNext
  refine wpAny_bind (wpAny_attempt (wpAny_callSpecial?_slot (name:=Str.ofString "__next__") hT F.slotSetNext (wpAny_call_entry F.slotSetNext hT F.entSetNext ?_ (F.argsSetNext _))))
  unfold Builtin.«set_iterator.__next__»
  refine wpAny_bind (m:=slotArgs "__next__" 0 ⟨[.ref it],[]⟩) (wpAny_pure ?_)
  refine wpAny_bind (wpAny_fieldsOf e rfl ?_)
  dsimp only
  refine wpAny_bind (entries_of go gd gf ?_)
  rw [if_neg (by rw [hn];simp)]
  simp only [Int.toNat_natCast]
  refine wpAny_bind (hnext _ _ _ ?_)
  dsimp only
  refine wpAny_bind (wpAny_setField_rec e (by simp) fun h1 e1 sb1=>?_)
  show wpAny _ _ (newExc (.type "StopIteration") [] >>= fun x=>raiseNew x) _ _ _
  refine wpAny_bind ?_
  simp only [newExc,newTuple]
  refine wpAny_bind (wpAny_newObj_type ?_ (by size_fits))
  refine wpAny_bind (m:=firstArgMember _ _) (wpAny_of_eq (a:=Value.none) (by first|rfl|(simp only [firstArgMember];rfl)) ?_)
  refine wpAny_newObj_type ?_ (by size_fits)
  simp only [raiseNew]
  refine wpAny_bind (wpAny_handled ?_)
  rw [show A.in1.handled=none from hh]
  refine wpAny_bind (wpAny_pure (wpAny_throw ?_))
  refine wpAny_bind (wpAny_isInstance (T := "StopIteration") (b:=true) ⟨_,Heap.get?_push_size _ rfl,rfl⟩ isSubtype_stop ?_)
  exact wpAny_pure (k _ ((sb1.extBut.push _).push _))
end
end Hk
set_option maxRecDepth 100000
namespace Hk
open PySem PySem.Spec PyProof.Rows
section
variable {prog:Program} {w:World} {A:Around} {E:Value→Shared→Prop} {s:Shared}
theorem byText_is {Q:Bool→Shared→Prop} (h:Q (w.params.followText "set-order") s):wpAny (model prog w) A setsByText Q E s:=by
  unfold setsByText
  exact wpAny_bind (wpAny_askSetting (wpAny_pure h))
theorem next_place {a:Addr} {o:Obj} {es:Array (Int×Value)} {ep:Nat} {t:SetTable} {slot i:Nat} {r:Option (Value×Nat)} {Q:Option (Value×Nat)→Shared→Prop} (go:s.heap.get? a=some o) (gd:o.data=.set es ep t) (gf:t.fits es.size=true)
    (hB:w.params.followText "set-order" = false) (hl:t.led=true) (hd:(!t.plain && decide (es.size > 1))=false)
    (hr:(match es[SetTable.below t.place slot]?,t.place[SetTable.below t.place slot]? with|some (_,x),some j=>some (x,j+1)|_,_=>none)=r) (h:Q r s):wpAny (model prog w) A (setNext a slot i ep) Q E s:=by
  unfold setNext
  refine wpAny_bind (wpAny_setState_of go gd gf ?_)
  dsimp only
  refine wpAny_bind (byText_is ?_)
  rw [hB]
  refine wpAny_ite_split (fun z=>absurd z (by decide)) (fun _=>?_)
  refine wpAny_ite_split (fun z=>absurd ((show (!t.plain && decide (es.size > 1))=true from z).symm.trans hd) (by decide)) (fun _=>?_)
  refine wpAny_bind ?_
  refine wpAny_ite_split (fun z=>?_) (fun _=>?_)
  · have z':(!t.led && !es.isEmpty)=true:=z
    rw [hl] at z'
    exact absurd z' (by simp)
  · refine wpAny_pure ?_
    refine wpAny_pure ?_
    rw [←hr] at h
    exact h
theorem walk_text {a:Addr} {o:Obj} {es:Array (Int×Value)} {ep:Nat} {t:SetTable} {Q:Array (Int×Value)→Shared→Prop} (go:s.heap.get? a=some o) (gd:o.data=.set es ep t) (gf:t.fits es.size=true)
    (hB:w.params.followText "set-order" = true) (h:Q (pickOrder (w.params.setOrder a ep) es) s):wpAny (model prog w) A (setWalk a) Q E s:=by
  unfold setWalk
  refine wpAny_bind (wpAny_setState_of go gd gf ?_)
  dsimp only
  refine wpAny_bind (byText_is ?_)
  rw [hB]
  refine wpAny_ite_split (fun _=>?_) (fun z=>absurd rfl z)
  exact wpAny_bind (wpAny_askSetting (wpAny_pure h))
theorem next_text {a:Addr} {o:Obj} {es:Array (Int×Value)} {ep:Nat} {t:SetTable} {slot i:Nat} {Q:Option (Value×Nat)→Shared→Prop} (go:s.heap.get? a=some o) (gd:o.data=.set es ep t) (gf:t.fits es.size=true)
    (hB:w.params.followText "set-order" = true) (h:Q (((pickOrder (w.params.setOrder a ep) es)[i]?).map fun e=>(e.2,slot)) s):wpAny (model prog w) A (setNext a slot i ep) Q E s:=by
  unfold setNext
  refine wpAny_bind (wpAny_setState_of go gd gf ?_)
  dsimp only
  refine wpAny_bind (byText_is ?_)
  rw [hB]
  refine wpAny_ite_split (fun _=>?_) (fun z=>absurd rfl z)
  refine wpAny_ite_split (fun z=>absurd z (by simp)) (fun _=>?_)
  exact wpAny_bind (walk_text go gd gf hB (wpAny_pure h))
theorem iter_it {it:Addr} {f:Value} {i:Nat} {a:Addr} {n ep:Nat} {Q:Value→Shared→Prop} (e:s.heap.get? it=some (itObj f i a n ep)) (h:Q (.ref it) s):wpAny (model prog w) A (pyIter (.ref it)) Q E s:=by
  have hT:s.TypeIs (.ref it) "set_iterator" := ⟨_,e,rfl⟩
  refine wpAny_pyIter_slot hT F.slotSetIt (wpAny_call_entry F.slotSetIt hT F.entSetIt ?_ (F.argsSetIt _))
  show wpAny _ _ (ret (.ref it)) _ _ s
  exact wpAny_pure ⟨_,rfl, "set_iterator", _,hT,F.slotSetNext.lookup,h⟩
theorem walks_slot (hh:A.handled=none) {I a:Addr} (hne:a≠I) {o:Obj} {es:Array (Int×Value)} {ep:Nat} {t:SetTable} (gd:o.data=.set es ep t) (gf:t.fits es.size=true) (slot:Nat→Nat) (val:Nat→Value)
    (hn:∀ (i:Nat) (s:Shared),i < es.size→s.heap.get? a=some o→∀ A' Q' E',Q' (some (val i,slot (i+1))) s→wpAny (model prog w) A' (setNext a (slot i) i ep) Q' E' s)
    (hz:∀ (s:Shared),s.heap.get? a=some o→∀ A' Q' E',Q' none s→wpAny (model prog w) A' (setNext a (slot es.size) es.size ep) Q' E' s) :
    Walks prog w A I [I,a] [I] es.size (fun i v=>v=val i) (fun i h=>h.get? I=some (itObj (.int (slot i) 0) i a es.size ep)∧h.get? a=some o) where
  sub:=fun b hb=>by simp at hb;simp [hb]
  frame:=fun _ _ _ st hk=>⟨hk I (by simp) _ st.1,hk a (by simp) _ st.2⟩
  item:=fun i s Q E hi st hQ=>by
    refine next_slot st.1 st.2 gd gf rfl (hn i s hi st.2) fun h' e' sb=>?_
    exact hQ _ h' s.toks rfl ⟨e',sb.extBut a o hne st.2⟩ fun b u hb e=>sb.extBut b u (fun z=>hb (by simp [z])) e
  done:=fun s Q E st hQ=>stop_slot hh st.1 st.2 gd gf rfl (hz s st.2) fun h' eb=>hQ h' s.toks fun b u hb e=>eb b u (fun z=>hb (by simp [z])) e
  self:=fun _ _ _ _ st hQ=>iter_it st.1 hQ
theorem next_drawn {it a tp:Addr} {i n ep p:Nat} {o:Obj} {es:Array (Int×Value)} {t:SetTable} {x:Int×Value} {ps:Array Value} {ot:Obj} {nt:Nat} {Q:Option Value→Shared→Prop} (e:s.heap.get? it=some (itObj (.ref tp) i a n ep))
    (go:s.heap.get? a=some o) (gd:o.data=.set es ep t) (gf:t.fits es.size=true) (hn:es.size=n) (gt:s.heap.get? tp=some ot) (gtd:ot.data=.seq ps nt) (hp:ps[i]?=some (.int p 0)) (hx:es[p]?=some x)
    (k:∀ h',h'.get? it=some (itObj (.ref tp) (i+1) a n ep)→Heap.SameBut it s.heap h'→Q (some x.2) { s with heap:=h' }) :
    wpAny (model prog w) A (pyNext (.ref it)) Q E s:=by
  have hT:s.TypeIs (.ref it) "set_iterator" := ⟨_,e,rfl⟩
  unfold pyNext
  refine wpAny_bind (wpAny_attempt (wpAny_callSpecial?_slot (name:=Str.ofString "__next__") hT F.slotSetNext (wpAny_call_entry F.slotSetNext hT F.entSetNext ?_ (F.argsSetNext _))))
  unfold Builtin.«set_iterator.__next__»
  refine wpAny_bind (m:=slotArgs "__next__" 0 ⟨[.ref it],[]⟩) (wpAny_pure ?_)
  refine wpAny_bind (wpAny_fieldsOf e rfl ?_)
  dsimp only
  refine wpAny_bind (entries_of go gd gf ?_)
  rw [if_neg (by rw [hn];simp)]
  refine wpAny_bind (wpAny_seqItems gt gtd ?_)
  dsimp only
  simp only [Int.toNat_natCast]
  rw [hp]
  dsimp only
  unfold setNextDrawn
  refine wpAny_bind (wpAny_bind (wpAny_setState_of go gd gf ?_))
  dsimp only
  refine wpAny_ite_split (fun z=>absurd z (by simp)) (fun _=>?_)
  simp only [Int.toNat_natCast]
  rw [hx]
  refine wpAny_pure ?_
  refine wpAny_bind (wpAny_setField_rec e (by simp) fun h1 e1 sb1=>?_)
  refine wpAny_pure ⟨_,rfl,wpAny_pure (k h1 ?_ sb1)⟩
  rw [e1]
  simp [rawInt]
theorem stop_drawn {it a tp:Addr} {i n ep:Nat} {o:Obj} {es:Array (Int×Value)} {t:SetTable} {ps:Array Value} {ot:Obj} {nt:Nat} {Q:Option Value→Shared→Prop} (hh:A.handled=none) (e:s.heap.get? it=some (itObj (.ref tp) i a n ep))
    (go:s.heap.get? a=some o) (gd:o.data=.set es ep t) (gf:t.fits es.size=true) (hn:es.size=n) (gt:s.heap.get? tp=some ot) (gtd:ot.data=.seq ps nt) (hp:ps[i]?=none)
    (k:∀ h',Heap.ExtBut it s.heap h'→Q none { s with heap:=h' }) :
    wpAny (model prog w) A (pyNext (.ref it)) Q E s:=by
  have hT:s.TypeIs (.ref it) "set_iterator" := ⟨_,e,rfl⟩
  unfold pyNext
  refine wpAny_bind (wpAny_attempt (wpAny_callSpecial?_slot (name:=Str.ofString "__next__") hT F.slotSetNext (wpAny_call_entry F.slotSetNext hT F.entSetNext ?_ (F.argsSetNext _))))
  unfold Builtin.«set_iterator.__next__»
  refine wpAny_bind (m:=slotArgs "__next__" 0 ⟨[.ref it],[]⟩) (wpAny_pure ?_)
  refine wpAny_bind (wpAny_fieldsOf e rfl ?_)
  dsimp only
  refine wpAny_bind (entries_of go gd gf ?_)
  rw [if_neg (by rw [hn];simp)]
  refine wpAny_bind (wpAny_seqItems gt gtd ?_)
  dsimp only
  simp only [Int.toNat_natCast]
  rw [hp]
  dsimp only
  refine wpAny_bind (wpAny_setField_rec e (by simp) fun h1 e1 sb1=>?_)
  refine wpAny_bind (wpAny_setField_rec (s:={ s with heap:=h1 }) e1 (by simp) fun h2 e2 sb2=>?_)
  show wpAny _ _ (newExc (.type "StopIteration") [] >>= fun x=>raiseNew x) _ _ _
  refine wpAny_bind ?_
  simp only [newExc,newTuple]
  refine wpAny_bind (wpAny_newObj_type ?_ (by size_fits))
  refine wpAny_bind (m:=firstArgMember _ _) (wpAny_of_eq (a:=Value.none) (by first|rfl|(simp only [firstArgMember];rfl)) ?_)
  refine wpAny_newObj_type ?_ (by size_fits)
  simp only [raiseNew]
  refine wpAny_bind (wpAny_handled ?_)
  rw [show A.in1.handled=none from hh]
  refine wpAny_bind (wpAny_pure (wpAny_throw ?_))
  refine wpAny_bind (wpAny_isInstance (T := "StopIteration") (b:=true) ⟨_,Heap.get?_push_size _ rfl,rfl⟩ isSubtype_stop ?_)
  exact wpAny_pure (k _ (((sb1.trans sb2).extBut.push _).push _))
theorem walks_drawn (hh:A.handled=none) {I a tp:Addr} (hne:a≠I) (htp:tp≠I) {o:Obj} {es:Array (Int×Value)} {ep:Nat} {t:SetTable} (gd:o.data=.set es ep t) (gf:t.fits es.size=true) {ot:Obj} {nt:Nat} (ord:List Nat) (hp:ord.Perm (List.range es.size)) (gtd:ot.data=.seq (ord.map fun (i:Nat)=>rawInt i).toArray nt) :
    Walks prog w A I [I,a,tp] [I] es.size (fun i v=>∃ p x,ord[i]?=some p∧es[p]?=some x∧v=x.2) (fun i h=>h.get? I=some (itObj (.ref tp) i a es.size ep)∧h.get? a=some o∧h.get? tp=some ot) where
  sub:=fun b hb=>by simp at hb;simp [hb]
  frame:=fun _ _ _ st hk=>⟨hk I (by simp) _ st.1,hk a (by simp) _ st.2.1,hk tp (by simp) _ st.2.2⟩
  item:=fun i s Q E hi st hQ=>by
    have hl:ord.length=es.size:=by rw [hp.length_eq,List.length_range]
    have ho:ord[i]?=some (ord[i]'(by omega)):=List.getElem?_eq_getElem _
    have hlt:ord[i]'(by omega) < es.size:=List.mem_range.mp (hp.mem_iff.mp (List.getElem_mem _))
    refine next_drawn (p:=ord[i]'(by omega)) (x:=es[ord[i]'(by omega)]) st.1 st.2.1 gd gf rfl st.2.2 gtd (by simp [rawInt,ho]) (by simp [hlt]) fun h' e' sb=>?_
    exact hQ _ h' s.toks ⟨_,_,ho,by simp [hlt],rfl⟩ ⟨e',sb.extBut a o hne st.2.1,sb.extBut tp ot htp st.2.2⟩ fun b u hb e=>sb.extBut b u (fun z=>hb (by simp [z])) e
  done:=fun s Q E st hQ=>stop_drawn hh st.1 st.2.1 gd gf rfl st.2.2 gtd (by simp [hp.length_eq]) fun h' eb=>hQ h' s.toks fun b u hb e=>eb b u (fun z=>hb (by simp [z])) e
  self:=fun _ _ _ _ st hQ=>iter_it st.1 hQ
end
end Hk
set_option maxRecDepth 100000
namespace PySem.F
theorem slotSetLen:typeLookup (.type "set") "__len__" = pure (some (.builtin "set.__len__")):=by rw [typeLookup_type,builtinLookup_eq_fast];kernel_rfl
theorem slotSetIter:Slot "set" "__iter__" "set.__iter__" := .of (owner := "set") (n := "__iter__") (by rw [typeLookup_type,builtinLookup_eq_fast];kernel_rfl) (by decide +kernel) (by decide +kernel) (by decide +kernel) (by first|exact .inl (by decide +kernel)|exact .inr (by decide +kernel)) (by rw [isSubtype_type];kernel_rfl)
theorem argsSetIter (a:Value):argsOk "set.__iter__" ⟨[a],[]⟩:=by
  unfold argsOk;kernel_rfl
end PySem.F
namespace Hk
open PySem PySem.Spec PyProof.Rows
noncomputable def slotAt (xs:Array Nat):Nat→Nat
  | 0=>0
  | i+1=>xs.toList.getD i 0+1
theorem below_slot {xs:Array Nat} (h:Rise xs):∀ i,i≤xs.size→SetTable.below xs (slotAt xs i)=i:=by
  intro i hi
  obtain ⟨h1,h2,h3⟩:=below_ok h (slotAt xs i)
  have hz:xs.toList.length=xs.size:=Array.length_toList
  cases i with
  | zero =>
    rcases Nat.eq_zero_or_pos (SetTable.below xs (slotAt xs 0)) with z|z
    · exact z
    · exact absurd (h2 0 (by omega) z) (Nat.not_lt_zero _)
  | succ i =>
    have hlt:i < xs.toList.length:=by omega
    have e:slotAt xs (i+1)=xs.toList[i]+1:=by
      show xs.toList.getD i 0+1=_
      rw [List.getD_eq_getElem?_getD,List.getElem?_eq_getElem hlt];rfl
    rw [e] at h2 h3 h1 ⊢
    generalize SetTable.below xs (xs.toList[i]+1)=b at h1 h2 h3 ⊢
    have a1:i < b:=by
      rcases Nat.lt_or_ge i b with z|z
      · exact z
      · have:=h3 i hlt z;omega
    have a2:b≤i+1:=by
      rcases Nat.lt_or_ge (i+1) b with z|z
      · have y:=h2 (i+1) (by omega) z
        have y':=rise_lt h hlt (show i+1 < xs.toList.length by omega) (Nat.lt_succ_self i)
        omega
      · exact z
    omega
theorem items_val {val:Nat→Value} {n:Nat} {acc:Array Value} (h:ItemsOf (fun i v=>v=val i) acc n):acc.toList=(List.range n).map val:=by
  apply List.ext_getElem?
  intro i
  rw [Array.getElem?_toList,List.getElem?_map]
  rcases Nat.lt_or_ge i n with z|z
  · rw [List.getElem?_range z]
    have hz:i < acc.size:=by rw [h.1];exact z
    have:acc[i]?=some acc[i]:=Array.getElem?_eq_getElem hz
    rw [this,h.2 i _ this];rfl
  · rw [List.getElem?_eq_none (by rw [List.length_range];exact z),Array.getElem?_eq_none (by rw [h.1];exact z)];rfl
theorem ints_good:∀ {l:List (Int×Value)},(∀ e∈l,GoodE e)→IntsAre (l.map (·.2)) (l.map fun e=>vI e.2)
  | [],_=>.nil
  | e::r,h=>by
    obtain ⟨x,t,rfl⟩:=h e List.mem_cons_self
    exact .cons _ _ (ints_good fun e he=>h e (List.mem_cons_of_mem _ he))
section
variable {prog:Program} {w:World} {A:Around} {E:Value→Shared→Prop} {s:Shared}
theorem hint_set {r:Addr} {Q:Bool→Shared→Prop} (hT:s.TypeIs (.ref r) "set") (h:Q false s):wpAny (model prog w) A (Builtin.List.listLengthHint (.ref r)) Q E s:=by
  unfold Builtin.List.listLengthHint
  refine wpAny_bind (wpAny_specialOf hT F.slotSetLen ?_)
  generalize hid:("set.__len__" : String)=id0
  wp_delta
  rw [show splitId id0=some ("set", "__len__") from by subst hid;decide +kernel]
  subst hid
  refine wpAny_bind (wpAny_isInstance (T := "set") (b:=true) hT (by rw [isSubtype_type];kernel_rfl) ?_)
  refine wpAny_ite_split (fun hab=>absurd hab (by decide)) (fun _=>?_)
  refine wpAny_ite_split (fun _=>?_) (fun hab=>absurd (by decide +kernel) hab)
  refine wpAny_bind (wpAny_typeOf hT ?_)
  exact wpAny_pure h
theorem iter_set {a:Addr} {xs:List Int} {Q:Value→Shared→Prop} (S:SetI s.heap a (ledOf w) xs)
    (k:∀ (h':Heap) (d:Drawn) (I:Addr) (fp:List Addr) (P:Nat→Value→Prop) (St:Nat→Heap→Prop),(∀ b o,s.heap.get? b=some o→h'.get? b=some o)→s.heap.objs.size≤I→(∀ b∈fp,b=a∨s.heap.objs.size≤b) →
      (∀ A:Around,A.handled=none→Walks prog w A I fp [I] xs.length P St)→St 0 h'→(∀ acc:Array Value,ItemsOf P acc xs.length→∃ ys,IntsAre acc.toList ys∧ys.Perm xs)→(∀ b∈fp,b < h'.objs.size)→Q (.ref I) { s with heap:=h',drawn:=d }) :
    wpAny (model prog w) A (pyIter (.ref a)) Q E s:=by
  obtain ⟨o,es,ep,t,go,gx,gd,T,gl,gb,gg,gv,gn⟩:=id S
  have hl:es.size=xs.length:=by rw [←gv,List.length_map,Array.length_toList]
  have hlt:a < s.heap.objs.size:=Heap.lt_size go
  have hps:t.place.size=es.size:=by
    have:=T.fits
    unfold SetTable.fits at this
    simp only [Bool.and_eq_true,beq_iff_eq] at this
    exact this.1
  have hT:s.TypeIs (.ref a) "set" := ⟨o,go,gx.1⟩
  refine wpAny_pyIter_slot hT F.slotSetIter (wpAny_call_entry F.slotSetIter hT F.entSetIter ?_ (F.argsSetIter _))
  unfold Builtin.«frozenset.__iter__» Builtin.Frozenset.slot0 Builtin.Frozenset.sizeOf
  refine wpAny_bind ?_
  refine wpAny_bind (m:=slotArgs "__iter__" 0 ⟨[.ref a],[]⟩) (wpAny_pure ?_)
  show wpAny _ _ (pure a) _ _ s
  refine wpAny_pure ?_
  refine wpAny_bind (wpAny_bind (entries_of go gd T.fits (wpAny_pure ?_)))
  refine wpAny_bind ?_
  unfold setDrawn
  refine wpAny_bind (wpAny_setState_of go gd T.fits ?_)
  dsimp only
  refine wpAny_bind (byText_is (wpAny_pure ?_))
  have perm_ok:∀ (l:List (Int×Value)),l.Perm es.toList→∃ ys,IntsAre (l.map (·.2)) ys∧ys.Perm xs:=fun l p =>
    ⟨_,ints_good fun e he=>gg e (p.mem_iff.mp he),by rw [←gv];exact p.map _⟩
  have slots:∀ (slot:Nat→Nat) (l:List (Int×Value)),slot 0=0→l.Perm es.toList →
      (∀ (i:Nat) (s:Shared),i < es.size→s.heap.get? a=some o→∀ A' Q' E',Q' (some ((l.map (·.2)).getD i .none,slot (i+1))) s→wpAny (model prog w) A' (setNext a (slot i) i ep) Q' E' s) →
      (∀ (s:Shared),s.heap.get? a=some o→∀ A' Q' E',Q' none s→wpAny (model prog w) A' (setNext a (slot es.size) es.size ep) Q' E' s) →
      Q (.ref s.heap.objs.size) { s with heap:=s.heap.push (itObj (.int (slot 0:Nat) 0) 0 a es.size ep) }:=fun slot l h0 p hn hz=>by
    have:=k (s.heap.push (itObj (.int (slot 0:Nat) 0) 0 a es.size ep)) s.drawn s.heap.objs.size [s.heap.objs.size,a] (fun i v=>v=(l.map (·.2)).getD i .none) (fun i h=>h.get? s.heap.objs.size=some (itObj (.int (slot i) 0) i a es.size ep)∧h.get? a=some o)
      (fun b u e=>Heap.get?_push_of_some _ e) (Nat.le_refl _) (fun b hb=>by
        simp only [List.mem_cons,List.not_mem_nil,or_false] at hb
        rcases hb with rfl|rfl
        · exact .inr (Nat.le_refl _)
        · exact .inl rfl) (fun A hh=>by rw [←hl];exact walks_slot hh (Nat.ne_of_lt hlt) gd T.fits slot _ hn hz) ⟨Heap.get?_push_size _ rfl,Heap.get?_push_of_some _ go⟩ (fun acc hacc=>by
        rw [items_val hacc]
        obtain ⟨ys,y1,y2⟩:=perm_ok l p
        have e:(List.range xs.length).map (fun i=>(l.map (·.2)).getD i .none)=l.map (·.2):=by
          apply List.ext_getElem?
          intro i
          have hll:l.length=xs.length:=by rw [p.length_eq,Array.length_toList,hl]
          rw [List.getElem?_map]
          rcases Nat.lt_or_ge i xs.length with z|z
          · rw [List.getElem?_range z]
            show some ((l.map (·.2)).getD i .none)=_
            rw [List.getD_eq_getElem?_getD,List.getElem?_eq_getElem (by rw [List.length_map,hll];exact z)];rfl
          · rw [List.getElem?_eq_none (by rw [List.length_range];exact z),List.getElem?_eq_none (by rw [List.length_map,hll];exact z)];rfl
        rw [e]
        exact ⟨ys,y1,y2⟩) (fun b hb=>by
        rw [Heap.size_push]
        simp only [List.mem_cons,List.not_mem_nil,or_false] at hb
        rcases hb with rfl|rfl
        · exact Nat.lt_succ_self _
        · exact Nat.lt_succ_of_lt hlt)
    exact this
  have getD_at:∀ (l:List (Int×Value)) (i:Nat) (e:Int×Value),l[i]?=some e→(l.map (·.2)).getD i .none=e.2:=fun l i e h=>by
    rw [List.getD_eq_getElem?_getD,List.getElem?_map,h];rfl
  cases hB:w.params.followText "set-order" with
  | true =>
    refine wpAny_bind (wpAny_pure ?_)
    refine wpAny_bind ?_
    unfold setEpoch
    refine wpAny_bind (wpAny_setState_of go gd T.fits (wpAny_pure ?_))
    refine wpAny_bind (wpAny_newObj_type (wpAny_pure ⟨_,rfl, "set_iterator", _,⟨_,Heap.get?_push_size _ rfl,rfl⟩,F.slotSetNext.lookup,?_⟩))
    have pp:=pick_perm (w.params.setOrder a ep) es
    have hpl:(pickOrder (w.params.setOrder a ep) es).size=es.size:=by rw [←Array.length_toList,pp.length_eq,Array.length_toList]
    refine slots (fun _=>0) _ rfl pp (fun i s hi go' A' Q' E' q=>?_) fun s go' A' Q' E' q=>?_
    · refine next_text go' gd T.fits hB ?_
      have hz:i < (pickOrder (w.params.setOrder a ep) es).size:=by rw [hpl];exact hi
      rw [Array.getElem?_eq_getElem hz]
      have:=getD_at (pickOrder (w.params.setOrder a ep) es).toList i (pickOrder (w.params.setOrder a ep) es)[i] (by rw [Array.getElem?_toList,Array.getElem?_eq_getElem hz])
      rw [this] at q
      exact q
    · refine next_text go' gd T.fits hB ?_
      rw [Array.getElem?_eq_none (by rw [hpl];exact Nat.le_refl _)]
      exact q
  | false =>
    have led:t.led=true:=by rw [gl];unfold ledOf;rw [hB];rfl
    cases hD:(!t.plain && decide (es.size > 1)) with
    | false =>
      refine wpAny_ite_split (fun z=>absurd ((show (!false && (!t.plain && decide (es.size > 1)))=true from z)) (by rw [hD];decide)) (fun _=>?_)
      refine wpAny_bind (wpAny_pure ?_)
      refine wpAny_bind ?_
      unfold setEpoch
      refine wpAny_bind (wpAny_setState_of go gd T.fits (wpAny_pure ?_))
      refine wpAny_bind (wpAny_newObj_type (wpAny_pure ⟨_,rfl, "set_iterator", _,⟨_,Heap.get?_push_size _ rfl,rfl⟩,F.slotSetNext.lookup,?_⟩))
      refine slots (slotAt t.place) es.toList rfl (List.Perm.refl _) (fun i s hi go' A' Q' E' q=>?_) fun s go' A' Q' E' q=>?_
      · refine next_place go' gd T.fits hB led hD rfl ?_
        rw [below_slot T.rise i (by omega),Array.getElem?_eq_getElem hi,Array.getElem?_eq_getElem (show i < t.place.size by omega)]
        have:=getD_at es.toList i es[i] (by rw [Array.getElem?_toList,Array.getElem?_eq_getElem hi])
        rw [this] at q
        have e2:slotAt t.place (i+1)=t.place[i]'(by omega)+1:=by
          show t.place.toList.getD i 0+1=_
          rw [List.getD_eq_getElem?_getD,Array.getElem?_toList,Array.getElem?_eq_getElem (show i < t.place.size by omega)];rfl
        rw [e2] at q
        exact q
      · refine next_place go' gd T.fits hB led hD rfl ?_
        rw [below_slot T.rise es.size (by omega),Array.getElem?_eq_none (Nat.le_refl _)]
        exact q
    | true =>
      refine wpAny_ite_split (fun _=>?_) (fun z=>absurd (show (!false && (!t.plain && decide (es.size > 1)))=true by rw [hD];rfl) z)
      refine wpAny_bind (wp_drawOrder es.size (List.range es.size) _ _ List.length_range fun ord d po=>?_)
      have hol:ord.length=es.size:=by rw [po.length_eq,List.length_range]
      refine wpAny_bind (wpAny_newTuple ?_ (by rw [List.length_map,hol];exact Nat.le_trans (Nat.le_of_lt gb) (by decide)))
      refine wpAny_bind ?_
      unfold setEpoch
      have go2:(s.heap.push { cls:=.type "tuple", data:=.seq (ord.map fun (i:Nat)=>rawInt i).toArray }).get? a=some o:=Heap.get?_push_of_some _ go
      refine wpAny_bind (wpAny_setState_of go2 gd T.fits (wpAny_pure ?_))
      refine wpAny_bind (wpAny_newObj_type (wpAny_pure ⟨_,rfl, "set_iterator", _,⟨_,Heap.get?_push_size _ rfl,rfl⟩,F.slotSetNext.lookup,?_⟩))
      have hs1:(s.heap.push { cls:=.type "tuple", data:=.seq (ord.map fun (i:Nat)=>rawInt i).toArray }).objs.size=s.heap.objs.size+1:=Heap.size_push _ _
      have ht1:(s.heap.push { cls:=.type "tuple", data:=.seq (ord.map fun (i:Nat)=>rawInt i).toArray }).get? s.heap.objs.size=some { cls:=.type "tuple", data:=.seq (ord.map fun (i:Nat)=>rawInt i).toArray }:=Heap.get?_push_size _ rfl
      refine k _ d _ [(s.heap.push { cls:=.type "tuple", data:=.seq (ord.map fun (i:Nat)=>rawInt i).toArray }).objs.size,a,s.heap.objs.size] (fun i v=>∃ p x,ord[i]?=some p∧es[p]?=some x∧v=x.2)
        (fun i h=>h.get? (s.heap.push { cls:=.type "tuple", data:=.seq (ord.map fun (i:Nat)=>rawInt i).toArray }).objs.size=some (itObj (.ref s.heap.objs.size) i a es.size ep)∧h.get? a=some o∧h.get? s.heap.objs.size=some { cls:=.type "tuple", data:=.seq (ord.map fun (i:Nat)=>rawInt i).toArray }) (fun b u e=>Heap.get?_push_of_some _ (Heap.get?_push_of_some _ e)) (by rw [hs1];exact Nat.le_succ _) (fun b hb=>?_) (fun A hh=>by
        rw [←hl]
        exact walks_drawn (tp:=s.heap.objs.size) hh (by rw [hs1];exact Nat.ne_of_lt (Nat.lt_succ_of_lt hlt)) (by rw [hs1];exact Nat.ne_of_lt (Nat.lt_succ_self _)) gd T.fits ord po rfl)
        ⟨Heap.get?_push_size _ rfl,Heap.get?_push_of_some _ go2,Heap.get?_push_of_some _ ht1⟩ (fun acc hacc=>?_) (fun b hb=>?_)
      · simp only [List.mem_cons,List.not_mem_nil,or_false] at hb
        rcases hb with rfl|rfl|rfl
        · exact .inr (by rw [hs1];exact Nat.le_succ _)
        · exact .inl rfl
        · exact .inr (Nat.le_refl _)
      · have e:acc.toList=(ord.map fun p=>es.toList.getD p (0,.none)).map (·.2):=by
          apply List.ext_getElem?
          intro i
          rw [Array.getElem?_toList,List.getElem?_map,List.getElem?_map]
          rcases Nat.lt_or_ge i acc.size with z|z
          · obtain ⟨p,x,h1,h2,h3⟩:=hacc.2 i acc[i] (Array.getElem?_eq_getElem z)
            rw [Array.getElem?_eq_getElem z,h1,h3]
            show _=some (es.toList.getD p (0,.none)).2
            rw [List.getD_eq_getElem?_getD,Array.getElem?_toList,h2];rfl
          · rw [Array.getElem?_eq_none z,List.getElem?_eq_none (by rw [hol,hl,←hacc.1];exact z)];rfl
        have p2:(ord.map fun p=>es.toList.getD p (0,.none)).Perm es.toList:=by
          refine (po.map _).trans ?_
          have:(List.range es.size).map (fun p=>es.toList.getD p (0,Value.none))=es.toList:=by
            apply List.ext_getElem?
            intro i
            rw [List.getElem?_map]
            rcases Nat.lt_or_ge i es.size with z|z
            · rw [List.getElem?_range z]
              show some (es.toList.getD i (0,Value.none))=_
              rw [List.getD_eq_getElem?_getD,List.getElem?_eq_getElem (by rw [Array.length_toList];exact z)];rfl
            · rw [List.getElem?_eq_none (by rw [List.length_range];exact z),List.getElem?_eq_none (by rw [Array.length_toList];exact z)];rfl
          rw [this]
        rw [e]
        exact perm_ok _ p2
      · rw [Heap.size_push,hs1]
        simp only [List.mem_cons,List.not_mem_nil,or_false] at hb
        rcases hb with rfl|rfl|rfl
        · rw [hs1];exact Nat.lt_succ_self _
        · exact Nat.lt_succ_of_lt (Nat.lt_succ_of_lt hlt)
        · exact Nat.lt_succ_of_lt (Nat.lt_succ_self _)
end
end Hk
set_option maxRecDepth 100000
namespace Hk
open PySem PySem.Spec PyProof.Rows
section
variable {prog:Program} {w:World} {A:Around} {E:Value→Shared→Prop} {s:Shared}
theorem extend_set {R:Result→Shared→Prop} {a:Addr} {xs:List Int} (hh:A.handled=none) (SI:SetI s.heap a (ledOf w) xs) (S:Addr) (hSa:S≠a) (res:Value) (c₀:Nat) (hS:s.heap.get? S=some { cls:=.type "list", data:=.seq #[] c₀ })
    (hR:∀ h' tk d acc' c',(∀ b o,b≠S→s.heap.get? b=some o→h'.get? b=some o)→h'.get? S=some { cls:=.type "list", dict:=none,data:=.seq acc' c',slots:=#[] }→(∃ ys,IntsAre acc'.toList ys∧ys.Perm xs)→R (.ok (.ret res)) { s with heap:=h',toks:=tk,drawn:=d }) :
    wpAny (model prog w) A.in1 (Builtin.List.listExtendWith (.ref S) (.ref a) res)
      (fun fin s'=>match fin with|.done f=>R (.ok f) s'|.again c'=>c'.quiet=true∧codeAny (model prog w) A c' R s') (fun e s'=>R (.error e) s') s:=by
  have hn:xs.length≤sizeLine:=Nat.le_trans (Nat.le_of_lt SI.len) (by decide)
  obtain ⟨o,es,ep,t,go,gx,gd,T,gl,gb,gg,gv,gn⟩:=id SI
  have hTy:∀ h:Heap,h.get? a=some o→Shared.TypeIs { s with heap:=h } (.ref a) "set" := fun h e=>⟨o,e,gx.1⟩
  unfold Builtin.List.listExtendWith
  refine wpAny_bind (wpAny_typeOf (T := "set") ⟨o,go,gx.1⟩ ?_)
  have h1:Builtin.List.listSameRef (.ref S) (.ref a)=false:=by simp [Builtin.List.listSameRef,hSa]
  have h2:(Value.type "set" == Value.type "list")=false:=by decide
  have h3:(Value.type "set" == Value.type "tuple")=false:=by decide
  simp only [h1,h2,h3,Bool.or_false,Bool.false_eq_true,if_false]
  refine wpAny_bind (iter_set SI fun h1 d I fp P St keep hI hfp W st items hlt=>?_)
  have hS1:h1.get? S=some { cls:=.type "list", data:=.seq #[] c₀ }:=keep _ _ hS
  have hSlt:S < s.heap.objs.size:=Heap.lt_size hS
  have hSf:S∉fp:=fun hm=>by
    rcases hfp S hm with z|z
    · exact hSa z
    · exact absurd hSlt (Nat.not_lt.mpr z)
  have key:∀ (h:Heap) (c₁ tk:Nat),St 0 h→(∀ b o,b≠S→s.heap.get? b=some o→h.get? b=some o) →
      h.get? S=some { cls:=.type "list", data:=.seq #[] c₁ }→codeAny (model prog w) A (.builtin "list.extend.loop" ⟨[.ref S,.ref I,res],[]⟩) R { s with heap:=h,toks:=tk,drawn:=d }:=by
    intro h c₁ tk hst hk hS₁
    refine codeAny_extend_loopS (W A.in1 hh).toS hn S hSf res xs.length 0 _ #[] c₁ rfl (Nat.zero_le _) hst hS₁ (ItemsOf.nil _) fun s' acc' c' hm hS' hacc=>?_
    rw [Moved.eq_with hm]
    refine hR s'.heap s'.toks d acc' c' (fun b o hb e=>hm.heap b o (fun hmem=>?_) (hk b o hb e)) hS' (items acc' hacc)
    rcases List.mem_cons.mp hmem with e'|hmem
    · exact hb e'
    · exact absurd (Heap.lt_size e) (by rw [List.mem_singleton.mp hmem];exact Nat.not_lt.mpr hI)
  refine wpAny_bind (wpAny_holding (hint_set ⟨o,keep _ _ go,gx.1⟩ ?_))
  refine wpAny_ite_split (fun _=>?_) (fun _=>wpAny_pure ⟨plainId_quiet PySem.F.plain_extend_loop _,key _ c₀ _ st (fun b o _ e=>keep b o e) hS1⟩)
  refine wpAny_bind (wpAny_rule ?_)
  refine wpAny_bind ?_
  show wpAny _ _ (updateSeq S (·.push .none) >>= fun _=>updateSeq S (·.pop)) _ _ _
  refine wpAny_bind (wpAny_updateSeq hS1 rfl ?_)
  have hS₂:=Heap.get?_update_self (Obj.mapSeq (·.push Value.none)) hS1 rfl
  refine wpAny_updateSeq (hz:=by seq_fits) hS₂ rfl ?_
  have hS₃:=Heap.get?_update_self (Obj.mapSeq (·.pop)) hS₂ rfl
  refine wpAny_pure ⟨plainId_quiet PySem.F.plain_extend_loop _,key _ _ _ ?_ (fun b o hb e=>?_) hS₃⟩
  · refine (W A.in1 hh).frame 0 _ _ st fun b hb o e=>?_
    have hbS:b≠S:=fun h=>hSf (h▸hb)
    exact (Heap.get?_update_other _ _ (Ne.symm hbS)).trans ((Heap.get?_update_other _ _ (Ne.symm hbS)).trans e)
  · exact (Heap.get?_update_other _ _ (Ne.symm hb)).trans ((Heap.get?_update_other _ _ (Ne.symm hb)).trans (keep b o e))
theorem collect_set {R:List Value→Shared→Prop} {a:Addr} {xs:List Int} (hh:A.handled=none) (SI:SetI s.heap a (ledOf w) xs)
    (h:∀ (h':Heap) (tk:Nat) (d:Drawn) (vs:List Value) (ys:List Int),(∀ b o,s.heap.get? b=some o→h'.get? b=some o)→s.heap.objs.size < h'.objs.size→IntsAre vs ys→ys.Perm xs→R vs { s with heap:=h',toks:=tk,drawn:=d }) :
    wpAny (model prog w) A (collect (.ref a)) R E s:=by
  obtain ⟨o,es,ep,t,go,gx,gd,T,gl,gb,gg,gv,gn⟩:=id SI
  have hlt:a < s.heap.objs.size:=Heap.lt_size go
  unfold collect
  refine wpAny_bind (wpAny_runValue (codeAny_builtin entry_proto_collect' ?_))
  rw [Around.under_plainId PySem.F.plain_proto_collect _]
  show wpAny _ A.in1 (newList [] >>= fun l=>again (.builtin "list.__iadd__" ⟨[l,.ref a],[]⟩)) _ _ s
  refine wpAny_bind (wpAny_newObj_type ?_)
  refine wpAny_pure ⟨plainId_quiet PySem.F.plain_list_iadd _,codeAny_builtin entry_list_iadd' ?_⟩
  rw [Around.under_plainId PySem.F.plain_list_iadd _]
  have hS₁:(s.heap.push { cls:=.type "list", data:=.seq ([]:List Value).toArray }).get? s.heap.objs.size=some { cls:=.type "list", data:=.seq #[] }:=Heap.get?_push_size _ rfl
  show wpAny _ A.in1 (Builtin.List.listExtendWith (.ref s.heap.objs.size) (.ref a) (.ref s.heap.objs.size)) _ _ _
  have key:=extend_set (prog:=prog) (A:=A) (s:={ s with heap:=s.heap.push { cls:=.type "list", data:=.seq ([]:List Value).toArray } })
    (R:=fun (q:Result) (s':Shared)=>∃ (h':Heap) (tk:Nat) (d:Drawn) (acc':Array Value) (c':Nat),q=.ok (.ret (.ref s.heap.objs.size))∧s'={ s with heap:=h',toks:=tk,drawn:=d } ∧
      (∀ b o,s.heap.get? b=some o→h'.get? b=some o)∧h'.get? s.heap.objs.size=some { cls:=.type "list", dict:=none,data:=.seq acc' c',slots:=#[] }∧∃ ys,IntsAre acc'.toList ys∧ys.Perm xs)
    hh (SI.at fun o e=>Heap.get?_push_of_some _ e) s.heap.objs.size (Nat.ne_of_gt hlt) (.ref s.heap.objs.size) 0 hS₁
    (fun h' tk d acc' c' hk hS' hacc=>⟨h',tk,d,acc',c',rfl,rfl,fun b o e=>hk b o (Nat.ne_of_lt (Heap.lt_size e)) (Heap.get?_push_of_some _ e),hS',hacc⟩)
  refine wpAny_mono key (fun fin s' x=>?_) fun e s' x=>?_
  · cases fin with
    | done f =>
      obtain ⟨h',tk,d,acc',c',e,rfl,hk,hS',ys,y1,y2⟩:=x
      cases e
      show wpAny _ A (load s.heap.objs.size >>= _) _ _ _
      refine wpAny_bind (wpAny_load hS' ?_)
      exact wpAny_pure (h h' tk d _ ys hk (Heap.lt_size hS') y1 y2)
    | again c₁ =>
      refine ⟨x.1,codeAny_mono x.2 fun q s₂ y=>?_⟩
      obtain ⟨h',tk,d,acc',c',rfl,rfl,hk,hS',ys,y1,y2⟩:=y
      show wpAny _ A (load s.heap.objs.size >>= _) _ _ _
      refine wpAny_bind (wpAny_load hS' ?_)
      exact wpAny_pure (h h' tk d _ ys hk (Heap.lt_size hS') y1 y2)
  · obtain ⟨_,_,_,_,_,e',_⟩:=x
    cases e'
theorem sorted_set {a:Addr} {xs:List Int} {Q:Value→Shared→Prop} (hh:A.handled=none) (SI:SetI s.heap a (ledOf w) xs) (h64:xs.length < 64)
    (h:∀ (D:Addr) (h':Heap) (tk:Nat) (d:Drawn) (vs:List Value) (ys:List Int) (n:Nat),(∀ b o,s.heap.get? b=some o→h'.get? b=some o)→s.heap.objs.size≤D→h'.get? D=some (seqObj "list" vs.toArray n)→IntsAre vs ys→ys.Perm xs→ys.Pairwise (·≤·)→Q (.ref D) { s with heap:=h',toks:=tk,drawn:=d }) :
    wpAny (model prog w) A (call (.builtin "sorted") [.ref a]) Q E s:=by
  refine Calls.call_function_entry kind_sorted plain_sorted entry_sorted (args_sorted1 _) ?_
  unfold Builtin.«sorted»
  refine wpAny_bind (m:=checkCount "sorted" 1 1 _) (wpAny_pure ?_)
  refine wpAny_bind (collect_set (A:=A.in1) hh SI fun h1 tk d vs ys hk hz y1 y2=>?_)
  have hlen:vs.length=xs.length:=by rw [IntsAre.length y1,y2.length_eq]
  refine wpAny_bind (wpAny_newList ?_ (Nat.le_trans (by rw [hlen];exact Nat.le_of_lt h64) (by decide)))
  have hoL:(h1.push (seqObj "list" vs.toArray 0)).get? h1.objs.size=some (seqObj "list" vs.toArray 0):=Heap.get?_push_size _ rfl
  refine wpAny_bind (wpAny_holding (wpAny_call_entry slot_list_sort ⟨_,hoL,rfl⟩ entry_list_sort (list_sort_tree hoL y1 (by rw [hlen];exact h64) fun out ns' a1 a2 a3=>⟨_,rfl,?_⟩) (args_list_sort _)))
  obtain ⟨n,hn⟩:=sortedHeap_at (vs:=vs) (out:=out) hoL
  refine wpAny_pure ⟨_,rfl,h h1.objs.size _ tk d out.toList ns' n (fun b o e=>?_) ?_ ?_ a1 (a2.trans y2) a3⟩
  · have e1:=hk b o e
    rw [sortedHeap_old (Nat.ne_of_lt (Heap.lt_size e1)) (by rw [Heap.size_push];exact Nat.lt_succ_of_lt (Heap.lt_size e1))]
    exact Heap.get?_push_of_some _ e1
  · exact Nat.le_of_lt hz
  · rw [Array.toArray_toList];exact hn
end
end Hk
set_option maxRecDepth 100000
namespace L2
open PySem PySem.Spec PyProof.Rows
noncomputable def closL (names:List (Str×NameKind)) (cells:List (Str×Addr)) (cs:List (Str×Addr)):List (Str×Addr) :=
  match names with
  | []=>cs
  | p::r=>closL r cells (if p.2 == .free then (p.1,(cells.lookup p.1).getD 0)::cs else cs)
theorem closureFor_is {scope:Scope} {env:Env} (h:∀ p∈scope.names,p.2=NameKind.free→(env.cells.lookup p.1).isSome=true) :
    closureFor scope env=pure (closL scope.names env.cells []):=by
  simp only [closureFor]
  generalize scope.names=l at h ⊢
  have key:∀ (l:List (Str×NameKind)) (cs:List (Str×Addr)),(∀ p∈l,p.2=NameKind.free→(env.cells.lookup p.1).isSome=true) →
      (forIn l cs (fun (p:Str×NameKind) (r:List (Str×Addr))=>if (p.2 == NameKind.free)=true then (do let a ←cellOf env p.1;pure (ForInStep.yield ((p.1,a)::r))) else pure (ForInStep.yield r)):Sem _)=pure (closL l env.cells cs):=by
    intro l
    induction l with
    | nil=>intro cs _;rfl
    | cons p r ih =>
      intro cs hp
      rw [List.forIn_cons]
      have hr:=fun q hq=>hp q (List.mem_cons_of_mem _ hq)
      by_cases hf:p.2=NameKind.free
      · have hs:=hp p List.mem_cons_self hf
        obtain ⟨a,ha⟩:=Option.isSome_iff_exists.mp hs
        have e:cellOf env p.1=pure a:=by unfold cellOf;rw [ha]
        have hb:(p.2 == NameKind.free)=true:=by rw [hf];rfl
        rw [if_pos hb,e,pure_bind,pure_bind]
        show forIn r _ _=_
        rw [ih _ hr]
        show _=pure (closL r env.cells (if p.2 == .free then _ else _))
        rw [if_pos hb,ha];rfl
      · have hb:¬(p.2 == NameKind.free)=true:=by intro z;exact hf (by cases hk:p.2 <;> simp_all)
        rw [if_neg hb,pure_bind]
        show forIn r _ _=_
        rw [ih _ hr]
        show _=pure (closL r env.cells (if p.2 == .free then _ else _))
        rw [if_neg hb]
  rw [key l [] h]
  rfl
theorem free_eq {k:NameKind} (h:(k == NameKind.free)=true):k=NameKind.free:=by cases k <;> first|rfl|cases h
theorem closL_sub {cells:List (Str×Addr)}:∀ (l:List (Str×NameKind)) (cs:List (Str×Addr)),(∀ p∈l,p.2=NameKind.free→(cells.lookup p.1).isSome=true) →
    (∀ x c,cs.lookup x=some c→cells.lookup x=some c)→∀ x c,(closL l cells cs).lookup x=some c→cells.lookup x=some c
  | [],cs,_,h,x,c,e=>h x c e
  | p::r,cs,hp,h,x,c,e=>by
    refine closL_sub r _ (fun q hq=>hp q (List.mem_cons_of_mem _ hq)) (fun y d hy=>?_) x c e
    by_cases hb:(p.2 == NameKind.free)=true
    · rw [if_pos hb,List.lookup_cons] at hy
      cases hyp:y == p.1 with
      | true =>
        rw [hyp] at hy
        have hy':(cells.lookup p.1).getD 0=d:=Option.some.inj hy
        obtain ⟨a,ha⟩:=Option.isSome_iff_exists.mp (hp p List.mem_cons_self (free_eq hb))
        rw [ha] at hy'
        rw [eq_of_beq hyp,ha,←hy'];rfl
      | false=>rw [hyp] at hy;exact h y d hy
    · rw [if_neg hb] at hy;exact h y d hy
theorem closL_has {cells:List (Str×Addr)}:∀ (l:List (Str×NameKind)) (cs:List (Str×Addr)) (x:Str),((x,NameKind.free)∈l∨(cs.lookup x).isSome=true)→((closL l cells cs).lookup x).isSome=true
  | [],cs,x,h=>by
    rcases h with h|h
    · cases h
    · exact h
  | p::r,cs,x,h=>by
    refine closL_has r _ x ?_
    rcases h with h|h
    · rcases List.mem_cons.mp h with rfl|h
      · right
        show (List.lookup x (if (NameKind.free == NameKind.free)=true then _ else _)).isSome=true
        rw [if_pos (by rfl),List.lookup_cons,beq_self_eq_true]
        rfl
      · exact .inl h
    · right
      by_cases hb:(p.2 == NameKind.free)=true
      · rw [if_pos hb,List.lookup_cons]
        cases hx:x == p.1 with
        | true=>rfl
        | false=>exact h
      · rw [if_neg hb];exact h
noncomputable def cxIn (X:Cx) (N:List Str) (scope:Scope) (C:Addr) (s:Shared) (H:Hp) (fp:List Addr):Cx :=
  { X with N:=N,s₀:=s,H₀:=H,env:=compEnvC scope (closL scope.names X.env.cells []) C X.env,outer:=X.stack,stack:=X.stack,ex:=fp,fn:=fun _=>false,pn:=[],xe:=fun _ _=>False }
noncomputable def sgIn (M:Nat) (frees:List Nat) (σ:St):St:=List.replicate M none++frees.map fun j=>(σ[j]?).getD none
structure BlkOk (X:Cx) (N:List Str) (M:Nat) (frees:List Nat) (scope:Scope):Prop where
  kind:scope.kind=.function
  nocell:∀ y∈scope.names,y.2≠.cell
  own:∀ y∈scope.names,y.2=.local→scope.names.lookup y.1=some .local
  cells:∀ p∈scope.names,p.2=NameKind.free→(X.env.cells.lookup p.1).isSome=true
  fr:∀ (k:Nat) (x:Str),N[M+k]?=some x→∃ j,frees[k]?=some j∧X.N[j]?=some x∧(X.env.kindOf x=some .cell∨X.env.kindOf x=some .free)∧scope.names.lookup x=some .free
  len:N.length=M+frees.length
theorem relabel_free {env:Env} {x:Str}:∀ {names:List (Str×NameKind)} {k:NameKind},(∀ y∈names,y.2≠.cell)→(k=.cell∨k=.free) →
    (names.map fun (n,k)=>if (k == NameKind.free && env.scope.kind == .function && env.kindOf n == some .cell) then (n,NameKind.cell) else (n,k)).lookup x=some k→(x,NameKind.free)∈names
  | [],_,_,_,h=>by cases h
  | (n,k0)::r,k,hc,hk,h=>by
    have ih:=@relabel_free env x r k (fun y hy=>hc y (List.mem_cons_of_mem _ hy)) hk
    rw [List.map_cons] at h
    by_cases hb:(k0 == NameKind.free && env.scope.kind == .function && env.kindOf n == some .cell)=true
    · have hf:k0=NameKind.free:=free_eq (by rw [Bool.and_eq_true,Bool.and_eq_true] at hb;exact hb.1.1)
      dsimp only at h
      rw [if_pos hb,List.lookup_cons] at h
      cases hx:x == n with
      | true=>rw [eq_of_beq hx,hf];exact List.mem_cons_self
      | false=>rw [hx] at h;exact List.mem_cons_of_mem _ (ih h)
    · dsimp only at h
      rw [if_neg hb,List.lookup_cons] at h
      cases hx:x == n with
      | true =>
        rw [hx] at h
        have e:k0=k:=Option.some.inj h
        have z:=hc (n,k0) List.mem_cons_self
        rw [eq_of_beq hx]
        rcases hk with rfl|rfl
        · exact absurd e z
        · rw [e];exact List.mem_cons_self
      | false=>rw [hx] at h;exact List.mem_cons_of_mem _ (ih h)
theorem relabel_look {env:Env} {x:Str}:∀ {names:List (Str×NameKind)},names.lookup x=some .free →
    (names.map fun (n,k)=>if (k == NameKind.free && env.scope.kind == .function && env.kindOf n == some .cell) then (n,NameKind.cell) else (n,k)).lookup x=some .cell ∨
    (names.map fun (n,k)=>if (k == NameKind.free && env.scope.kind == .function && env.kindOf n == some .cell) then (n,NameKind.cell) else (n,k)).lookup x=some .free
  | [],h=>by cases h
  | (n,k0)::r,h=>by
    have ih:=@relabel_look env x r
    rw [List.map_cons]
    dsimp only
    rw [List.lookup_cons] at h
    by_cases hb:(k0 == NameKind.free && env.scope.kind == .function && env.kindOf n == some .cell)=true
    · rw [if_pos hb,List.lookup_cons]
      cases hx:x == n with
      | true=>exact .inl rfl
      | false=>rw [hx] at h;exact ih h
    · rw [if_neg hb,List.lookup_cons]
      cases hx:x == n with
      | true=>rw [hx] at h;exact .inr h
      | false=>rw [hx] at h;exact ih h
section
variable {X:Cx} {pins:List (Addr×Obj)} {σ:St} {H:Hp} {s:Shared} {N:List Str} {M:Nat} {frees:List Nat} {scope:Scope} {fp:List Addr}
theorem Inv.enter {h1:Heap} {C D tk:Nat} {m1:Str→Option Value} (I:Inv X pins σ H s) (B:BlkOk X N M frees scope) (f:∀ b∈fp,FpOk X pins H b) (lt:∀ b∈fp,b < s.heap.objs.size)
    (hC:s.heap.objs.size < C) (hD:s.heap.objs.size≤D) (hDC:C≠D) (k:∀ b u,s.heap.get? b=some u→h1.get? b=some u) (hns:h1.Ns C m1)
    (hl:h1.get? D=some { cls:=.type "list", data:=.seq ([]:List Value).toArray }) :
    Inv (cxIn X N scope C s H fp) [] (sgIn M frees σ) (upd H D (.lst [])) { s with heap:=h1,toks:=tk }:=by
  have sub:=closL_sub (cells:=X.env.cells) scope.names [] B.cells (fun x c e=>by cases e)
  have hfr:H D=none:=I.hok.fresh hD
  have hfc:H C=none:=I.hok.fresh (Nat.le_of_lt hC)
  have clt:∀ x c,(closL scope.names X.env.cells []).lookup x=some c→c < s.heap.objs.size:=fun x c e=>by
    obtain ⟨v,q⟩:=I.cell x c (sub x c e)
    exact q.lt
  refine ⟨⟨I.ok.mod,B.kind,I.ok.glob,I.ok.blt,Nat.le_of_lt hC,fun x y c e1 e2=>I.ok.inj x y c (sub x c e1) (sub y c e2),fun x hx=>?_,fun x c e=>absurd e (by intro z;cases z),I.ok.hd,I.ok.frames,.inl rfl,fun b hb=>?_,I.bs,Nat.le_trans I.ok.bsz I.sz,fun b o e hb=>?_,
    fun b hb hf=>?_,I.stack,I.stkFree⟩,rfl,I.bare,Un.laid k hD hfr,⟨m1,hns,fun i x v e1 e2 e3=>?_⟩,fun x c e=>?_,?_,fun x c e=>?_,fun p hp=>absurd (show p∈([]:List (Addr×Obj)) from hp) (by simp),I.hok.laid k hD ⟨Nat.zero_le _,[],0,.nil,hl⟩,?_⟩
  · have hm:(x,NameKind.free)∈scope.names:=by
      rcases hx with hx|hx
      · exact relabel_free B.nocell (.inl rfl) hx
      · exact relabel_free B.nocell (.inr rfl) hx
    exact Option.isSome_iff_exists.mp (closL_has scope.names [] x (.inl hm))
  · exact ⟨Nat.ne_of_lt (Nat.lt_trans (lt b hb) hC),fun x c e=>(f b hb).2.2.2.2.1 x c (sub x c e)⟩
  · rcases (f b hb).2.2.2.1 with z|z
    · exact I.ok.noex b o e z
    · exact absurd (Nat.lt_of_lt_of_le (Heap.lt_size e) (Nat.le_trans I.ok.bsz z)) (Nat.lt_irrefl _)
  · rcases List.mem_cons.mp (I.stkSub b hf) with z|z
    · exact (f b hb).2.1 z
    · exact (f b hb).2.2.1 z
  · have hi:M≤i:=by
      rcases Nat.lt_or_ge i M with z|z
      · unfold sgIn at e2
        rw [List.getElem?_append_left (by simpa using z),List.getElem?_replicate,if_pos z] at e2
        cases e2
      · exact z
    obtain ⟨q,rfl⟩:∃ q,i=M+q:=⟨i - M,by omega⟩
    obtain ⟨j,h1',h2',h3',h4'⟩:=B.fr q x e1
    have ev:σ[j]?=some (some v):=by
      unfold sgIn at e2
      rw [List.getElem?_append_right (by simp),List.length_replicate,Nat.add_sub_cancel_left,List.getElem?_map,h1'] at e2
      cases e:σ[j]? with
      | none=>rw [Option.map_some,e] at e2;cases e2
      | some o=>rw [Option.map_some,e] at e2;exact e2
    obtain ⟨m,hn,hl'⟩:=I.loc
    have vis:Vis X.env.scope x:=by
      rcases h3' with z|z
      · exact .inr (.inl z)
      · exact .inr (.inr z)
    obtain ⟨u,ru,lk⟩:=hl' j x v h2' ev vis
    refine ⟨u,ru,.inr ?_⟩
    rcases lk with ⟨z,_⟩|⟨_,c,ec,ic⟩
    · rcases h3' with y|y <;> (rw [z] at y;cases y)
    · obtain ⟨c',ec'⟩:=Option.isSome_iff_exists.mp (closL_has (cells:=X.env.cells) scope.names [] x (.inl (PySem.mem_of_lookup h4')))
      have:c'=c:=Option.some.inj ((sub x c' ec').symm.trans ec)
      subst this
      exact ⟨relabel_look h4',c',ec',ic.keeps k⟩
  · obtain ⟨v,q⟩:=I.cell x c (sub x c e)
    exact ⟨v,q.keeps k⟩
  · show upd H D (.lst []) C=none
    rw [upd_ne hDC];exact hfc
  · show upd H D (.lst []) c=none
    rw [upd_ne (Nat.ne_of_lt (Nat.lt_of_lt_of_le (clt x c e) hD))]
    exact I.freeC x c (sub x c e)
  · show (sgIn M frees σ).length=N.length
    unfold sgIn
    rw [List.length_append,List.length_replicate,List.length_map,B.len]
end
end L2
namespace L2
open PySem PySem.Spec PyProof.Rows
section
variable {prog:Program} {w:World} {A:Around} {R:Result→Shared→Prop} {s:Shared}
theorem compLoop_by {elt target iter:Expr} {ifs:List Expr} {scope:Scope} {pos:Pos} {it acc:Value} {env:Env} (J:Nat→Shared→Prop)
    (turn:∀ n s,J n s→wpAny (model prog w) A (pyNext it) (fun r s1=>match r with
      | none=>R (.ok .next) s1
      | some v=>wpAny (model prog w) A (letOwnedTupleGo target it v) (fun _ s2=>wpAny (model prog w) A (assign target env v) (fun _ s3 =>
          wpAny (model prog w) A (forIn ifs true fun c r=>if r=true then do let ok ←isTrue c env (eval c env);pure (ForInStep.yield ok) else pure (ForInStep.yield r)) (fun ok s4 =>
            if ok=true then wpAny (model prog w) A (eval elt env) (fun x s5=>wpAny (model prog w) A (call (.builtin "list.append") [acc,x]) (fun _ s6=>∃ m,m < n∧J m s6) (fun _ _=>False) s5) (fun _ _=>False) s4
            else ∃ m,m < n∧J m s4) (fun _ _=>False) s3) (fun _ _=>False) s2) (fun _ _=>False) s1) (fun _ _=>False) s)
    (n:Nat) (h:J n s):codeAny (model prog w) A (.compLoop (.ListComp elt [⟨target,iter,ifs,0⟩] scope pos) 0 it acc env) R s:=by
  refine codeAny_loop rfl J (fun n s hJ=>?_) n h
  show wpAny _ A ((compTurn (.ListComp elt [⟨target,iter,ifs,0⟩] scope pos) 0 it acc env).onRaise (fun x=>do noteFrame x env;theTreesLotGoes x)) _ _ s
  refine wpAny_noted (wpAny_mono (Q:=fun fin s'=>match fin with|.done f=>R (.ok f) s'|.again c'=>c'=.compLoop (.ListComp elt [⟨target,iter,ifs,0⟩] scope pos) 0 it acc env∧∃ m,m < n∧J m s') ?_ (fun _ _ q=>q) fun _ _ (z:False)=>z.elim)
  rw [compTurn_list]
  refine wpAny_bind (wpAny_standAt (wpAny_bind (wpAny_mono (turn n s hJ) (fun r s1 h1=>?_) fun _ _ q=>q)))
  cases r with
  | none=>exact wpAny_pure h1
  | some v =>
    refine wpAny_bind (wpAny_mono h1 (fun _ s2 h2=>wpAny_bind (wpAny_mono h2 (fun _ s3 h3=>wpAny_bind (wpAny_mono h3 (fun ok s4 h4=>?_) fun _ _ q=>q)) fun _ _ q=>q)) fun _ _ q=>q)
    cases ok with
    | false=>exact wpAny_pure ⟨rfl,h4⟩
    | true=>exact wpAny_bind (wpAny_bind (wpAny_mono h4 (fun x s5 h5=>wpAny_bind (wpAny_mono h5 (fun _ s6 h6=>wpAny_pure (wpAny_pure ⟨rfl,h6⟩)) fun _ _ q=>q)) fun _ _ q=>q))
end
def PTs (X:Cx) (ifs:List Expr) (t:TT):Prop :=
  ∀ (pins:List (Addr×Obj)) (s:Shared) (σ:St) (H:Hp) (Q:Bool→Hp→Prop),Inv X pins σ H s→t σ H Q →
    wpAny (model X.prog X.w) X.A (forIn ifs true fun c r=>if r=true then do let ok ←isTrue c X.env (eval c X.env);pure (ForInStep.yield ok) else pure (ForInStep.yield r)) (TP X pins σ Q) X.xe s
theorem pts_nil {X:Cx}:PTs X [] (fun _ H Q=>Q true H):=fun _ _ _ H _ I q=>wpAny_tests_nil ⟨H,I,q⟩
theorem pts_one {X:Cx} {c:Expr} {t:TT} (h:PT X c t):PTs X [c] t:=fun pins s σ H Q I q=>wpAny_tests_one (h pins s σ H Q I q)
noncomputable def tComp (M:Nat) (frees:List Nat) (wi:TI) (g:TG) (tc:TT) (te:TE):TE:=fun σ H Q=>wi σ H fun J H1=>∀ D,H1 D=none →
  ∃ W:Nat→Nat→St→Hp→Prop,(∃ m,W 0 m (sgIn M frees σ) (upd H1 D (.lst [])))∧∀ i m σ' H',W i m σ' H' →
    (J.stop i H'∧Q (.ref D) H')∨(J.go i H'∧∀ x H2,J.yld i H' x H2→g x σ' H2 fun σ2 H3=>tc σ2 H3 fun b H4 =>
      if b=true then te σ2 H4 fun v H5=>∃ acc,H5 D=some (.lst acc)∧acc.length < sizeLine∧∃ m',m' < m∧W (i+1) m' σ2 (upd H5 D (.lst (acc++[v])))
      else ∃ m',m' < m∧W (i+1) m' σ2 H4)
section
variable {X:Cx} {N:List Str} {M:Nat} {frees:List Nat} {scope:Scope} {tg iter elt:Expr} {ifs:List Expr} {pos:Pos} {wi:TI} {g:TG} {tc:TT} {te:TE}
theorem comp_blk (hc:X.calm=true) (B:BlkOk X N M frees scope)
    (hb:∀ C s H fp,PG (cxIn X N scope C s H fp) tg g∧PTs (cxIn X N scope C s H fp) ifs tc∧PE (cxIn X N scope C s H fp) elt te)
    {pins:List (Addr×Obj)} {σ:St} {Q:VK} {s2:Shared} {itv:Value} {E:Value→Shared→Prop} {RR:Value→Addr→Result→Shared→Prop}
    (h2:PIE X pins σ tg (fun J H1=>∀ D,H1 D=none →
      ∃ W:Nat→Nat→St→Hp→Prop,(∃ m,W 0 m (sgIn M frees σ) (upd H1 D (.lst [])))∧∀ i m σ' H',W i m σ' H' →
        (J.stop i H'∧Q (.ref D) H')∨(J.go i H'∧∀ x H2,J.yld i H' x H2→g x σ' H2 fun σ2 H3=>tc σ2 H3 fun b H4 =>
          if b=true then te σ2 H4 fun v H5=>∃ acc,H5 D=some (.lst acc)∧acc.length < sizeLine∧∃ m',m' < m∧W (i+1) m' σ2 (upd H5 D (.lst (acc++[v])))
          else ∃ m',m' < m∧W (i+1) m' σ2 H4)) itv s2)
    (hR:∀ D C s' H' m,Inv X pins σ H' s'→Q (.ref D) H'→s'.heap.Ns C m→H' C=none→C≠X.env.locals→X.s₀.heap.objs.size≤C→(∀ x c,X.env.cells.lookup x=some c→c≠C)→(∀ p∈X.pn++pins,p.1≠C)→RR (.ref D) C (.ok .next) s') :
    wpAny (model X.prog X.w) X.A (newList []) (fun acc s3=>wpAny (model X.prog X.w) X.A (newFunctionEnv scope X.env.globals (closL scope.names X.env.cells []) [] X.env.qual none .none (some X.env)) (fun cenv s4 =>
      codeAny (model X.prog X.w) X.A (.compStart (.ListComp elt [⟨tg,iter,ifs,0⟩] scope pos) 0 itv acc { cenv with scope:=relabel scope X.env }) (RR acc cenv.locals) s4) E s3) E s2:=by
  obtain ⟨it,fp,tn,J,H2,e,I2,T,st2,f2,q⟩:=h2
  subst e
  refine wpAny_newObj_type (wpAny_newFunctionEnv B.nocell (by intro y hy;simp at hy) (fun h1 hns hsb=>?_) B.kind)
  dsimp only at hns hsb ⊢
  generalize hP:s2.heap.push { cls:=.type "list", dict:=none,data:=.seq ([]:List Value).toArray }=P1 at hns hsb ⊢
  have hsz:P1.objs.size=s2.heap.objs.size+1:=by rw [←hP,Heap.size_push]
  have below:∀ b,b < s2.heap.objs.size→b≠P1.objs.size:=fun b z=>by rw [hsz];exact Nat.ne_of_lt (Nat.lt_succ_of_lt z)
  have keep:∀ b u,s2.heap.get? b=some u→h1.get? b=some u:=fun b u z=>hsb.extBut b u (below b (Heap.lt_size z)) (Heap.get?_push_of_some _ (hP▸Heap.get?_push_of_some _ z))
  have hne:s2.heap.objs.size≠P1.objs.size:=by rw [hsz];exact Nat.ne_of_lt (Nat.lt_succ_self _)
  have hl:h1.get? s2.heap.objs.size=some { cls:=.type "list", data:=.seq ([]:List Value).toArray }:=hsb.extBut _ _ hne (Heap.get?_push_of_some _ (hP▸Heap.get?_push_size _ rfl))
  have lt2:∀ b∈fp,b < s2.heap.objs.size:=fun b z=>by
    obtain ⟨o,eo,_⟩:=T.obj _ _ st2 b z
    exact Heap.lt_size eo
  have hD0:H2 s2.heap.objs.size=none:=I2.hok.fresh (Nat.le_refl _)
  obtain ⟨W,⟨m0,w0⟩,turn⟩:=q s2.heap.objs.size hD0
  have I4:=I2.enter (N:=N) (M:=M) (frees:=frees) (scope:=scope) (fp:=fp) (h1:=h1) (C:=P1.objs.size) (D:=s2.heap.objs.size) (tk:=s2.toks+([]:List (Str×Value)).length) B f2 lt2 (by rw [hsz];exact Nat.lt_succ_self _) (Nat.le_refl _) (Ne.symm hne) keep hns hl
  have hcx:∀ (C:Addr),(cxIn X N scope C s2 H2 fp).calm=true:=fun _=>hc
  have stat:∀ {H':Hp},(∀ b∈fp,H' b=none)→∀ b∈fp,FpOk (cxIn X N scope P1.objs.size s2 H2 fp) [] H' b:=fun {H'} hn b z=>by
    refine ⟨hn b z,below b (lt2 b z),fun y=>?_,.inl z,fun x c y=>?_,fun p y=>absurd (show p∈([]:List (Addr×Obj)) from y) (by simp)⟩
    · rcases List.mem_cons.mp (I2.stkSub b y) with u|u
      · exact (f2 b z).2.1 u
      · exact (f2 b z).2.2.1 u
    · exact (f2 b z).2.2.2.2.1 x c (closL_sub (cells:=X.env.cells) scope.names [] B.cells (fun x c e=>by cases e) x c y)
  have fr4:∀ b∈fp,(upd H2 s2.heap.objs.size (HO.lst [])) b=none:=fun b z=>by
    rw [upd_ne (Nat.ne_of_lt (lt2 b z))];exact (f2 b z).1
  have st4:tn 0 h1:=T.keep _ _ _ st2 fun b _ o z=>keep b o z
  have fin:∀ (s':Shared) (σ':St) (H':Hp),Inv (cxIn X N scope P1.objs.size s2 H2 fp) [] σ' H' s'→Q (.ref s2.heap.objs.size) H'→RR (.ref s2.heap.objs.size) P1.objs.size (.ok .next) s':=fun s' σ' H' I' q'=>by
    obtain ⟨m,hm,_⟩:=I'.loc
    have u':Un (frs X.stack) fp H2 H' s2.heap s'.heap:=I'.base
    have I0:Inv X pins σ H' s':=I2.call' (ch:=fp) I'.os u' I'.hok I'.bare fun b z=>⟨(f2 b z).2.2.2.1,(f2 b z).2.1,(f2 b z).2.2.2.2.1,(f2 b z).2.2.2.2.2⟩
    refine hR _ _ s' H' m I0 q' hm I'.free (Nat.ne_of_gt (Nat.lt_of_lt_of_le I2.lt (by rw [hsz];exact Nat.le_succ _))) (Nat.le_trans I2.sz (by rw [hsz];exact Nat.le_succ _)) (fun x c z=>?_) fun p z=>?_
    · obtain ⟨v,y⟩:=I2.cell x c z
      exact below c y.lt
    · exact below p.1 (Heap.lt_size (I2.pin p z).1)
  have loop:∀ s4:Shared,s4={ s2 with heap:=h1,toks:=s2.toks+([]:List (Str×Value)).length } →
      codeAny (model X.prog X.w) X.A (.compLoop (.ListComp elt [⟨tg,iter,ifs,0⟩] scope pos) 0 (.ref it) (.ref s2.heap.objs.size) (compEnvC scope (closL scope.names X.env.cells []) P1.objs.size X.env)) (RR (.ref s2.heap.objs.size) P1.objs.size) s4:=by
    rintro s4 rfl
    refine compLoop_by (fun n s'=>∃ i σ' H',Inv (cxIn X N scope P1.objs.size s2 H2 fp) [] σ' H' s'∧tn i s'.heap∧(∀ b∈fp,H' b=none)∧W i n σ' H') ?_ m0 ⟨0,_,_,I4,st4,fr4,w0⟩
    rintro n s5 ⟨i,σ5,H5,I5,st5,fr5,w5⟩
    rcases turn i n σ5 H5 w5 with ⟨stop,qn⟩|⟨go,step⟩
    · refine thn (T.done (cxIn X N scope P1.objs.size s2 H2 fp) rfl rfl rfl hc i [] s5 σ5 H5 _ I5 (stat fr5) st5 stop) fun r s6 ⟨hr,I6⟩=>?_
      subst hr
      exact fin s6 σ5 H5 I6 qn
    · refine thn (T.item (cxIn X N scope P1.objs.size s2 H2 fp) rfl rfl rfl hc i [] s5 σ5 H5 _ I5 (stat fr5) st5 go) fun r s6 ⟨u,hr,h6⟩=>?_
      subst hr
      refine thn h6 fun _ s7 ⟨x,H7,I7,r7,y7,st7,fr7⟩=>?_
      have I7':=I7.pinned (stat fr7) (T.obj _ _ st7)
      have B7:=hb P1.objs.size s2 H2 fp
      refine thn (B7.1 _ s7 σ5 H7 x u _ I7' r7 (step x H7 y7)) fun _ s8 ⟨σ8,H8,I8,q8⟩=>?_
      refine thn (B7.2.1 _ s8 σ8 H8 _ I8 q8) fun ok s9 ⟨H9,I9,q9⟩=>?_
      have again:∀ {σa:St} {Ha:Hp} {sa:Shared},Inv (cxIn X N scope P1.objs.size s2 H2 fp) ([]++pinsAt fp s7.heap) σa Ha sa→(∃ m',m' < n∧W (i+1) m' σa Ha) →
          ∃ m,m < n∧∃ i σ' H',Inv (cxIn X N scope P1.objs.size s2 H2 fp) [] σ' H' sa∧tn i sa.heap∧(∀ b∈fp,H' b=none)∧W i m σ' H':=fun {σa Ha sa} Ia ⟨m',hm,wa⟩=>by
        refine ⟨m',hm,i+1,σa,Ha,Ia.unpinned,T.keep _ _ _ st7 fun b z o eo=>(Ia.pin (b,o) (List.mem_append_right _ (List.mem_append_right _ (mem_pinsAt z eo)))).1,fun b z=>?_,wa⟩
        obtain ⟨o,eo,d⟩:=T.obj _ _ st7 b z
        exact (Ia.pin (b,o) (List.mem_append_right _ (List.mem_append_right _ (mem_pinsAt z eo)))).2.1
      cases ok with
      | false=>exact again I9 q9
      | true =>
        rw [if_pos rfl]
        refine thn (B7.2.2 _ s9 σ8 H9 _ I9 q9) fun y s10 ⟨v,H10,I10,r10,acc,ha,hz,m',hm,wn⟩=>?_
        refine thn (mt_append (X:=cxIn X N scope P1.objs.size s2 H2 fp) _ s10 σ8 H10 (.ref s2.heap.objs.size) [v] (.ref s2.heap.objs.size) [y] (fun _ Hn=>∃ m',m' < n∧W (i+1) m' σ8 Hn) I10 rfl (.cons r10 .nil) ⟨_,acc,v,rfl,rfl,ha,hz,m',hm,wn⟩) fun _ s11 ⟨_,H11,I11,_,q11⟩=>?_
        exact again I11 q11
  exact codeAny_compStart_list (loop _ rfl) (T.self _ 0 _ _ _ st4 (loop _ rfl))
theorem pe_comp (hc:X.calm=true) (B:BlkOk X N M frees scope) (hi:PI X tg iter wi)
    (hb:∀ C s H fp,PG (cxIn X N scope C s H fp) tg g∧PTs (cxIn X N scope C s H fp) ifs tc∧PE (cxIn X N scope C s H fp) elt te)
    (hs:∀ x,foldedSetIterable iter X.env x=pure x:=by intro _;rfl):PE X (.ListComp elt [⟨tg,iter,ifs,0⟩] scope pos) (tComp M frees wi g tc te):=by
  intro pins s σ H Q I h
  rw [eval_ListComp]
  refine wpAny_comprehension_free (use:=none) rfl hs (closureFor_is B.cells) B.kind B.own (wpAny_mono (hi pins s σ H _ I h) (fun v s1 h1=>wpAny_mono h1 (fun itv s2 h2=>?_) fun _ _ q=>q) fun _ _ q=>q)
  refine comp_blk (RR:=fun acc C=>compPost (model X.prog X.w) X.A X.xe none (EP X pins σ Q) acc C) hc B hb h2 fun D C s' H' m I' q' hm hC h1 h3 h4 h5=>?_
  exact ⟨m,hm,fun h' hs'=>⟨.ref D,H',I'.turned (t':=s'.toks) (fun b o z y=>hs'.extBut b o z y) hC h1 (.inr h3) h4 h5,rfl,q'⟩⟩
theorem ps_setc {i:Nat} {x:Str} {pos' spos:Pos} (hc:X.calm=true) (hN:X.N.Nodup) (hi':X.N[i]?=some x) (hx:X.env.scope.names.lookup x=some .local) (B:BlkOk X N M frees scope) (hi:PI X tg iter wi)
    (hb:∀ C s H fp,PG (cxIn X N scope C s H fp) tg g∧PTs (cxIn X N scope C s H fp) ifs tc∧PE (cxIn X N scope C s H fp) elt te)
    (hsw:swapsWith (.ListComp elt [⟨tg,iter,ifs,0⟩] scope pos) (some (.Name x pos')) spos.line X.env=pure true:=by rfl)
    (hs:∀ x,foldedSetIterable iter X.env x=pure x:=by intro _;rfl):PS X (.Assign [.Name x pos'] (.ListComp elt [⟨tg,iter,ifs,0⟩] scope pos) spos) (tAsg (tComp M frees wi g tc te) (gName i)):=by
  intro pins s σ H D I h
  rw [exec_Assign_Name_used _ _ _ _ hsw]
  refine wpAny_bind (wpAny_standAt (wpAny_bind ?_))
  show wpAny _ X.A (do let _ ←comprehension (.ListComp elt [⟨tg,iter,ifs,0⟩] scope pos) scope X.env _ (newList []) false (eval iter X.env) (some (assign (.Name x pos') X.env))) _ _ s
  refine wpAny_bind (wpAny_mono (wpAny_comprehension_free (use:=some (assign (.Name x pos') X.env)) (Q:=fun _ s'=>SP X pins D .next s') rfl hs (closureFor_is B.cells) B.kind B.own
    (wpAny_mono (hi pins s σ H _ I h) (fun v s1 h1=>wpAny_mono h1 (fun itv s2 h2=>?_) fun _ _ q=>q) fun _ _ q=>q)) (fun _ s' hq=>wpAny_pure (wpAny_pure hq)) fun _ _ q=>q)
  refine comp_blk (Q:=fun y H1=>gName i y σ H1 D.nx) (RR:=fun acc C=>compPost (model X.prog X.w) X.A X.xe (some (assign (.Name x pos') X.env)) (fun _ s'=>SP X pins D .next s') acc C) hc B hb h2 fun Dd C s' H' m I' q' hm hC h1 h3 h4 h5=>?_
  show wpAny _ X.A (assign (.Name x pos') X.env (.ref Dd)) _ _ _
  refine wpAny_assign_Name (store_ok2 I' hN hi' (.inl hx) (v:=.ref Dd) (u:=.ref Dd) rfl (fun s'' I'' ⟨a,hsb,ha⟩=>?_) (.inr hx))
  have hCa:C≠a:=by
    rcases ha with rfl|ha
    · exact h1
    · exact Ne.symm (h4 x a ha)
  refine ⟨m,hm.sameBut hsb hCa,fun h' hs'=>⟨_,H',I''.turned (t':=s''.toks) (fun b o z y=>hs'.extBut b o z y) hC h1 (.inr h3) h4 h5,q'⟩⟩
end
end L2
set_option maxRecDepth 100000
namespace Hk
open PySem L2
inductive D where
  | non|bl (b:Bool)|int (i:Int)|str (x:Str)|lst (xs:List D)|tup (xs:List D)|scr (ns:List Int)|exc (c:Str)|dic (ks:List Int) (xs:List D)
noncomputable def kvsOf:List Int→List V→List (Key×V)
  | k::ks,v::vs=>(.inl k,v)::kvsOf ks vs
  | _,_=>[]
def excP (a C:Addr) (h:Heap):Prop:=∃ o,h.get? a=some o∧o.cls=.ref C
mutual
def Rep (K:PySem.W.Frag) (H:Hp):D→V→Prop
  | .non,v=>v=.non
  | .bl b,v=>v=.bl b
  | .int i,v=>v=.int i
  | .str x,v=>v=.str x
  | .lst ds,v=>∃ a vs,v=.ref a∧H a=some (.lst vs)∧Reps K H ds vs
  | .tup ds,v=>∃ a vs,v=.ref a∧H a=some (.tup vs)∧Reps K H ds vs
  | .scr ns,v=>∃ a,v=.ref a∧SqL K H a (ns.map V.int)
  | .exc c,v=>∃ a C,v=.ref a∧PySem.W.nsIn K mainGlobals c=some (some (.ref C))∧H a=some (.ext (excP a C))
  | .dic ks ds,v=>∃ a vs,v=.ref a∧(∃ o,H a=some (.frz o (.dK (kvsOf ks vs))))∧ks.length=ds.length∧Reps K H ds vs
def Reps (K:PySem.W.Frag) (H:Hp):List D→List V→Prop
  | [],vs=>vs=[]
  | d::ds,vs=>∃ v r,vs=v::r∧Rep K H d v∧Reps K H ds r
end
mutual
theorem Rep.mono {K:PySem.W.Frag} {H H':Hp} (e:Same H H'):∀ {d:D} {v:V},Rep K H d v→Rep K H' d v
  | .non,_,h=>h
  | .bl _,_,h=>h
  | .int _,_,h=>h
  | .str _,_,h=>h
  | .lst _,_,⟨a,vs,h1,h2,h3⟩=>⟨a,vs,h1,e _ _ h2,Reps.mono e h3⟩
  | .tup _,_,⟨a,vs,h1,h2,h3⟩=>⟨a,vs,h1,e _ _ h2,Reps.mono e h3⟩
  | .scr _,_,⟨a,h1,h2⟩=>⟨a,h1,e.seq h2⟩
  | .exc _,_,⟨a,C,h1,h2,h3⟩=>⟨a,C,h1,h2,e _ _ h3⟩
  | .dic _ _,_,⟨a,vs,h1,⟨o,h2⟩,h4,h3⟩=>⟨a,vs,h1,⟨o,e _ _ h2⟩,h4,Reps.mono e h3⟩
theorem Reps.mono {K:PySem.W.Frag} {H H':Hp} (e:Same H H'):∀ {ds:List D} {vs:List V},Reps K H ds vs→Reps K H' ds vs
  | [],_,h=>h
  | _::_,_,⟨v,r,h1,h2,h3⟩=>⟨v,r,h1,Rep.mono e h2,Reps.mono e h3⟩
end
section
variable {K:PySem.W.Frag} {H:Hp}
theorem Reps.nil:Reps K H [] []:=rfl
theorem Reps.cons {d:D} {ds:List D} {v:V} {vs:List V} (h:Rep K H d v) (t:Reps K H ds vs):Reps K H (d::ds) (v::vs):=⟨v,vs,rfl,h,t⟩
theorem Reps.len:∀ {ds:List D} {vs:List V},Reps K H ds vs→ds.length=vs.length
  | [],_,h=>by cases (show _=_ from h);rfl
  | _::_,_,⟨v,r,h1,_,h3⟩=>by rw [h1,List.length_cons,List.length_cons,Reps.len h3]
theorem Reps.app:∀ {ds es:List D} {vs us:List V},Reps K H ds vs→Reps K H es us→Reps K H (ds++es) (vs++us)
  | [],_,_,_,h,t=>by cases (show _=_ from h);exact t
  | _::_,_,_,_,⟨v,r,h1,h2,h3⟩,t=>by rw [h1];exact ⟨v,_,rfl,h2,Reps.app h3 t⟩
theorem Reps.get:∀ {ds:List D} {vs:List V} {i:Nat} {d:D},Reps K H ds vs→ds[i]?=some d→∃ v,vs[i]?=some v∧Rep K H d v
  | [],_,_,_,_,e=>by simp at e
  | _::_,_,0,_,⟨v,r,h1,h2,h3⟩,e=>by simp at e;subst e;rw [h1];exact ⟨v,rfl,h2⟩
  | _::_,_,i+1,d,⟨v,r,h1,h2,h3⟩,e=>by
    obtain ⟨u,e1,e2⟩:=Reps.get (i:=i) (d:=d) h3 (by simpa using e)
    exact ⟨u,by rw [h1];simpa using e1,e2⟩
theorem Reps.take:∀ {ds:List D} {vs:List V} (n:Nat),Reps K H ds vs→Reps K H (ds.take n) (vs.take n)
  | _,_,0,_=>rfl
  | [],_,_+1,h=>by cases (show _=_ from h);rfl
  | _::_,_,n+1,⟨v,r,h1,h2,h3⟩=>by rw [h1];exact ⟨v,_,rfl,h2,Reps.take n h3⟩
theorem Reps.drop:∀ {ds:List D} {vs:List V} (n:Nat),Reps K H ds vs→Reps K H (ds.drop n) (vs.drop n)
  | _,_,0,h=>h
  | [],_,_+1,h=>by cases (show _=_ from h);rfl
  | _::_,_,n+1,⟨v,r,h1,h2,h3⟩=>by rw [h1];exact Reps.drop n h3
theorem Reps.ints:∀ (ns:List Int),Reps K H (ns.map D.int) (ns.map V.int)
  | []=>rfl
  | n::r=>⟨.int n,_,rfl,rfl,Reps.ints r⟩
theorem Reps.of_ints:∀ {ns:List Int} {vs:List V},Reps K H (ns.map D.int) vs→vs=ns.map V.int
  | [],_,h=>h
  | n::r,_,⟨v,vs,h1,h2,h3⟩=>by
    have:=Reps.of_ints h3
    have e:v=.int n:=h2
    rw [h1,this,e];rfl
end
structure Ext (G H G' H':Hp):Prop where
  gg:Same G G'
  gh:Same G' H'
  hh:Same H H'
  new:∀ b,G b=none→H b≠none→G' b=none
theorem Ext.refl {G H:Hp} (h:Same G H):Ext G H G H:=⟨Same.refl _,h,Same.refl _,fun _ e _=>e⟩
theorem Ext.trans {G H G1 H1 G2 H2:Hp} (a:Ext G H G1 H1) (b:Ext G1 H1 G2 H2):Ext G H G2 H2:=by
  refine ⟨a.gg.trans b.gg,b.gh,a.hh.trans b.hh,fun c h1 h2=>?_⟩
  have e1:=a.new c h1 h2
  refine b.new c e1 fun z=>h2 ?_
  exact a.hh.free z
theorem same_upd {H:Hp} {p:Addr} (h:H p=none) (o:HO):Same H (upd H p o):=fun b u q=>by rw [upd_ne (ne_of_none q h)];exact q
theorem same_upd2 {G H:Hp} {p:Addr} (e:Same G H) (o:HO):Same (upd G p o) (upd H p o):=fun b u q=>by
  by_cases z:b=p
  · subst z;rw [upd_same] at q ⊢;exact q
  · rw [upd_ne z] at q ⊢;exact e b u q
theorem same_updR {G H:Hp} {p:Addr} (e:Same G H) (h:G p=none) (o:HO):Same G (upd H p o):=fun b u q=>by rw [upd_ne (ne_of_none q h)];exact e b u q
theorem Ext.lay {G H:Hp} {p:Addr} (e:Same G H) (h:H p=none) (o:HO):Ext G H (upd G p o) (upd H p o):=by
  have g:G p=none:=e.free h
  refine ⟨same_upd g o,same_upd2 e o,same_upd h o,fun b h1 h2=>?_⟩
  by_cases z:b=p
  · subst z;exact absurd h h2
  · rw [upd_ne z];exact h1
theorem Ext.hide {G H:Hp} {p:Addr} (e:Same G H) (h:H p=none) (o:HO):Ext G H G (upd H p o) :=
  ⟨Same.refl _,same_updR e (e.free h) o,same_upd h o,fun _ z _=>z⟩
inductive W where
  | sh (d:D)|ow (ds:List D)|od (ks:List Int) (ds:List D)|pw (ds:List D)
noncomputable abbrev WSt:=List (Option W)
structure Fr where
  hp:Hp
  pin:Nat→Addr
noncomputable instance:CoeFun Fr fun _=>Hp:=⟨Fr.hp⟩
noncomputable instance:Coe Fr Hp:=⟨Fr.hp⟩
noncomputable def fr (H:Hp):Fr:=⟨H,fun _=>0⟩
def PwOk (K:PySem.W.Frag) (F:Fr) (G:Hp) (ω:WSt) (σ:St) (H:Hp):Prop:=∀ (i:Nat) ds,ω[i]?=some (some (.pw ds))→∃ vs,σ[i]?=some (some (.ref (F.pin i)))∧H (F.pin i)=some (.lst vs)∧G (F.pin i)=none∧F.hp (F.pin i)=none∧Reps K G ds vs ∧
  (∀ (j:Nat) es,ω[j]?=some (some (.pw es))→F.pin j=F.pin i→j=i)∧∀ (j:Nat) es,ω[j]?=some (some (.ow es))→σ[j]?≠some (some (.ref (F.pin i)))
theorem PwOk.keep {K:PySem.W.Frag} {F:Fr} {G G':Hp} {ω:WSt} {σ:St} {H H':Hp} (o:PwOk K F G ω σ H) (e:Ext G H G' H'):PwOk K F G' ω σ H':=fun i ds h=>by
  obtain ⟨vs,h1,h2,h3,h4,h5,h6⟩:=o i ds h
  exact ⟨vs,h1,e.hh _ _ h2,e.new _ h3 (by rw [h2];exact fun z=>by cases z),h4,h5.mono e.gg,h6⟩
theorem PwOk.no {K:PySem.W.Frag} {F:Fr} {G:Hp} {ω:WSt} {σ:St} {H:Hp} (h:∀ (i:Nat) ds,ω[i]?≠some (some (.pw ds))):PwOk K F G ω σ H:=fun i ds e=>absurd e (h i ds)
structure Own (K:PySem.W.Frag) (G0:Hp) (H0:Fr) (G:Hp) (ω:WSt) (σ:St) (H:Hp):Prop where
  ext:Ext G0 H0.hp G H
  len:ω.length=σ.length
  sh:∀ (i:Nat) d,ω[i]?=some (some (.sh d))→∃ v,σ[i]?=some (some v)∧Rep K G d v
  ow:∀ (i:Nat) ds,ω[i]?=some (some (.ow ds))→∃ l vs,σ[i]?=some (some (.ref l))∧H l=some (.lst vs)∧G l=none∧H0 l=none∧Reps K G ds vs
  nd:∀ (i j:Nat) ds es l,ω[i]?=some (some (.ow ds))→ω[j]?=some (some (.ow es))→σ[i]?=some (some (.ref l))→σ[j]?=some (some (.ref l))→i=j
  od:∀ (i:Nat) ks ds,ω[i]?=some (some (.od ks ds))→∃ p vs,σ[i]?=some (some (.ref p))∧H p=some (.dK (kvsOf ks vs))∧G p=none∧H0 p=none∧ks.length=ds.length∧Reps K G ds vs ∧
    ∀ (j:Nat) ks' es,ω[j]?=some (some (.od ks' es))→σ[j]?=some (some (.ref p))→i=j
  pw:PwOk K H0 G ω σ H
inductive R where
  | sh (d:D)|fr (ds:List D)|vw (ds:List D)
noncomputable def R.d:R→D
  | .sh d=>d
  | .fr ds=>.lst ds
  | .vw ds=>.lst ds
def RepR (K:PySem.W.Frag) (H G' H':Hp):R→V→Prop
  | .sh d,v=>Rep K G' d v
  | .fr ds,v=>∃ l vs,v=.ref l∧H l=none∧G' l=none∧H' l=some (.lst vs)∧Reps K G' ds vs
  | .vw ds,v=>∃ l vs,v=.ref l∧H' l=some (.lst vs)∧Reps K G' ds vs
def Vw (K:PySem.W.Frag) (G H:Hp) (d:D) (v:V):Prop:=Rep K G d v∨∃ ds l vs,d=.lst ds∧v=.ref l∧H l=some (.lst vs)∧Reps K G ds vs
theorem Own.keep {K:PySem.W.Frag} {G0:Hp} {H0:Fr} {G G':Hp} {ω:WSt} {σ:St} {H H':Hp} (o:Own K G0 H0 G ω σ H) (e:Ext G H G' H'):Own K G0 H0 G' ω σ H':=by
  refine ⟨o.ext.trans e,o.len,fun i d h=>?_,fun i ds h=>?_,o.nd,fun i ks ds h=>?_,o.pw.keep e⟩
  · obtain ⟨v,h1,h2⟩:=o.sh i d h
    exact ⟨v,h1,h2.mono e.gg⟩
  · obtain ⟨l,vs,h1,h2,h3,h4,h5⟩:=o.ow i ds h
    exact ⟨l,vs,h1,e.hh _ _ h2,e.new l h3 (by rw [h2];exact fun z=>by cases z),h4,h5.mono e.gg⟩
  · obtain ⟨l,vs,h1,h2,h3,h4,h6,h5,h7⟩:=o.od i ks ds h
    exact ⟨l,vs,h1,e.hh _ _ h2,e.new l h3 (by rw [h2];exact fun z=>by cases z),h4,h6,h5.mono e.gg,h7⟩
theorem Own.gh {K:PySem.W.Frag} {G0:Hp} {H0:Fr} {G:Hp} {ω:WSt} {σ:St} {H:Hp} (o:Own K G0 H0 G ω σ H):Same G H:=o.ext.gh
noncomputable abbrev FE:=WSt→Option R
noncomputable abbrev FD:=WSt→Option D
noncomputable abbrev FT:=WSt→Option Bool
noncomputable abbrev FA:=WSt→Option (List D)
def SimE (K:PySem.W.Frag) (t:TE) (f:FE):Prop:=∀ G0 H0 G ω σ H r (Q:VK),Own K G0 H0 G ω σ H→f ω=some r →
  (∀ v G' H',Ext G H G' H'→RepR K H G' H' r v→Q v H')→t σ H Q
def SimD (K:PySem.W.Frag) (t:TE) (f:FD):Prop:=∀ G0 H0 G ω σ H d (Q:VK),Own K G0 H0 G ω σ H→f ω=some d →
  (∀ v G' H',Ext G H G' H'→Rep K G' d v→Q v H')→t σ H Q
def SimV (K:PySem.W.Frag) (t:TE) (f:FD):Prop:=∀ G0 H0 G ω σ H d (Q:VK),Own K G0 H0 G ω σ H→f ω=some d →
  (∀ v G' H',Ext G H G' H'→Vw K G' H' d v→Q v H')→t σ H Q
def SimT (K:PySem.W.Frag) (t:TT) (f:FT):Prop:=∀ G0 H0 G ω σ H b (Q:Bool→Hp→Prop),Own K G0 H0 G ω σ H→f ω=some b →
  (∀ G' H',Ext G H G' H'→Q b H')→t σ H Q
def SimA (K:PySem.W.Frag) (t:TA) (f:FA):Prop:=∀ G0 H0 G ω σ H ds (Q:List V→Hp→Prop),Own K G0 H0 G ω σ H→f ω=some ds →
  (∀ vs G' H',Ext G H G' H'→Reps K G' ds vs→Q vs H')→t σ H Q
def XE (X:Cx) (e:Expr) (f:FE):Prop:=∃ t,PE X e t∧SimE X.K t f
def XD (X:Cx) (e:Expr) (f:FD):Prop:=∃ t,PE X e t∧SimD X.K t f
def XV (X:Cx) (e:Expr) (f:FD):Prop:=∃ t,PE X e t∧SimV X.K t f
def XT (X:Cx) (e:Expr) (f:FT):Prop:=∃ t,PT X e t∧SimT X.K t f
def XW (X:Cx) (e:Expr) (f:FT):Prop:=∃ t,PW X e t∧SimT X.K t f
def XA (X:Cx) (es:List Expr) (f:FA):Prop:=(∃ t,PA X es t∧SimA X.K t f)∧∀ ω ds,f ω=some ds→ds.length=es.length
noncomputable def eOf (f:FD):FE:=fun ω=>(f ω).map R.sh
noncomputable def dOf (f:FE):FD:=fun ω=>match f ω with
  | some (.sh d)=>some d
  | some (.fr ds)=>some (.lst ds)
  | _=>none
noncomputable def vOf (f:FE):FD:=fun ω=>(f ω).map R.d
section
variable {X:Cx} {e:Expr}
theorem XD.toE {f:FD} (h:XD X e f):XE X e (eOf f):=by
  obtain ⟨t,h1,h2⟩:=h
  refine ⟨t,h1,fun G0 H0 G ω σ H r Q o e k=>?_⟩
  unfold eOf at e
  cases q:f ω with
  | none=>rw [q] at e;cases e
  | some d=>rw [q] at e;cases e;exact h2 G0 H0 G ω σ H d Q o q k
theorem XE.toD {f:FE} (h:XE X e f):XD X e (dOf f):=by
  obtain ⟨t,h1,h2⟩:=h
  refine ⟨t,h1,fun G0 H0 G ω σ H d Q o e k=>?_⟩
  unfold dOf at e
  cases q:f ω with
  | none=>rw [q] at e;cases e
  | some r =>
    rw [q] at e
    cases r with
    | sh d'=>cases e;exact h2 G0 H0 G ω σ H _ Q o q k
    | fr ds =>
      cases e
      refine h2 G0 H0 G ω σ H _ Q o q fun v G' H' x ⟨l,vs,e1,e2,e3,e4,e5⟩=>?_
      have s1:Same G' (upd G' l (.lst vs)):=same_upd e3 _
      refine k v (upd G' l (.lst vs)) H' ⟨x.gg.trans s1,fun b u z=>?_,x.hh,fun b z1 z2=>?_⟩ ⟨l,vs,e1,upd_same,e5.mono s1⟩
      · by_cases hb:b=l
        · subst hb;rw [upd_same] at z;rw [e4];exact z
        · rw [upd_ne hb] at z;exact x.gh b u z
      · rw [upd_ne (fun hb=>z2 (by rw [hb];exact e2))];exact x.new b z1 z2
    | vw ds=>cases e
theorem XE.toV {f:FE} (h:XE X e f):XV X e (vOf f):=by
  obtain ⟨t,h1,h2⟩:=h
  refine ⟨t,h1,fun G0 H0 G ω σ H d Q o e k=>?_⟩
  unfold vOf at e
  cases q:f ω with
  | none=>rw [q] at e;cases e
  | some r =>
    rw [q] at e
    have e':r.d=d:=Option.some.inj e
    subst e'
    refine h2 G0 H0 G ω σ H r Q o q fun v G' H' x y=>k v G' H' x ?_
    cases r with
    | sh d'=>exact .inl y
    | fr ds=>obtain ⟨l,vs,e1,e2,e3,e4,e5⟩:=y;exact .inr ⟨ds,l,vs,rfl,e1,e4,e5⟩
    | vw ds=>obtain ⟨l,vs,e1,e2,e3⟩:=y;exact .inr ⟨ds,l,vs,rfl,e1,e2,e3⟩
theorem XD.toV {f:FD} (h:XD X e f):XV X e f:=by
  obtain ⟨t,h1,h2⟩:=h
  exact ⟨t,h1,fun G0 H0 G ω σ H d Q o e k=>h2 G0 H0 G ω σ H d Q o e fun v G' H' x y=>k v G' H' x (.inl y)⟩
end
noncomputable def fVar (i:Nat):FE:=fun ω=>match ω[i]? with
  | some (some (.sh d))=>some (.sh d)
  | some (some (.ow ds))=>some (.vw ds)
  | some (some (.pw ds))=>some (.vw ds)
  | _=>none
noncomputable def fC (d:D):FD:=fun _=>some d
section
variable {X:Cx}
theorem xe_var {e:Expr} (i:Nat) (h:PE X e (tVar i)):XE X e (fVar i):=by
  refine ⟨_,h,fun G0 H0 G ω σ H r Q o e k=>?_⟩
  unfold fVar at e
  cases q:ω[i]? with
  | none=>rw [q] at e;cases e
  | some w =>
    rw [q] at e
    cases w with
    | none=>cases e
    | some w =>
      cases w with
      | sh d =>
        cases e
        obtain ⟨v,h1,h2⟩:=o.sh i d q
        exact ⟨v,h1,k v G H (Ext.refl o.gh) h2⟩
      | ow ds =>
        cases e
        obtain ⟨l,vs,h1,h2,h3,h4,h5⟩:=o.ow i ds q
        exact ⟨_,h1,k _ G H (Ext.refl o.gh) ⟨l,vs,rfl,h2,h5⟩⟩
      | od ks ds=>cases e
      | pw ds =>
        cases e
        obtain ⟨vs,h1,h2,h3,h4,h5,_⟩:=o.pw i ds q
        exact ⟨_,h1,k _ G H (Ext.refl o.gh) ⟨_,vs,rfl,h2,h5⟩⟩
theorem xd_c {e:Expr} {v:V} {d:D} (h:PE X e (tC v)) (hr:∀ K H,Rep K H d v):XD X e (fC d):=by
  refine ⟨_,h,fun G0 H0 G ω σ H r Q o e k=>?_⟩
  cases e
  exact k v G H (Ext.refl o.gh) (hr _ _)
theorem xd_int {i j pos}:XD X (.Constant (.int i) j pos) (fC (.int i)):=xd_c pe_int fun _ _=>rfl
theorem xd_bl {b j pos}:XD X (.Constant (.bool b) j pos) (fC (.bl b)):=xd_c pe_bl fun _ _=>rfl
theorem xd_str {x j pos}:XD X (.Constant (.str x) j pos) (fC (.str x)):=xd_c pe_str fun _ _=>rfl
end
theorem bnd {α β:Type} {o:Option α} {f:α→Option β} {r:β} (h:o.bind f=some r):∃ a,o=some a∧f a=some r:=Option.bind_eq_some_iff.mp h
theorem mpd {α β:Type} {o:Option α} {f:α→β} {r:β} (h:o.map f=some r):∃ a,o=some a∧f a=r:=Option.map_eq_some_iff.mp h
noncomputable def aNil:FA:=fun _=>some []
noncomputable def aCons (f:FD) (g:FA):FA:=fun ω=>(f ω).bind fun d=>(g ω).map fun ds=>d::ds
section
variable {X:Cx} {e:Expr} {es:List Expr}
theorem xa_nil:XA X [] aNil:=⟨⟨_,pa_nil,fun G0 H0 G ω σ H ds Q o e k=>by cases e;exact k [] G H (Ext.refl o.gh) rfl⟩,fun ω ds e=>by cases e;rfl⟩
theorem xa_cons {f:FD} {g:FA} (h:XD X e f) (hr:XA X es g) (hs:starEach (e::es) X.env=(false,eval e X.env)::starEach es X.env:=by rfl):XA X (e::es) (aCons f g):=by
  obtain ⟨t,h1,h2⟩:=h
  obtain ⟨⟨u,h3,h4⟩,h5⟩:=hr
  refine ⟨⟨_,pa_cons h1 h3 hs,fun G0 H0 G ω σ H ds Q o e k=>?_⟩,fun ω ds e=>?_⟩
  · obtain ⟨d,q,e⟩:=bnd e
    obtain ⟨r,q2,e⟩:=mpd e
    subst e
    refine h2 G0 H0 G ω σ H d _ o q fun v G1 H1 x1 y1=>?_
    refine h4 G0 H0 G1 ω σ H1 r _ (o.keep x1) q2 fun vs G2 H2 x2 y2=>?_
    exact k _ G2 H2 (x1.trans x2) (Reps.cons (y1.mono x2.gg) y2)
  · obtain ⟨d,q,e⟩:=bnd e
    obtain ⟨r,q2,e⟩:=mpd e
    subst e
    rw [List.length_cons,List.length_cons,h5 ω r q2]
noncomputable def fTup (g:FA):FD:=fun ω=>(g ω).map D.tup
noncomputable def fLst (g:FA):FE:=fun ω=>(g ω).map R.fr
theorem le_line {n:Nat} (h:n≤1000):n≤sizeLine:=Nat.le_of_lt (small1000 h)
theorem xd_tup {x1 pos} {g:FA} (h:XA X es g) (hl:es.length≤1000:=by decide):XD X (.Tuple es x1 pos) (fTup g):=by
  obtain ⟨⟨t,h1,h2⟩,h5⟩:=h
  refine ⟨_,pe_tup h1,fun G0 H0 G ω σ H d Q o e k=>?_⟩
  obtain ⟨ds,q,e⟩:=mpd e
  subst e
  refine h2 G0 H0 G ω σ H ds _ o q fun vs G1 H1 x1 y1=>⟨le_line (by rw [←y1.len,h5 ω ds q];exact hl),fun p hp=>?_⟩
  have x2:=Ext.lay x1.gh hp (.tup vs)
  exact k _ _ _ (x1.trans x2) ⟨p,vs,rfl,upd_same,y1.mono x2.gg⟩
theorem xe_lst {pos} {g:FA} (h:XA X es g) (hl:es.length≤1000:=by decide):XE X (.List es pos) (fLst g):=by
  obtain ⟨⟨t,h1,h2⟩,h5⟩:=h
  refine ⟨_,pe_lst h1,fun G0 H0 G ω σ H d Q o e k=>?_⟩
  obtain ⟨ds,q,e⟩:=mpd e
  subst e
  refine h2 G0 H0 G ω σ H ds _ o q fun vs G1 H1 x1 y1=>⟨le_line (by rw [←y1.len,h5 ω ds q];exact hl),fun p hp=>?_⟩
  have x2:=Ext.hide x1.gh hp (.lst vs)
  exact k _ _ _ (x1.trans x2) ⟨p,vs,rfl,x1.hh.free hp,x1.gh.free hp,upd_same,y1⟩
inductive O where
  | sh (d:D)|fr (ds:List D)
noncomputable def O.r:O→R
  | .sh d=>.sh d
  | .fr ds=>.fr ds
noncomputable def spD (K:PySem.W.Frag) (n:Nat) (m:List D→Option O):Sp:=fun vs H Q _=>∃ G ds r,m ds=some r∧ds.length=n∧Same G H∧Reps K G ds vs∧∀ v G' H',Ext G H G' H'→RepR K H G' H' r.r v→Q v H'
noncomputable def fCall (m:List D→Option O) (g:FA):FE:=fun ω=>(g ω).bind fun ds=>(m ds).map O.r
theorem xe_call {CX:CXT} {k:Nat} {f:Addr} {fd:FuncData} {ps:List Str} {m:List D→Option O} {E:XK} {x:Str} {p pos:Pos} {g:FA}
    (F:FnOk X.prog X.w X.K X.mg X.base CX k f fd ps (spD X.K (e::es).length m)) (hr:Room k X.A) (hg:Gl X x) (hm:X.mg x=some (.ref f)) (hk:PySem.W.keepIn X.K (.ref f)=true) (hb:Binds X.K fd ps []) (hx:Passes CX X E)
    (ha:XA X (e::es) g) (hdb:(x == ("__debug__" : Str))=false:=by decide) (he:starEach (e::es) X.env=(false,eval e X.env)::starEach es X.env:=by rfl) (hpl:(backTo pos (starEach es X.env)).any (·.1)=false:=by rfl) :
    XE X (.Call (.Name x p) (e::es) [] pos) (fCall m g):=by
  obtain ⟨⟨t,h1,h2⟩,h5⟩:=ha
  refine ⟨_,pe_call F hr hg hm hk hb .nil hx h1 hdb he hpl,fun G0 H0 G ω σ H r Q o e k=>?_⟩
  obtain ⟨ds,q,e⟩:=bnd e
  obtain ⟨r',q2,e⟩:=mpd e
  subst e
  refine h2 G0 H0 G ω σ H ds _ o q fun vs G1 H1 x1 y1=>?_
  refine ⟨G1,ds,r',q2,h5 ω ds q,x1.gh,by rw [List.append_nil];exact y1,fun v G2 H2 x2 y2=>k v G2 H2 (x1.trans x2) ?_⟩
  cases r' with
  | sh d=>exact y2
  | fr ds=>obtain ⟨l,vs,e1,e2,e3⟩:=y2;exact ⟨l,vs,e1,x1.hh.free e2,e3⟩
end
end Hk
set_option maxRecDepth 100000
namespace Hk
open PySem L2
open PySem.Spec PyProof.Rows PySem.SeqAt PySem.MeetsSeq PySem.MeetsSeq2 PySem.MeetsSeq3 in
theorem getItem_whole {prog:Program} {w:World} {A:Around} {E:Value→Shared→Prop} {s:Shared} {t sl:Addr} {items:Array Value} {vl vu:Value} {lo hi:Option Int} {Q:Value→Shared→Prop} (ht:IsTup s.heap t items) (hs:s.heap.IsSliceOf sl vl vu .none) (pl:IsPart vl lo) (pu:IsPart vu hi)
    (hw:HT.sIx items.size 0 lo=0∧HT.sIx items.size items.size hi=items.size) (h:Q (.ref t) s):wpAny (model prog w) A (getItem (.ref t) (.ref sl)) Q E s:=by
  obtain ⟨os,hos,hcs,hds⟩:=id hs
  have hTs:s.TypeIs (.ref sl) "slice" := ⟨os,hos,hcs⟩
  unfold getItem
  try with_reducible refine wpAny_holding ?_
  first|refine wpAny_bind (wpAny_pure ?_)|skip
  refine wpAny_bind (wpAny_sequenceKey ht.typeIs (by decide) ?_)
  refine wpAny_bind (wpAny_callSpecial?_slot (name:=Str.ofString "__getitem__") ht.typeIs PyProof.Rows.slot_tuple_getitem
    (wpAny_call_entry PyProof.Rows.slot_tuple_getitem ht.typeIs entry_tuple_getitem ?_ (args_tuple_getitem _ _)))
  show wpAny _ _ (Builtin.Tuple.tupleItemsOf (.ref t) >>= _) _ _ s
  refine wpAny_bind (tupleItemsOf_ ht ?_)
  refine wpAny_bind (wpAny_typeOf hTs ?_)
  rw [if_pos (by decide)]
  refine wpAny_bind (HT.sliceApplied_gen hs pl pu ?_)
  have hy:(((HT.sIx items.size 0 lo:Nat):Int) == 0 && (1:Int) == 1 && (HT.sIx items.size items.size hi - HT.sIx items.size 0 lo) == items.size)=true:=by
    rw [hw.1,hw.2];simp
  show wpAny _ _ (if (((HT.sIx items.size 0 lo:Nat):Int) == 0 && (1:Int) == 1 && (HT.sIx items.size items.size hi - HT.sIx items.size 0 lo) == items.size)=true then _ else _) _ _ s
  rw [if_pos hy]
  have hb:∀ {R:Bool→Shared→Prop},R true s→wpAny (model prog w) A.in1 (Builtin.Tuple.tupleIsExact (.ref t)) R E s:=fun r=>by
    unfold Builtin.Tuple.tupleIsExact
    refine wpAny_bind (wpAny_typeOf ht.typeIs ?_)
    exact wpAny_pure r
  refine wpAny_bind (hb ?_)
  rw [if_pos rfl]
  refine wpAny_bind (wpAny_rule ?_)
  exact wpAny_pure ⟨_,rfl,wpAny_pure h⟩
section
variable {X:Cx}
def rSlW (K:PySem.W.Frag):V→Option Int→Option Int→Hp→VK→Prop:=fun x lo hi H Q=>∃ a xs,x=.ref a∧SqT K H a xs ∧
  (HT.sIx xs.length 0 lo=0∧HT.sIx xs.length xs.length hi=xs.length)∧Q (.ref a) H
theorem sl_whole:SlR X (rSlW X.K):=by
  intro pins s σ H x v vl vu lo hi sl Q I rx hs pl pu h
  obtain ⟨a,xs,rfl,hx,hw,q⟩:=h
  cases rx
  obtain ⟨its,r,ht,hz⟩:=I.tuple hx
  have hlen:its.toArray.size=xs.length:=by rw [List.size_toArray];exact r.length.symm
  refine ⟨"tuple", _,PyProof.Rows.slot_tuple_getitem.lookup,ht.typeIs,?_⟩
  exact getItem_whole ht hs pl pu (by rw [hlen];exact hw) ⟨.ref a,H,I,rfl,q⟩
end
theorem Vw.rep {K:PySem.W.Frag} {G H:Hp} {d:D} {v:V} (h:Vw K G H d v) (e:Same G H):Rep K H d v:=by
  rcases h with h|⟨ds,l,vs,rfl,rfl,h1,h2⟩
  · exact h.mono e
  · exact ⟨l,vs,rfl,h1,h2.mono e⟩
theorem Vw.keep {K:PySem.W.Frag} {G H G' H':Hp} {d:D} {v:V} (h:Vw K G H d v) (e:Ext G H G' H'):Vw K G' H' d v:=by
  rcases h with h|⟨ds,l,vs,h0,h1,h2,h3⟩
  · exact .inl (h.mono e.gg)
  · exact .inr ⟨ds,l,vs,h0,h1,e.hh _ _ h2,h3.mono e.gg⟩
theorem Vw.lst {K:PySem.W.Frag} {G H:Hp} {ds:List D} {v:V} (h:Vw K G H (.lst ds) v) (e:Same G H):∃ a vs,v=.ref a∧H a=some (.lst vs)∧Reps K G ds vs:=by
  rcases h with ⟨a,vs,h1,h2,h3⟩|⟨ds',l,vs,h0,h1,h2,h3⟩
  · exact ⟨a,vs,h1,e _ _ h2,h3⟩
  · cases h0;exact ⟨l,vs,h1,h2,h3⟩
theorem Vw.of_ne {K:PySem.W.Frag} {G H:Hp} {d:D} {v:V} (h:Vw K G H d v) (n:∀ ds,d≠.lst ds):Rep K G d v:=by
  rcases h with h|⟨ds',l,vs,h0,h1,h2,h3⟩
  · exact h
  · exact absurd h0 (n _)
def VwA (K:PySem.W.Frag) (G H:Hp):List D→List V→Prop
  | [],vs=>vs=[]
  | d::ds,vs=>∃ v r,vs=v::r∧Vw K G H d v∧VwA K G H ds r
def SimVA (K:PySem.W.Frag) (t:TA) (f:FA):Prop:=∀ G0 H0 G ω σ H ds (Q:List V→Hp→Prop),Own K G0 H0 G ω σ H→f ω=some ds →
  (∀ vs G' H',Ext G H G' H'→VwA K G' H' ds vs→Q vs H')→t σ H Q
def XVA (X:Cx) (es:List Expr) (f:FA):Prop:=∃ t,PA X es t∧SimVA X.K t f
section
variable {X:Cx} {e:Expr} {es:List Expr}
theorem xva_nil:XVA X [] aNil:=⟨_,pa_nil,fun G0 H0 G ω σ H ds Q o e k=>by cases e;exact k [] G H (Ext.refl o.gh) rfl⟩
theorem xva_cons {f:FD} {g:FA} (h:XV X e f) (hr:XVA X es g) (hs:starEach (e::es) X.env=(false,eval e X.env)::starEach es X.env:=by rfl):XVA X (e::es) (aCons f g):=by
  obtain ⟨t,h1,h2⟩:=h
  obtain ⟨u,h3,h4⟩:=hr
  refine ⟨_,pa_cons h1 h3 hs,fun G0 H0 G ω σ H ds Q o e k=>?_⟩
  obtain ⟨d,q,e⟩:=bnd e
  obtain ⟨r,q2,e⟩:=mpd e
  subst e
  refine h2 G0 H0 G ω σ H d _ o q fun v G1 H1 x1 y1=>?_
  refine h4 G0 H0 G1 ω σ H1 r _ (o.keep x1) q2 fun vs G2 H2 x2 y2=>?_
  exact k _ G2 H2 (x1.trans x2) ⟨v,vs,rfl,y1.keep x2,y2⟩
noncomputable def fOpE (op:D→D→Option R) (f g:FD):FE:=fun ω=>(f ω).bind fun x=>(g ω).bind fun y=>op x y
def OpV (K:PySem.W.Frag) (r:R2) (op:D→D→Option R):Prop:=∀ G H x y d v u (Q:VK),Same G H→op x y=some d→Vw K G H x v→Vw K G H y u →
  (∀ w G' H',Ext G H G' H'→RepR K H G' H' d w→Q w H')→r v u H Q
theorem simV_op {r:R2} {o:D→D→Option R} {f g:FD} {t u:TE} (hd:OpV X.K r o) (h2:SimV X.K t f) (h4:SimV X.K u g):SimE X.K (tOp r t u) (fOpE o f g):=by
  intro G0 H0 G ω σ H d Q ow e k
  obtain ⟨x,q,e⟩:=bnd e
  obtain ⟨y,q2,e⟩:=bnd e
  refine h2 G0 H0 G ω σ H x _ ow q fun v G1 H1 x1 y1=>?_
  refine h4 G0 H0 G1 ω σ H1 y _ (ow.keep x1) q2 fun v2 G2 H2 x2 y2=>?_
  refine hd G2 H2 x y d v v2 Q x2.gh e (y1.keep x2) y2 fun w G3 H3 x3 z=>k w G3 H3 ((x1.trans x2).trans x3) ?_
  cases d with
  | sh d=>exact z
  | fr ds=>obtain ⟨l,vs,e1,e2,e3⟩:=z;exact ⟨l,vs,e1,(x1.trans x2).hh.free e2,e3⟩
  | vw ds=>exact z
variable {a b:Expr} {pos:Pos} {f g:FD}
theorem xe_bin {op:Operator} {r:R2} {o:D→D→Option R} (ho:OpR X (binaryOp op) r) (hd:OpV X.K r o) (ha:XV X a f) (hb:XV X b g):XE X (.BinOp a op b pos) (fOpE o f g):=by
  obtain ⟨t,h1,h2⟩:=ha
  obtain ⟨u,h3,h4⟩:=hb
  exact ⟨_,pe_op ho h1 h3,simV_op hd h2 h4⟩
theorem xe_cmp {op:CmpOp} {r:R2} {o:D→D→Option R} (ho:OpR X (compareOp op) r) (hd:OpV X.K r o) (ha:XV X a f) (hb:XV X b g) (hm:behindInMarks op b=false):XE X (.Compare a [op] [b] pos) (fOpE o f g):=by
  obtain ⟨t,h1,h2⟩:=ha
  obtain ⟨u,h3,h4⟩:=hb
  exact ⟨_,pe_cmpR ho h1 h3 hm,simV_op hd h2 h4⟩
theorem xe_ix {r:R2} {o:D→D→Option R} (ho:IxR X r) (hd:OpV X.K r o) (ha:XV X a f) (hb:XV X b g) (hs:PlainIx b):XE X (.Subscript a b pos) (fOpE o f g):=by
  obtain ⟨t,h1,h2⟩:=ha
  obtain ⟨u,h3,h4⟩:=hb
  exact ⟨_,pe_ix ho h1 h3 hs,simV_op hd h2 h4⟩
noncomputable def tOf (f:FE):FT:=fun ω=>match f ω with
  | some (.sh (.bl k))=>some k
  | _=>none
theorem simT_test {t:TE} {f:FE} (h:SimE X.K t f):SimT X.K (tTest t) (tOf f):=by
  intro G0 H0 G ω σ H b Q o e k
  unfold tOf at e
  cases q:f ω with
  | none=>rw [q] at e;cases e
  | some r =>
    rw [q] at e
    cases r with
    | sh d =>
      cases d with
      | bl c =>
        cases (e)
        refine h G0 H0 G ω σ H _ _ o q fun v G' H' x y=>?_
        cases (show v=V.bl b from y)
        exact ⟨b,rfl,k G' H' x⟩
      | _=>cases e
    | _=>cases e
theorem xt_cmp {op:CmpOp} {r:R2} {o:D→D→Option R} (ho:OpR X (compareOp op) r) (hd:OpV X.K r o) (ha:XV X a f) (hb:XV X b g) (hm:behindInMarks op b=false):XT X (.Compare a [op] [b] pos) (tOf (fOpE o f g)):=by
  obtain ⟨t,h1,h2⟩:=ha
  obtain ⟨u,h3,h4⟩:=hb
  exact ⟨_,pt_cmpR ho h1 h3 hm,simT_test (simV_op hd h2 h4)⟩
noncomputable def oInt (c:Int→Int→Bool) (g:Int→Int→D):D→D→Option R
  | .int i,.int j=>if c i j=true then some (.sh (g i j)) else none
  | _,_=>none
theorem Vw.int {K:PySem.W.Frag} {G H:Hp} {i:Int} {v:V} (h:Vw K G H (.int i) v):v=.int i:=h.of_ne (fun _ z=>by cases z)
theorem Vw.bl {K:PySem.W.Frag} {G H:Hp} {i:Bool} {v:V} (h:Vw K G H (.bl i) v):v=.bl i:=h.of_ne (fun _ z=>by cases z)
theorem Vw.str {K:PySem.W.Frag} {G H:Hp} {i:Str} {v:V} (h:Vw K G H (.str i) v):v=.str i:=h.of_ne (fun _ z=>by cases z)
theorem Vw.non {K:PySem.W.Frag} {G H:Hp} {v:V} (h:Vw K G H .non v):v=.non:=h.of_ne (fun _ z=>by cases z)
theorem Vw.tup {K:PySem.W.Frag} {G H:Hp} {ds:List D} {v:V} (h:Vw K G H (.tup ds) v):∃ a vs,v=.ref a∧G a=some (.tup vs)∧Reps K G ds vs:=h.of_ne (fun _ z=>by cases z)
theorem Vw.scr {K:PySem.W.Frag} {G H:Hp} {ns:List Int} {v:V} (h:Vw K G H (.scr ns) v):∃ a,v=.ref a∧SqL K G a (ns.map V.int):=h.of_ne (fun _ z=>by cases z)
theorem opv_int {K:PySem.W.Frag} {C:Int→Int→Prop} {c:Int→Int→Bool} {gV:Int→Int→V} {g:Int→Int→D} (hc:∀ i j,c i j=true→C i j) (hg:∀ H i j,Rep K H (g i j) (gV i j)):OpV K (rI C gV) (oInt c g):=by
  intro G H x y d v u Q s e hx hy k
  cases x with
  | int i =>
    cases y with
    | int j =>
      cases hx.int
      cases hy.int
      unfold oInt at e
      dsimp only at e
      by_cases z:c i j=true
      · rw [if_pos z] at e
        cases e
        exact ⟨i,j,rfl,rfl,hc i j z,k _ G H (Ext.refl s) (hg _ i j)⟩
      · rw [if_neg z] at e;cases e
    | _=>cases e
  | _=>cases e
theorem opv_int0 {K:PySem.W.Frag} {gV:Int→Int→V} {g:Int→Int→D} (hg:∀ H i j,Rep K H (g i j) (gV i j)):OpV K (rI0 gV) (oInt (fun _ _=>true) g):=by
  intro G H x y d v u Q s e hx hy k
  cases x with
  | int i =>
    cases y with
    | int j =>
      cases hx.int
      cases hy.int
      cases e
      exact ⟨i,j,rfl,rfl,k _ G H (Ext.refl s) (hg _ i j)⟩
    | _=>cases e
  | _=>cases e
noncomputable def cMul (i j:Int):Bool:=(decide (-(2 ^ 64) < i) && decide (i < 2 ^ 64)) || (decide (-(2 ^ 64) < j) && decide (j < 2 ^ 64))
noncomputable def cDiv (_ j:Int):Bool:=decide (0 < j) && decide (j < 1073741824)
noncomputable def cMod (_ j:Int):Bool:=decide (0 < j)
noncomputable def cPow (i j:Int):Bool:=decide (0≤j) && decide (j≤1000000) && decide (i.natAbs < 2 ^ 64)
noncomputable abbrev oSub:D→D→Option R:=oInt (fun _ _=>true) fun i j=>.int (i - j)
noncomputable abbrev oMul:D→D→Option R:=oInt cMul fun i j=>.int (i*j)
noncomputable abbrev oDiv:D→D→Option R:=oInt cDiv fun i j=>.int (i / j)
noncomputable abbrev oMod:D→D→Option R:=oInt cMod fun i j=>.int (i % j)
noncomputable abbrev oPow:D→D→Option R:=oInt cPow fun i j=>.int (i ^ j.toNat)
noncomputable abbrev oLt:D→D→Option R:=oInt (fun _ _=>true) fun i j=>.bl (decide (i < j))
noncomputable abbrev oLe:D→D→Option R:=oInt (fun _ _=>true) fun i j=>.bl (decide (i≤j))
noncomputable abbrev oGt:D→D→Option R:=oInt (fun _ _=>true) fun i j=>.bl (decide (j < i))
noncomputable def oAdd:D→D→Option R
  | .int i,.int j=>some (.sh (.int (i+j)))
  | .lst xs,.lst ys=>if xs.length+ys.length≤1000000 then some (.fr (xs++ys)) else none
  | .tup [],.tup ys=>some (.sh (.tup ys))
  | .tup (x::xs),.tup ys=>if (x::xs).length+ys.length≤1000000 then some (.sh (.tup ((x::xs)++ys))) else none
  | _,_=>none
theorem le_line6 {n:Nat} (h:n≤1000000):n≤sizeLine:=by rw [sizeLine_eq];omega
noncomputable def rCat0 (K:PySem.W.Frag):R2:=fun x y H Q=>∃ a b ys,x=.ref a∧y=.ref b∧SqT K H a []∧SqT K H b ys∧Q (.ref b) H
theorem op_cat0:OpR X (binaryOp .Add) (rCat0 X.K):=by
  intro pins s σ H x y v u Q I rx ry h
  obtain ⟨a,b,ys,rfl,rfl,ha,hb,q⟩:=h
  cases rx
  cases ry
  obtain ⟨its,r1,p1,_⟩:=I.tuple ha
  obtain ⟨its2,r2,p2,_⟩:=I.tuple hb
  have e0:its=[]:=r1.nil_iff.mpr rfl
  subst e0
  obtain ⟨⟨cls,dd,data,sl⟩,ho,hc,n,hd⟩:=id p1
  obtain ⟨⟨cls2,dd2,data2,sl2⟩,ho2,hc2,n2,hd2⟩:=id p2
  simp only at hc hd hc2 hd2
  subst hc hd hc2 hd2
  exact PySem.concat_meets ⟨_,ho,rfl⟩ ⟨_,ho2,rfl⟩ PySem.noFill_tuple_add PySem.seq_tuple_add PySem.F.slot_tuple_add PySem.F.entry_tuple_add (PySem.F.args_tuple_add_2 _ _)
    (PyProof.Rows.tuple_addW0 a b _ its2.toArray n n2 dd dd2 sl sl2 (by simp)) ⟨ho,ho2,⟨.ref b,H,I,rfl,q⟩⟩
noncomputable def rAddAll (K:PySem.W.Frag):R2:=fun x y H Q=>rI0 (fun i j=>.int (i+j)) x y H Q∨rCat x y H Q∨rCatT K x y H Q∨rCat0 K x y H Q
theorem op_addAll:OpR X (binaryOp .Add) (rAddAll X.K):=op_add.or (op_cat.or (op_catT.or op_cat0))
theorem opv_add {K:PySem.W.Frag}:OpV K (rAddAll K) oAdd:=by
  intro G H x y d v u Q s e hx hy k
  cases x with
  | int i =>
    cases y with
    | int j =>
      cases hx.int
      cases hy.int
      cases e
      exact .inl ⟨i,j,rfl,rfl,k _ G H (Ext.refl s) rfl⟩
    | _=>cases e
  | lst xs =>
    cases y with
    | lst ys =>
      unfold oAdd at e
      dsimp only at e
      by_cases z:xs.length+ys.length≤1000000
      · rw [if_pos z] at e
        cases e
        obtain ⟨a,vs,rfl,h1,h2⟩:=hx.lst s
        obtain ⟨b,us,rfl,h3,h4⟩:=hy.lst s
        refine .inr (.inl ⟨a,b,vs,us,rfl,rfl,h1,h3,le_line6 (by rw [←h2.len,←h4.len];exact z),fun p hp=>?_⟩)
        exact k _ G _ (Ext.hide s hp _) ⟨p,_,rfl,hp,s.free hp,upd_same,h2.app h4⟩
      · rw [if_neg z] at e;cases e
    | _=>cases e
  | tup xs =>
    cases y with
    | tup ys =>
      obtain ⟨a,vs,rfl,h1,h2⟩:=hx.tup
      obtain ⟨b,us,rfl,h3,h4⟩:=hy.tup
      cases xs with
      | nil =>
        cases e
        have ev:vs=[]:=List.eq_nil_of_length_eq_zero h2.len.symm
        subst ev
        exact .inr (.inr (.inr ⟨a,b,us,rfl,rfl,SqT.of (s _ _ h1),SqT.of (s _ _ h3),k _ G H (Ext.refl s) ⟨b,us,rfl,h3,h4⟩⟩))
      | cons x0 xs =>
        unfold oAdd at e
        dsimp only at e
        by_cases z:(x0::xs).length+ys.length≤1000000
        · rw [if_pos z] at e
          cases e
          refine .inr (.inr (.inl ⟨a,b,vs,us,rfl,rfl,SqT.of (s _ _ h1),SqT.of (s _ _ h3),fun w=>?_,le_line6 (by rw [←h2.len,←h4.len];exact z),fun w=>?_,fun _ p hp=>?_⟩))
          · have:=h2.len
            rw [w] at this
            cases this
          · have:=h4.len
            rw [w] at this
            have ey:ys=[]:=List.eq_nil_of_length_eq_zero this
            subst ey
            rw [List.append_nil] at k
            exact k _ G H (Ext.refl s) ⟨a,vs,rfl,h1,h2⟩
          · have x2:=Ext.lay s hp (.tup (vs++us))
            exact k _ _ _ x2 ⟨p,_,rfl,upd_same,(h2.app h4).mono x2.gg⟩
        · rw [if_neg z] at e;cases e
    | _=>cases xs <;> cases e
  | _=>cases e
theorem xe_add (ha:XV X a f) (hb:XV X b g):XE X (.BinOp a .Add b pos) (fOpE oAdd f g):=xe_bin op_addAll opv_add ha hb
theorem xe_sub (ha:XV X a f) (hb:XV X b g):XE X (.BinOp a .Sub b pos) (fOpE oSub f g):=xe_bin op_sub (opv_int0 fun _ _ _=>rfl) ha hb
theorem mulOk {i j:Int} (h:cMul i j=true):CMul i j:=by
  unfold cMul at h
  rw [Bool.or_eq_true,Bool.and_eq_true,Bool.and_eq_true,decide_eq_true_iff,decide_eq_true_iff,decide_eq_true_iff,decide_eq_true_iff] at h
  exact h
theorem divOk {i j:Int} (h:cDiv i j=true):CDiv i j:=by
  unfold cDiv at h
  rw [Bool.and_eq_true,decide_eq_true_iff,decide_eq_true_iff] at h
  exact h
theorem powOk {i j:Int} (h:cPow i j=true):CPow i j:=by
  unfold cPow at h
  rw [Bool.and_eq_true,Bool.and_eq_true,decide_eq_true_iff,decide_eq_true_iff,decide_eq_true_iff] at h
  exact ⟨h.1.1,h.1.2,h.2⟩
theorem xe_mul (ha:XV X a f) (hb:XV X b g):XE X (.BinOp a .Mult b pos) (fOpE oMul f g):=xe_bin op_mul (opv_int (fun _ _ h=>mulOk h) fun _ _ _=>rfl) ha hb
theorem xe_fdiv (ha:XV X a f) (hb:XV X b g):XE X (.BinOp a .FloorDiv b pos) (fOpE oDiv f g):=xe_bin op_fdiv (opv_int (fun _ _ h=>divOk h) fun _ _ _=>rfl) ha hb
theorem xe_mod (ha:XV X a f) (hb:XV X b g):XE X (.BinOp a .Mod b pos) (fOpE oMod f g):=xe_bin op_mod (opv_int (fun _ _ h=>of_decide_eq_true h) fun _ _ _=>rfl) ha hb
theorem xe_pow (ha:XV X a f) (hb:XV X b g):XE X (.BinOp a .Pow b pos) (fOpE oPow f g):=xe_bin op_pow (opv_int (fun _ _ h=>powOk h) fun _ _ _=>rfl) ha hb
noncomputable def oNeg:D→Option R
  | .int i=>some (.sh (.int (-i)))
  | _=>none
noncomputable def fNeg (f:FD):FE:=fun ω=>(f ω).bind oNeg
theorem xe_neg (ha:XV X a f):XE X (.UnaryOp .USub a pos) (fNeg f):=by
  obtain ⟨t,h1,h2⟩:=ha
  refine ⟨_,pe_un un_neg h1,fun G0 H0 G ω σ H d Q ow e k=>?_⟩
  obtain ⟨x,q,e⟩:=bnd e
  refine h2 G0 H0 G ω σ H x _ ow q fun v G1 H1 x1 y1=>?_
  cases x with
  | int i=>cases e;cases y1.int;exact ⟨i,rfl,k _ G1 H1 x1 rfl⟩
  | _=>cases e
theorem xe_lt (ha:XV X a f) (hb:XV X b g):XE X (.Compare a [.Lt] [b] pos) (fOpE oLt f g):=xe_cmp op_lt (opv_int0 fun _ _ _=>rfl) ha hb (nomark _)
theorem xe_le (ha:XV X a f) (hb:XV X b g):XE X (.Compare a [.LtE] [b] pos) (fOpE oLe f g):=xe_cmp op_le (opv_int0 fun _ _ _=>rfl) ha hb (nomark _)
theorem xe_gt (ha:XV X a f) (hb:XV X b g):XE X (.Compare a [.Gt] [b] pos) (fOpE oGt f g):=xe_cmp op_gt (opv_int0 fun _ _ _=>rfl) ha hb (nomark _)
theorem xt_lt (ha:XV X a f) (hb:XV X b g):XT X (.Compare a [.Lt] [b] pos) (tOf (fOpE oLt f g)):=xt_cmp op_lt (opv_int0 fun _ _ _=>rfl) ha hb (nomark _)
end
mutual
noncomputable def D.py:D→PyData
  | .non=>.none
  | .bl b=>.bool b
  | .int i=>.int i
  | .str x=>.str x
  | .lst xs=>.list (D.pys xs)
  | .tup xs=>.tuple (D.pys xs)
  | .scr ns=>.list (ns.map PyData.int)
  | .exc _=>.dict []
  | .dic _ _=>.dict []
noncomputable def D.pys:List D→List PyData
  | []=>[]
  | d::ds=>d.py::D.pys ds
end
section
variable {X:Cx} {pins:List (Addr×Obj)} {σ:St} {H:Hp} {s:Shared}
theorem reads_ints {h:Heap}:∀ {ns:List Int} {us:List Value},Vals (ns.map V.int) us→∃ as,ReadsAll h us (ns.map PyData.int) as
  | [],_,r=>by cases r;exact ⟨_,.nil⟩
  | n::ns,_,r=>by
    rw [List.map_cons] at r
    cases r with
    | cons r1 r2 =>
      obtain ⟨t,rfl⟩:=r1
      obtain ⟨as,q⟩:=reads_ints (h:=h) r2
      exact ⟨_,.cons (.int n t) q⟩
mutual
theorem reads_of (I:Inv X pins σ H s):∀ {d:D} {v:V} {u:Value},d.py.canLay0=true→Rep X.K H d v→RelV v u→∃ as,Reads s.heap u d.py as
  | .non,_,_,_,h,r=>by cases (show _=V.non from h);cases r;exact ⟨_,.none⟩
  | .bl b,_,_,_,h,r=>by cases (show _=V.bl b from h);cases r;exact ⟨_,.bool b⟩
  | .int i,_,_,_,h,r=>by cases (show _=V.int i from h);obtain ⟨t,rfl⟩:=r;exact ⟨_,.int i t⟩
  | .str x,_,_,_,h,r=>by cases (show _=V.str x from h);obtain ⟨t,rfl⟩:=r;exact ⟨_,.str x t⟩
  | .lst ds,_,_,hc,⟨a,vs,rfl,h2,h3⟩,r=>by
    cases r
    obtain ⟨its,n,rv,e,_⟩:=I.lst h2
    obtain ⟨as,q⟩:=reads_all I (show PyData.canLayAll0 (D.pys ds)=true from hc) h3 rv
    exact ⟨_,.list e rfl rfl (by simpa using q)⟩
  | .tup ds,_,_,hc,⟨a,vs,rfl,h2,h3⟩,r=>by
    cases r
    obtain ⟨its,rv,⟨o,e,c,n,dd⟩,_⟩:=I.tuple (SqT.of h2)
    obtain ⟨as,q⟩:=reads_all I (show PyData.canLayAll0 (D.pys ds)=true from hc) h3 rv
    exact ⟨_,.tuple e c dd (by simpa using q)⟩
  | .exc _,_,_,hc,_,_=>by cases hc
  | .dic _ _,_,_,hc,_,_=>by cases hc
  | .scr ns,_,_,_,⟨a,rfl,h2⟩,r=>by
    cases r
    obtain ⟨its,rv,pl,_⟩:=I.list h2
    obtain ⟨o,e,c,n,dd⟩:=pl.isList
    obtain ⟨as,q⟩:=reads_ints (h:=s.heap) rv
    exact ⟨_,.list e c dd (by simpa using q)⟩
theorem reads_all (I:Inv X pins σ H s):∀ {ds:List D} {vs:List V} {us:List Value},PyData.canLayAll0 (D.pys ds)=true→Reps X.K H ds vs→Vals vs us→∃ as,ReadsAll s.heap us (D.pys ds) as
  | [],_,_,_,h,r=>by cases (show _=[] from h);cases r;exact ⟨_,.nil⟩
  | d::ds,_,_,hc,⟨v,vr,h1,h2,h3⟩,r=>by
    have hc':=Bool.and_eq_true_iff.mp (show (d.py.canLay0 && PyData.canLayAll0 (D.pys ds))=true from hc)
    subst h1
    cases r with
    | cons r1 r2 =>
      obtain ⟨as,q1⟩:=reads_of I hc'.1 h2 r1
      obtain ⟨bs,q2⟩:=reads_all I hc'.2 h3 r2
      exact ⟨_,.cons q1 q2⟩
end
end
noncomputable def shp (d:D):Bool:=SeqAt.shaped d.py
noncomputable def eqD (x y:D):Bool:=PyData.eqv x.py y.py
noncomputable def rEqD (K:PySem.W.Frag) (neg:Bool):R2:=fun x y H Q=>∃ d e,Rep K H d x∧Rep K H e y∧shp d=true∧shp e=true∧Q (.bl (if neg then !eqD d e else eqD d e)) H
noncomputable def oEq (neg:Bool):D→D→Option R:=fun x y=>if shp x && shp y then some (.sh (.bl (if neg then !eqD x y else eqD x y))) else none
section
variable {X:Cx} {a b:Expr} {pos:Pos} {f g:FD}
theorem op_eqD (hu:X.A.units+64 < cLine):OpR X (compareOp .Eq) (rEqD X.K false):=by
  intro pins s σ H x y v u Q I rx ry h
  obtain ⟨d,e,h1,h2,h3,h4,q⟩:=h
  obtain ⟨as,ra⟩:=reads_of I (SeqAt.canLay_of_shaped h3) h1 rx
  obtain ⟨bs,rb⟩:=reads_of I (SeqAt.canLay_of_shaped h4) h2 ry
  exact SeqAt.compareEq_shaped ra rb h3 h4 hu ⟨.bl _,H,I,rfl,q⟩
theorem op_neD (hu:X.A.units+64 < cLine):OpR X (compareOp .NotEq) (rEqD X.K true):=by
  intro pins s σ H x y v u Q I rx ry h
  obtain ⟨d,e,h1,h2,h3,h4,q⟩:=h
  obtain ⟨as,ra⟩:=reads_of I (SeqAt.canLay_of_shaped h3) h1 rx
  obtain ⟨bs,rb⟩:=reads_of I (SeqAt.canLay_of_shaped h4) h2 ry
  exact SeqAt.compareNe_shaped ra rb h3 h4 hu ⟨.bl _,H,I,rfl,q⟩
theorem opv_eq {K:PySem.W.Frag} {neg:Bool}:OpV K (rEqD K neg) (oEq neg):=by
  intro G H x y d v u Q s e hx hy k
  unfold oEq at e
  by_cases z:(shp x && shp y)=true
  · rw [if_pos z] at e
    cases e
    rw [Bool.and_eq_true] at z
    exact ⟨x,y,hx.rep s,hy.rep s,z.1,z.2,k _ G H (Ext.refl s) rfl⟩
  · rw [if_neg z] at e;cases e
theorem xe_eq (hu:X.A.units+64 < cLine) (ha:XV X a f) (hb:XV X b g):XE X (.Compare a [.Eq] [b] pos) (fOpE (oEq false) f g):=xe_cmp (op_eqD hu) opv_eq ha hb (nomark _)
theorem xt_eq (hu:X.A.units+64 < cLine) (ha:XV X a f) (hb:XV X b g):XT X (.Compare a [.Eq] [b] pos) (tOf (fOpE (oEq false) f g)):=xt_cmp (op_eqD hu) opv_eq ha hb (nomark _)
theorem xt_ne (hu:X.A.units+64 < cLine) (ha:XV X a f) (hb:XV X b g):XT X (.Compare a [.NotEq] [b] pos) (tOf (fOpE (oEq true) f g)):=xt_cmp (op_neD hu) opv_eq ha hb (nomark _)
noncomputable def oIx:D→D→Option R
  | .lst ds,.int i=>(atI ds i).map R.sh
  | .tup ds,.int i=>(atI ds i).map R.sh
  | .scr ns,.int i=>(atI ns i).map fun n=>.sh (.int n)
  | _,_=>none
theorem atI_reps {K:PySem.W.Frag} {H:Hp} {ds:List D} {vs:List V} {i:Int} {d:D} (h:Reps K H ds vs) (e:atI ds i=some d):∃ v,atI vs i=some v∧Rep K H d v:=by
  unfold atI at e ⊢
  rw [←h.len]
  cases q:ixN ds.length i with
  | none=>rw [q] at e;cases e
  | some j =>
    rw [q] at e
    obtain ⟨v,e1,e2⟩:=h.get e
    exact ⟨v,e1,e2⟩
theorem atI_ints {ns:List Int} {i n:Int} (e:atI ns i=some n):atI (ns.map V.int) i=some (.int n):=by
  unfold atI at e ⊢
  rw [List.length_map]
  cases q:ixN ns.length i with
  | none=>rw [q] at e;cases e
  | some j =>
    rw [q] at e
    have e':ns[j]?=some n:=e
    show (ns.map V.int)[j]?=_
    rw [List.getElem?_map,e'];rfl
theorem opv_ix {K:PySem.W.Frag}:OpV K (rIx K) oIx:=by
  intro G H x y d v u Q s e hx hy k
  cases y with
  | int i =>
    cases hy.int
    cases x with
    | lst ds =>
      obtain ⟨d',q,e'⟩:=mpd e
      subst e'
      obtain ⟨p,vs,rfl,h1,h2⟩:=hx.lst s
      obtain ⟨w,e1,e2⟩:=atI_reps h2 q
      exact .inl ⟨p,vs,i,w,rfl,rfl,SqL.of h1,e1,k _ G H (Ext.refl s) e2⟩
    | tup ds =>
      obtain ⟨d',q,e'⟩:=mpd e
      subst e'
      obtain ⟨p,vs,rfl,h1,h2⟩:=hx.tup
      obtain ⟨w,e1,e2⟩:=atI_reps h2 q
      exact .inr (.inl ⟨p,vs,i,w,rfl,rfl,SqT.of (s _ _ h1),e1,k _ G H (Ext.refl s) e2⟩)
    | scr ns =>
      obtain ⟨n,q,e'⟩:=mpd e
      subst e'
      obtain ⟨p,rfl,h1⟩:=hx.scr
      exact .inl ⟨p,_,i,.int n,rfl,rfl,s.seq h1,atI_ints q,k _ G H (Ext.refl s) rfl⟩
    | _=>cases e
  | _=>cases x <;> cases e
theorem xe_item (ha:XV X a f) (hb:XV X b g) (hs:PlainIx b:=by exact fun _ _=>rfl):XE X (.Subscript a b pos) (fOpE oIx f g):=xe_ix ix_seq opv_ix ha hb hs
noncomputable abbrev FO:=WSt→Option (Option Int)
def SimO (K:PySem.W.Frag) (t:TO) (f:FO):Prop:=∀ G0 H0 G ω σ H o (Q:Option Int→Hp→Prop),Own K G0 H0 G ω σ H→f ω=some o→(∀ G' H',Ext G H G' H'→Q o H')→t σ H Q
def XO (X:Cx) (e:Option Expr) (f:FO):Prop:=∃ t,PO X e t∧SimO X.K t f
noncomputable def pNo:FO:=fun _=>some none
noncomputable def pAt (f:FD):FO:=fun ω=>(f ω).bind fun d=>match d with|.int i=>some (some i)|_=>none
theorem xo_none:XO X none pNo:=⟨_,po_none,fun G0 H0 G ω σ H o Q ow e k=>by cases e;exact k G H (Ext.refl ow.gh)⟩
theorem xo_some (h:XV X a f):XO X (some a) (pAt f):=by
  obtain ⟨t,h1,h2⟩:=h
  refine ⟨_,po_some h1,fun G0 H0 G ω σ H o Q ow e k=>?_⟩
  obtain ⟨d,q,e⟩:=bnd e
  refine h2 G0 H0 G ω σ H d _ ow q fun v G1 H1 x1 y1=>?_
  cases d with
  | int i=>cases e;cases y1.int;exact ⟨i,rfl,k G1 H1 x1⟩
  | _=>cases e
noncomputable def cutD {α:Type} (xs:List α) (lo hi:Option Int):List α:=(xs.drop (HT.sIx xs.length 0 lo)).take (HT.sIx xs.length xs.length hi - HT.sIx xs.length 0 lo)
theorem cut_reps {K:PySem.W.Frag} {H:Hp} {ds:List D} {vs:List V} (h:Reps K H ds vs) (lo hi:Option Int):Reps K H (cutD ds lo hi) (cutV vs lo hi):=by
  unfold cutD cutV
  rw [h.len]
  exact (h.drop _).take _
theorem cut_ints (ns:List Int) (lo hi:Option Int):cutV (ns.map V.int) lo hi=(cutD ns lo hi).map V.int:=by
  unfold cutD cutV
  rw [List.length_map,List.map_take,List.map_drop]
noncomputable def oSl:D→Option Int→Option Int→Option R
  | .lst ds,lo,hi=>some (.fr (cutD ds lo hi))
  | .scr ns,lo,hi=>some (.fr ((cutD ns lo hi).map D.int))
  | .tup ds,lo,hi=>if HT.sIx ds.length 0 lo=0∧HT.sIx ds.length ds.length hi=ds.length then some (.sh (.tup ds)) else some (.sh (.tup (cutD ds lo hi)))
  | _,_,_=>none
noncomputable def fSl (f:FD) (l h:FO):FE:=fun ω=>(f ω).bind fun d=>(l ω).bind fun lo=>(h ω).bind fun hi=>oSl d lo hi
theorem xe_slice {lo hi:Option Expr} {l h:FO} {p2:Pos} (ha:XV X a f) (hl:XO X lo l) (hh:XO X hi h):XE X (.Subscript a (.Slice lo hi none p2) pos) (fSl f l h):=by
  obtain ⟨t,h1,h2⟩:=ha
  obtain ⟨tl,h3,h4⟩:=hl
  obtain ⟨th,h5,h6⟩:=hh
  refine ⟨_,pe_slice (sl_list.or (sl_tup.or sl_whole)) h1 h3 h5,fun G0 H0 G ω σ H r Q ow e k=>?_⟩
  obtain ⟨d,q,e⟩:=bnd e
  obtain ⟨lo',q2,e⟩:=bnd e
  obtain ⟨hi',q3,e⟩:=bnd e
  refine h2 G0 H0 G ω σ H d _ ow q fun v G1 H1 x1 y1=>?_
  refine h4 G0 H0 G1 ω σ H1 lo' _ (ow.keep x1) q2 fun G2 H2 x2=>?_
  refine h6 G0 H0 G2 ω σ H2 hi' _ ((ow.keep x1).keep x2) q3 fun G3 H3 x3=>?_
  have y3:=(y1.keep x2).keep x3
  have x13:=(x1.trans x2).trans x3
  cases d with
  | lst ds =>
    cases e
    obtain ⟨p,vs,rfl,h1,h2⟩:=y3.lst x3.gh
    refine .inl ⟨p,vs,rfl,SqL.of h1,fun n hn=>?_⟩
    exact k _ G3 _ (x13.trans (Ext.hide x3.gh hn _)) ⟨n,_,rfl,x13.hh.free hn,x3.gh.free hn,upd_same,cut_reps h2 _ _⟩
  | scr ns =>
    cases e
    obtain ⟨p,rfl,h1⟩:=y3.scr
    refine .inl ⟨p,_,rfl,x3.gh.seq h1,fun n hn=>?_⟩
    refine k _ G3 _ (x13.trans (Ext.hide x3.gh hn _)) ⟨n,_,rfl,x13.hh.free hn,x3.gh.free hn,upd_same,?_⟩
    rw [cut_ints]
    exact Reps.ints _
  | tup ds =>
    unfold oSl at e
    dsimp only at e
    obtain ⟨p,vs,rfl,h1,h2⟩:=y3.tup
    by_cases z:HT.sIx ds.length 0 lo'=0∧HT.sIx ds.length ds.length hi'=ds.length
    · rw [if_pos z] at e
      cases e
      exact .inr (.inr ⟨p,vs,rfl,SqT.of (x3.gh _ _ h1),by rw [←h2.len];exact z,k _ G3 H3 x13 ⟨p,vs,rfl,h1,h2⟩⟩)
    · rw [if_neg z] at e
      cases e
      refine .inr (.inl ⟨p,vs,rfl,SqT.of (x3.gh _ _ h1),by rw [←h2.len];exact z,fun n hn=>?_⟩)
      have x4:=Ext.lay x3.gh hn (.tup (cutV vs lo' hi'))
      exact k _ _ _ (x13.trans x4) ⟨n,_,rfl,upd_same,(cut_reps h2 _ _).mono x4.gg⟩
  | _=>cases e
end
end Hk
set_option maxRecDepth 100000
namespace Hk
open PySem L2
section
variable {X:Cx} {a b c:Expr} {pos:Pos} {rest:List Expr} {f g:FT}
noncomputable def tAndF (f g:FT):FT:=fun ω=>(f ω).bind fun c=>if c=true then g ω else some false
noncomputable def tOrF (f g:FT):FT:=fun ω=>(f ω).bind fun c=>if c=true then some true else g ω
noncomputable def tNotF (f:FT):FT:=fun ω=>(f ω).map (!·)
theorem simT_and {t u:TT} (h:SimT X.K t f) (h':SimT X.K u g):SimT X.K (tAnd t u) (tAndF f g):=by
  intro G0 H0 G ω σ H b Q o e k
  obtain ⟨c,q,e⟩:=bnd e
  refine h G0 H0 G ω σ H c _ o q fun G1 H1 x1=>?_
  cases c with
  | true=>rw [if_pos rfl] at e ⊢;exact h' G0 H0 G1 ω σ H1 b Q (o.keep x1) e fun G2 H2 x2=>k G2 H2 (x1.trans x2)
  | false=>cases e;exact k G1 H1 x1
theorem simT_or {t u:TT} (h:SimT X.K t f) (h':SimT X.K u g):SimT X.K (tOr t u) (tOrF f g):=by
  intro G0 H0 G ω σ H b Q o e k
  obtain ⟨c,q,e⟩:=bnd e
  refine h G0 H0 G ω σ H c _ o q fun G1 H1 x1=>?_
  cases c with
  | true=>cases e;exact k G1 H1 x1
  | false=>exact h' G0 H0 G1 ω σ H1 b Q (o.keep x1) e fun G2 H2 x2=>k G2 H2 (x1.trans x2)
theorem xw_and1 (h:XT X a f):XW X (.BoolOp .And [a] pos) f:=let ⟨t,h1,h2⟩:=h;⟨t,pw_and1 h1,h2⟩
theorem xw_or1 (h:XT X a f):XW X (.BoolOp .Or [a] pos) f:=let ⟨t,h1,h2⟩:=h;⟨t,pw_or1 h1,h2⟩
theorem xw_and (h:XT X a f) (h':XW X (.BoolOp .And (b::rest) pos) g):XW X (.BoolOp .And (a::b::rest) pos) (tAndF f g):=let ⟨_,h1,h2⟩:=h;let ⟨_,h3,h4⟩:=h';⟨_,pw_and h1 h3,simT_and h2 h4⟩
theorem xw_or (h:XT X a f) (h':XW X (.BoolOp .Or (b::rest) pos) g):XW X (.BoolOp .Or (a::b::rest) pos) (tOrF f g):=let ⟨_,h1,h2⟩:=h;let ⟨_,h3,h4⟩:=h';⟨_,pw_or h1 h3,simT_or h2 h4⟩
theorem XW.toT (h:XW X a f):XT X a f:=let ⟨t,h1,h2⟩:=h;⟨t,h1.pt,h2⟩
theorem xt_not (h:XT X a f):XT X (.UnaryOp .Not a pos) (tNotF f):=by
  obtain ⟨t,h1,h2⟩:=h
  refine ⟨_,pt_not h1,fun G0 H0 G ω σ H b Q o e k=>?_⟩
  obtain ⟨c,q,e⟩:=mpd e
  subst e
  exact h2 G0 H0 G ω σ H c _ o q k
noncomputable def truD:D→Option Bool
  | .non=>some false
  | .bl b=>some b
  | .int i=>some (i != 0)
  | .lst xs=>some (!xs.isEmpty)
  | .tup xs=>some (!xs.isEmpty)
  | _=>none
noncomputable def tTru (f:FD):FT:=fun ω=>(f ω).bind truD
theorem isEmpty_len {α β:Type} {xs:List α} {ys:List β} (h:xs.length=ys.length):xs.isEmpty=ys.isEmpty:=by
  cases xs <;> cases ys <;> first|rfl|cases h
theorem xt_val {f:FD} (h:XV X a f) (he:∀ whole,isTrue a X.env whole=(do let v ←whole;standAt a.pos;holding [v] (truthy v)):=by intro _;rfl):XT X a (tTru f):=by
  obtain ⟨t,h1,h2⟩:=h
  refine ⟨_,pt_truth h1 he,fun G0 H0 G ω σ H b Q o e k=>?_⟩
  obtain ⟨d,q,e⟩:=bnd e
  refine h2 G0 H0 G ω σ H d _ o q fun v G1 H1 x1 y1=>⟨b,?_,k G1 H1 x1⟩
  cases d with
  | non=>cases e;cases y1.non;rfl
  | bl c=>cases e;cases y1.bl;rfl
  | int i=>cases e;cases y1.int;rfl
  | lst xs =>
    cases e
    obtain ⟨p,vs,rfl,h1,h2⟩:=y1.lst x1.gh
    exact .inl ⟨vs,SqL.of h1,by rw [isEmpty_len h2.len]⟩
  | tup xs =>
    cases e
    obtain ⟨p,vs,rfl,h1,h2⟩:=y1.tup
    exact .inr (.inl ⟨vs,SqT.of (x1.gh _ _ h1),by rw [isEmpty_len h2.len]⟩)
  | _=>cases e
noncomputable def blOf:D→Option Bool
  | .bl b=>some b
  | _=>none
noncomputable def vAnd (f g:FD):FD:=fun ω=>(f ω).bind fun d=>(blOf d).bind fun c=>if c=true then g ω else some (.bl false)
noncomputable def vNot (f:FD):FD:=fun ω=>(f ω).bind fun d=>(blOf d).map fun c=>.bl (!c)
variable {fa fb:FD}
theorem xd_one {op} (h:XD X a fa):XD X (.BoolOp op [a] pos) fa:=let ⟨t,h1,h2⟩:=h;⟨t,pe_one h1,h2⟩
theorem xd_and (h:XD X a fa) (h':XD X (.BoolOp .And (b::rest) pos) fb):XD X (.BoolOp .And (a::b::rest) pos) (vAnd fa fb):=by
  obtain ⟨t,h1,h2⟩:=h
  obtain ⟨u,h3,h4⟩:=h'
  refine ⟨_,pe_and h1 h3,fun G0 H0 G ω σ H d Q o e k=>?_⟩
  obtain ⟨x,q,e⟩:=bnd e
  obtain ⟨c,q2,e2⟩:=bnd e
  clear e
  refine h2 G0 H0 G ω σ H x _ o q fun v G1 H1 x1 y1=>?_
  cases x with
  | bl z =>
    cases (q2)
    cases (show v=V.bl c from y1)
    refine ⟨c,rfl,?_⟩
    cases c with
    | true=>rw [if_pos rfl] at e2 ⊢;exact h4 G0 H0 G1 ω σ H1 d Q (o.keep x1) e2 fun v G2 H2 x2 y2=>k v G2 H2 (x1.trans x2) y2
    | false=>cases e2;exact k _ G1 H1 x1 rfl
  | _=>cases q2
theorem xd_not (h:XD X a fa):XD X (.UnaryOp .Not a pos) (vNot fa):=by
  obtain ⟨t,h1,h2⟩:=h
  refine ⟨_,pe_not h1,fun G0 H0 G ω σ H d Q o e k=>?_⟩
  obtain ⟨x,q,e⟩:=bnd e
  obtain ⟨c,q2,e⟩:=mpd e
  subst e
  refine h2 G0 H0 G ω σ H x _ o q fun v G1 H1 x1 y1=>?_
  cases x with
  | bl z=>cases (q2);cases (show v=V.bl c from y1);exact ⟨c,rfl,k _ G1 H1 x1 rfl⟩
  | _=>cases q2
theorem RepR.after {K:PySem.W.Frag} {G H G1 H1 G2 H2:Hp} {r:R} {v:V} (x:Ext G H G1 H1) (y:RepR K H1 G2 H2 r v):RepR K H G2 H2 r v:=by
  cases r with
  | sh d=>exact y
  | fr ds=>obtain ⟨l,vs,e1,e2,e3⟩:=y;exact ⟨l,vs,e1,x.hh.free e2,e3⟩
  | vw ds=>exact y
end
def CallD (K:PySem.W.Frag) (r:List V→Hp→VK→Prop) (op:List D→Option R):Prop:=∀ G H ds vs d (Q:VK),Same G H→op ds=some d→VwA K G H ds vs →
  (∀ w G' H',Ext G H G' H'→RepR K H G' H' d w→Q w H')→r vs H Q
noncomputable def fBlt (op:List D→Option R) (g:FA):FE:=fun ω=>(g ω).bind op
section
variable {X:Cx} {e:Expr} {es:List Expr} {x:Str} {p pos:Pos} {r:List V→Hp→VK→Prop} {op:List D→Option R} {g:FA} {id T:String}
theorem sim_blt {t:TA} (hd:CallD X.K r op) (h:SimVA X.K t g):SimE X.K (tCB r t) (fBlt op g):=by
  intro G0 H0 G ω σ H d Q o e k
  obtain ⟨ds,q,e⟩:=bnd e
  refine h G0 H0 G ω σ H ds _ o q fun vs G1 H1 x1 y1=>?_
  exact hd G1 H1 ds vs d Q x1.gh e y1 fun w G2 H2 x2 y2=>k w G2 H2 (x1.trans x2) (y2.after x1)
theorem xe_blt (hc:CallR X (.builtin id) r) (hd:CallD X.K r op) (hg:Gl X x) (hm:X.mg x=none) (hv:bootBuiltins x=some (.builtin id)) (ha:XVA X (e::es) g) (hn:x ≠ "__name__" := by decide) (hdb:(x == ("__debug__" : Str))=false:=by decide)
    (he:starEach (e::es) X.env=(false,eval e X.env)::starEach es X.env:=by rfl) (hpl:(backTo pos (starEach es X.env)).any (·.1)=false:=by rfl):XE X (.Call (.Name x p) (e::es) [] pos) (fBlt op g):=by
  obtain ⟨t,h1,h2⟩:=ha
  exact ⟨_,pe_callB hc hg hm hv h1 hn hdb he hpl,sim_blt hd h2⟩
theorem xe_ty (hc:CallR X (.type T) r) (hd:CallD X.K r op) (hg:Gl X x) (hm:X.mg x=none) (hv:bootBuiltins x=some (.type T)) (ha:XVA X (e::es) g) (hn:x ≠ "__name__" := by decide) (hdb:(x == ("__debug__" : Str))=false:=by decide)
    (he:starEach (e::es) X.env=(false,eval e X.env)::starEach es X.env:=by rfl) (hpl:(backTo pos (starEach es X.env)).any (·.1)=false:=by rfl):XE X (.Call (.Name x p) (e::es) [] pos) (fBlt op g):=by
  obtain ⟨t,h1,h2⟩:=ha
  exact ⟨_,pe_callTy hc hg hm hv h1 hn hdb he hpl,sim_blt hd h2⟩
theorem VwA.one {K:PySem.W.Frag} {G H:Hp} {d:D} {vs:List V} (h:VwA K G H [d] vs):∃ v,vs=[v]∧Vw K G H d v:=by
  obtain ⟨v,r,h1,h2,h3⟩:=h
  cases (show r=[] from h3)
  exact ⟨v,h1,h2⟩
theorem VwA.two {K:PySem.W.Frag} {G H:Hp} {d e:D} {vs:List V} (h:VwA K G H [d,e] vs):∃ v u,vs=[v,u]∧Vw K G H d v∧Vw K G H e u:=by
  obtain ⟨v,r,h1,h2,h3⟩:=h
  obtain ⟨u,rfl,h4⟩:=VwA.one h3
  exact ⟨v,u,h1,h2,h4⟩
noncomputable def bLen:List D→Option R
  | [.lst ds]=>some (.sh (.int ds.length))
  | [.tup ds]=>some (.sh (.int ds.length))
  | [.scr ns]=>some (.sh (.int ns.length))
  | _=>none
theorem cd_len {K:PySem.W.Frag}:CallD K (fun xs H Q=>∃ p ys,xs=[.ref p]∧(SqL K H p ys∨SqT K H p ys)∧Q (.int ys.length) H) bLen:=by
  intro G H ds vs d Q s e hv k
  match ds,e with
  | [.lst ds],e =>
    cases e
    obtain ⟨v,rfl,h⟩:=hv.one
    obtain ⟨p,us,rfl,h1,h2⟩:=h.lst s
    exact ⟨p,us,rfl,.inl (SqL.of h1),k _ G H (Ext.refl s) (by show V.int _=V.int _;rw [h2.len])⟩
  | [.tup ds],e =>
    cases e
    obtain ⟨v,rfl,h⟩:=hv.one
    obtain ⟨p,us,rfl,h1,h2⟩:=h.tup
    exact ⟨p,us,rfl,.inr (SqT.of (s _ _ h1)),k _ G H (Ext.refl s) (by show V.int _=V.int _;rw [h2.len])⟩
  | [.scr ns],e =>
    cases e
    obtain ⟨v,rfl,h⟩:=hv.one
    obtain ⟨p,rfl,h1⟩:=h.scr
    exact ⟨p,_,rfl,.inl (s.seq h1),k _ G H (Ext.refl s) (by show V.int _=V.int _;rw [List.length_map])⟩
noncomputable def bAbs:List D→Option R
  | [.int i]=>some (.sh (.int (if i < 0 then -i else i)))
  | _=>none
theorem cd_abs {K:PySem.W.Frag}:CallD K (fun xs H Q=>∃ i,xs=[.int i]∧Q (.int (if i < 0 then -i else i)) H) bAbs:=by
  intro G H ds vs d Q s e hv k
  match ds,e with
  | [.int i],e =>
    cases e
    obtain ⟨v,rfl,h⟩:=hv.one
    cases h.int
    exact ⟨i,rfl,k _ G H (Ext.refl s) rfl⟩
noncomputable def bList:List D→Option R
  | [.lst ds]=>some (.fr ds)
  | [.tup ds]=>some (.fr ds)
  | _=>none
theorem cd_list {K:PySem.W.Frag}:CallD K (fun xs H Q=>∃ p ys,xs=[.ref p]∧(SqL K H p ys∨SqT K H p ys)∧∀ l,H l=none→Q (.ref l) (upd H l (.lst ys))) bList:=by
  intro G H ds vs d Q s e hv k
  match ds,e with
  | [.lst ds],e =>
    cases e
    obtain ⟨v,rfl,h⟩:=hv.one
    obtain ⟨p,us,rfl,h1,h2⟩:=h.lst s
    exact ⟨p,us,rfl,.inl (SqL.of h1),fun l hl=>k _ G _ (Ext.hide s hl _) ⟨l,us,rfl,hl,s.free hl,upd_same,h2⟩⟩
  | [.tup ds],e =>
    cases e
    obtain ⟨v,rfl,h⟩:=hv.one
    obtain ⟨p,us,rfl,h1,h2⟩:=h.tup
    exact ⟨p,us,rfl,.inr (SqT.of (s _ _ h1)),fun l hl=>k _ G _ (Ext.hide s hl _) ⟨l,us,rfl,hl,s.free hl,upd_same,h2⟩⟩
noncomputable def allB:List D→Option Bool
  | []=>some true
  | .bl b::r=>(allB r).map fun c=>b && c
  | _=>none
noncomputable def bAll:List D→Option R
  | [.lst ds]=>(allB ds).map fun b=>.sh (.bl b)
  | _=>none
noncomputable def sumI:List D→Option Int
  | []=>some 0
  | .int i::r=>(sumI r).map fun c=>i+c
  | _=>none
noncomputable def bSum:List D→Option R
  | [.lst ds]=>(sumI ds).map fun b=>.sh (.int b)
  | _=>none
end
def rAll:List V→Hp→VK→Prop:=fun xs H Q=>∃ (p:Addr) (bs:List Bool),xs=[.ref p]∧H p=some (.lst (bs.map V.bl))∧Q (.bl (bs.all id)) H
def rSum:List V→Hp→VK→Prop:=fun xs H Q=>∃ (p:Addr) (ns:List Int),xs=[.ref p]∧H p=some (.lst (ns.map V.int))∧Q (.int ns.sum) H
section
variable {X:Cx}
theorem vals_bl:∀ {bs:List Bool} {us:List Value},Vals (bs.map V.bl) us→us=bs.map Value.bool
  | [],_,r=>by cases r;rfl
  | b::bs,_,r=>by
    rw [List.map_cons] at r
    cases r with
    | cons r1 r2=>cases r1;rw [vals_bl r2];rfl
theorem all_range {bs:List Bool}:(List.range bs.length).all (fun i=>bs.getD i false)=bs.all id:=by
  induction bs with
  | nil=>rfl
  | cons b r ih =>
    rw [List.length_cons,List.range_succ_eq_map,List.all_cons,List.all_map,List.all_cons]
    have e:((fun i=>(b::r).getD i false) ∘ Nat.succ)=fun i=>r.getD i false:=by funext i;rfl
    rw [e,ih];rfl
theorem call_allL (hc:X.calm=true):CallR X (.builtin "all") rAll:=by
  intro pins s σ H xs us Q I r h
  obtain ⟨p,bs,rfl,hp,q⟩:=h
  obtain ⟨u,rfl,rx⟩:=vals1 r
  cases rx
  obtain ⟨its,n,rv,e,hz⟩:=I.lst hp
  have ei:=vals_bl rv
  have hlt:p < s.heap.objs.size:=Heap.lt_size e
  refine call_all_walk (wpAny_pyIter_list (items:=its.toArray) ⟨_,e,rfl,n,rfl⟩ ?_)
  refine ⟨s.heap.objs.size,_,_,its.toArray.size,_,_,fun i=>bs.getD i false,rfl,Walks.list (by first|exact I.ok.hd hc|(show X.A.handled=none;exact I.ok.hd hc)) _ p (Nat.ne_of_lt hlt) its.toArray,⟨⟨_,Heap.get?_push_size _ rfl,rfl,rfl⟩,⟨_,Heap.get?_push_of_some _ e,rfl,n,rfl⟩⟩,fun i v s' Q' E' hv hq=>?_,fun h' tk hk=>?_⟩
  · have hv':its[i]?=some v:=by simpa using hv
    rw [ei,List.getElem?_map] at hv'
    cases eb:bs[i]? with
    | none=>rw [eb] at hv';cases hv'
    | some b =>
      rw [eb] at hv'
      cases hv'
      have:bs.getD i false=b:=by rw [List.getD_eq_getElem?_getD,eb];rfl
      have hq':Q' b s':=by rw [←this];exact hq
      exact wpAny_truthy_bool hq'
  · have hl:its.toArray.size=bs.length:=by rw [List.size_toArray,ei,List.length_map]
    rw [hl,all_range]
    exact ⟨.bl _,H,I.kept (fun b o z=>hk b o (fun hm=>by
      have:b=s.heap.objs.size:=by simpa using hm
      subst this
      exact absurd (Heap.lt_size z) (Nat.lt_irrefl _)) (Heap.get?_push_of_some _ z)),rfl,q⟩
theorem allB_of:∀ {ds:List D} {b:Bool},allB ds=some b→∃ bs:List Bool,ds=bs.map D.bl∧bs.all id=b
  | [],_,e=>by cases e;exact ⟨[],rfl,rfl⟩
  | .bl c::r,b,e=>by
    obtain ⟨k,q,e⟩:=mpd e
    obtain ⟨bs,h1,h2⟩:=allB_of q
    exact ⟨c::bs,by rw [h1];rfl,by rw [List.all_cons,h2];exact e⟩
  | .non::_,_,e=>by cases e
  | .int _::_,_,e=>by cases e
  | .str _::_,_,e=>by cases e
  | .lst _::_,_,e=>by cases e
  | .tup _::_,_,e=>by cases e
  | .scr _::_,_,e=>by cases e
  | .exc _::_,_,e=>by cases e
  | .dic _ _::_,_,e=>by cases e
theorem sumI_of:∀ {ds:List D} {b:Int},sumI ds=some b→∃ bs:List Int,ds=bs.map D.int∧bs.sum=b
  | [],_,e=>by cases e;exact ⟨[],rfl,rfl⟩
  | .int c::r,b,e=>by
    obtain ⟨k,q,e⟩:=mpd e
    obtain ⟨bs,h1,h2⟩:=sumI_of q
    exact ⟨c::bs,by rw [h1];rfl,by rw [List.sum_cons,h2];exact e⟩
  | .non::_,_,e=>by cases e
  | .bl _::_,_,e=>by cases e
  | .str _::_,_,e=>by cases e
  | .lst _::_,_,e=>by cases e
  | .tup _::_,_,e=>by cases e
  | .scr _::_,_,e=>by cases e
  | .exc _::_,_,e=>by cases e
  | .dic _ _::_,_,e=>by cases e
theorem reps_bl {K:PySem.W.Frag} {H:Hp}:∀ {bs:List Bool} {vs:List V},Reps K H (bs.map D.bl) vs→vs=bs.map V.bl
  | [],_,h=>h
  | n::r,_,⟨v,vs,h1,h2,h3⟩=>by
    have:=reps_bl h3
    have e:v=.bl n:=h2
    rw [h1,this,e];rfl
theorem cd_all {K:PySem.W.Frag}:CallD K rAll bAll:=by
  intro G H ds vs d Q s e hv k
  match ds,e with
  | [.lst ds],e =>
    obtain ⟨b,q,e⟩:=mpd e
    subst e
    obtain ⟨bs,rfl,rfl⟩:=allB_of q
    obtain ⟨v,rfl,h⟩:=hv.one
    obtain ⟨p,us,rfl,h1,h2⟩:=h.lst s
    exact ⟨p,bs,rfl,by rw [h1,reps_bl h2],k _ G H (Ext.refl s) rfl⟩
theorem preSum_get:∀ (ns:List Int) (k:Nat),k≤ns.length→preSum (fun i=>ns.getD i 0) k=(ns.take k).sum
  | _,0,_=>rfl
  | ns,k+1,h=>by
    have e:ns.take (k+1)=ns.take k++[ns.getD k 0]:=by
      rw [List.take_add_one,List.getElem?_eq_getElem (by omega),List.getD_eq_getElem?_getD,List.getElem?_eq_getElem (by omega)];rfl
    show preSum (fun i=>ns.getD i 0) k+ns.getD k 0=_
    rw [preSum_get ns k (by omega),e,List.sum_append]
    simp
theorem call_sumL (hc:X.calm=true):CallR X (.builtin "sum") rSum:=by
  intro pins s σ H xs us Q I r h
  obtain ⟨p,ns,rfl,hp,q⟩:=h
  obtain ⟨u,rfl,rx⟩:=vals1 r
  cases rx
  obtain ⟨its,n,rv,e,hz⟩:=I.lst hp
  have ia:=intsAre_of rv
  have hlen:its.length=ns.length:=by rw [←rv.length,List.length_map]
  have hlt:p < s.heap.objs.size:=Heap.lt_size e
  refine call_sum_walkAnyS (wpAny_pyIter_list (items:=its.toArray) ⟨_,e,rfl,n,rfl⟩ ?_)
  refine ⟨s.heap.objs.size,_,_,_,its.toArray.size,_,_,fun i=>ns.getD i 0,rfl,(Walks.list (by first|exact I.ok.hd hc|(show X.A.handled=none;exact I.ok.hd hc)) _ p (Nat.ne_of_lt hlt) its.toArray).toS,⟨⟨_,Heap.get?_push_size _ rfl,rfl,rfl⟩,⟨_,Heap.get?_push_of_some _ e,rfl,n,rfl⟩⟩,fun b hb=>?_,fun i v hv=>PyProof.Rows.IntsAre.int_at ia i v (by simpa using hv),fun s' t' hm=>?_⟩
  · show b < (s.heap.push _).objs.size
    rw [Heap.size_push]
    rcases List.mem_cons.mp hb with rfl|hb
    · exact Nat.lt_succ_self _
    · rw [List.mem_singleton.mp hb];exact Nat.lt_succ_of_lt hlt
  · rw [Moved.eq_with hm]
    have es:preSum (fun i=>ns.getD i 0) its.toArray.size=ns.sum:=by
      rw [List.size_toArray,hlen,preSum_get ns _ (Nat.le_refl _),List.take_length]
    rw [es]
    exact ⟨.int _,H,I.kept (fun b o z=>hm.heap b o (fun hmm=>by
      have:b=s.heap.objs.size:=by simpa using hmm
      subst this
      exact absurd (Heap.lt_size z) (Nat.lt_irrefl _)) (Heap.get?_push_of_some _ z)),⟨_,rfl⟩,q⟩
theorem cd_sum {K:PySem.W.Frag}:CallD K rSum bSum:=by
  intro G H ds vs d Q s e hv k
  match ds,e with
  | [.lst ds],e =>
    obtain ⟨b,q,e⟩:=mpd e
    subst e
    obtain ⟨bs,rfl,rfl⟩:=sumI_of q
    obtain ⟨v,rfl,h⟩:=hv.one
    obtain ⟨p,us,rfl,h1,h2⟩:=h.lst s
    exact ⟨p,bs,rfl,by rw [h1,h2.of_ints],k _ G H (Ext.refl s) rfl⟩
end
inductive Ty where
  | non|bl|int|str|lst|tup|dic
noncomputable def Ty.n:Ty→String
  | .non => "NoneType"
  | .bl => "bool"
  | .int => "int"
  | .str => "str"
  | .lst => "list"
  | .tup => "tuple"
  | .dic => "dict"
noncomputable def tyD:D→Ty
  | .non=>.non
  | .bl _=>.bl
  | .int _=>.int
  | .str _=>.str
  | .lst _=>.lst
  | .tup _=>.tup
  | .scr _=>.lst
  | .exc _=>.non
  | .dic _ _=>.non
noncomputable def subT:Ty→Ty→Bool
  | .non,.non=>true
  | .bl,.bl=>true
  | .bl,.int=>true
  | .int,.int=>true
  | .str,.str=>true
  | .lst,.lst=>true
  | .tup,.tup=>true
  | _,_=>false
noncomputable def fIsi (c:Ty) (f:FD):FE:=fun ω=>(f ω).bind fun d=>match d with
  | .scr _=>none
  | .exc _=>none
  | .dic _ _=>none
  | d=>some (.sh (.bl (subT (tyD d) c)))
def IsT (K:PySem.W.Frag) (c:Ty):Prop:=∀ t:Ty,t≠.dic→PySem.W.kitOne K (.type t.n) (.type c.n)=some (subT t c)
def rIsi (K:PySem.W.Frag):List V→Hp→VK→Prop:=fun xs H Q=>∃ x c T b,xs=[x,.ty c]∧TyOf K H x (.type T)∧PySem.W.kitOne K (.type T) (.type c)=some b∧Q (.bl b) H
section
variable {X:Cx} {a:Expr} {f:FD}
theorem call_isi:CallR X (.builtin "isinstance") (rIsi X.K):=by
  intro pins s σ H xs us Q I r h
  obtain ⟨x,c,T,b,rfl,ty,e,q⟩:=h
  obtain ⟨u1,u2,rfl,r2,r3⟩:=vals2 r
  cases (show u2=Value.type c from r3)
  exact isinst_ok I r2 ty e fun tk=>⟨.bl b,H,I.tok tk,rfl,q⟩
theorem tyOf_vw {K:PySem.W.Frag} {G H:Hp} {d:D} {v:V} (h:Vw K G H d v) (s:Same G H) (n:∀ ns,d≠.scr ns) (n':∀ c,d≠.exc c) (n'':∀ ks ds,d≠.dic ks ds):TyOf K H v (.type (tyD d).n):=by
  cases d with
  | non=>cases h.non;exact .non
  | bl b=>cases h.bl;exact .bl b
  | int i=>cases h.int;exact .int i
  | str x=>cases h.str;exact .str x
  | lst ds=>obtain ⟨p,us,rfl,h1,_⟩:=h.lst s;exact .lst h1
  | tup ds=>obtain ⟨p,us,rfl,h1,_⟩:=h.tup;exact .tup (s _ _ h1)
  | scr ns=>exact absurd rfl (n ns)
  | exc c=>exact absurd rfl (n' c)
  | dic ks ds=>exact absurd rfl (n'' ks ds)
theorem tyD_in (d:D):tyD d≠.dic:=by cases d <;> exact fun z=>nomatch z
theorem xe_isi {c:Ty} {x:Str} {p q pos:Pos} (ha:XV X a f) (hk:IsT X.K c) (hg:Gl X "isinstance") (hm:X.mg "isinstance" = none) (hgc:Gl X x) (hmc:X.mg x=none) (hvc:bootBuiltins x=some (.type c.n)) (hnx:x ≠ "__name__" := by decide) (hdx:(x == ("__debug__" : Str))=false:=by decide)
    (he:starEach [a,.Name x q] X.env=(false,eval a X.env)::starEach [.Name x q] X.env:=by rfl) (he2:starEach [.Name x q] X.env=(false,eval (.Name x q) X.env)::starEach [] X.env:=by rfl) (hpl:(backTo pos (starEach [.Name x q] X.env)).any (·.1)=false:=by rfl) :
    XE X (.Call (.Name "isinstance" p) [a,.Name x q] [] pos) (fIsi c f):=by
  obtain ⟨t,h1,h2⟩:=ha
  refine ⟨_,pe_callB call_isi hg hm PyProof.Rows.boot_isinstance (pa_cons h1 (pa_cons (pe_bltn hgc hmc hvc (v:=.ty c.n) rfl hnx hdx) pa_nil he2) he) (by decide) (by decide) he hpl,fun G0 H0 G ω σ H r Q o e k=>?_⟩
  obtain ⟨d,q,e⟩:=bnd e
  refine h2 G0 H0 G ω σ H d _ o q fun v G1 H1 x1 y1=>?_
  have n:∀ ns,d≠.scr ns:=fun ns z=>by subst z;cases e
  have n':∀ c,d≠.exc c:=fun ns z=>by subst z;cases e
  have n'':∀ ks ds,d≠.dic ks ds:=fun ks ds z=>by subst z;cases e
  have e':r=.sh (.bl (subT (tyD d) c)):=by
    cases d <;> first|(cases e;rfl)|cases e
  subst e'
  exact ⟨v,c.n,(tyD d).n,subT (tyD d) c,rfl,tyOf_vw y1 x1.gh n n' n'',hk _ (tyD_in d),k _ G1 H1 x1 rfl⟩
end
end Hk
set_option maxRecDepth 100000
namespace Hk
open PySem L2
inductive Out where
  | nx|bk|ct|rt (r:O)
noncomputable abbrev FS:=WSt→Option (Out×WSt)
def Post (K:PySem.W.Frag) (H0 G':Hp) (E:Ends):Out→St→Hp→Prop
  | .nx,σ,H=>E.nx σ H
  | .bk,σ,H=>E.bk σ H
  | .ct,σ,H=>E.ct σ H
  | .rt r,_,H=>∀ v,RepR K H0 G' H r.r v→E.rt v H
def SimS (K:PySem.W.Frag) (t:TS) (f:FS):Prop:=∀ G0 H0 G ω σ H out ω' (E:Ends),Own K G0 H0 G ω σ H→f ω=some (out,ω') →
  (∀ G' σ' H',Own K G0 H0 G' ω' σ' H'→Same G G'→Post K H0.hp G' E out σ' H')→t E σ H
def XS (X:Cx) (st:Stmt) (f:FS):Prop:=∃ t,PS X st t∧SimS X.K t f
def XSs (X:Cx) (st:List Stmt) (f:FS):Prop:=∃ t,PSs X st t∧SimS X.K t f
noncomputable def sNil:FS:=fun ω=>some (.nx,ω)
noncomputable def sSeq (f g:FS):FS:=fun ω=>(f ω).bind fun p=>match p.1 with
  | .nx=>g p.2
  | o=>some (o,p.2)
section
variable {X:Cx} {st:Stmt} {rest:List Stmt} {f g:FS}
theorem xss_nil:XSs X [] sNil:=⟨_,pss_nil,fun G0 H0 G ω σ H out ω' E o e k=>by cases e;exact k G σ H o (Same.refl _)⟩
theorem xss_one (h:XS X st f):XSs X [st] f:=let ⟨t,h1,h2⟩:=h;⟨t,pss_one h1,h2⟩
theorem xss_cons (h:XS X st f) (h':XSs X rest g):XSs X (st::rest) (sSeq f g):=by
  obtain ⟨t,h1,h2⟩:=h
  obtain ⟨u,h3,h4⟩:=h'
  refine ⟨_,pss_cons h1 h3,fun G0 H0 G ω σ H out ω' E o e k=>?_⟩
  obtain ⟨⟨o1,ω1⟩,q,e⟩:=bnd e
  refine h2 G0 H0 G ω σ H o1 ω1 _ o q fun G1 σ1 H1 w1 g1=>?_
  cases o1 with
  | nx=>exact h4 G0 H0 G1 ω1 σ1 H1 out ω' E w1 e fun G2 σ2 H2 w2 g2=>k G2 σ2 H2 w2 (g1.trans g2)
  | bk=>cases e;exact k G1 σ1 H1 w1 g1
  | ct=>cases e;exact k G1 σ1 H1 w1 g1
  | rt r=>cases e;exact k G1 σ1 H1 w1 g1
end
section
variable {K:PySem.W.Frag} {G0:Hp} {H0:Fr} {G:Hp} {ω:WSt} {σ:St} {H:Hp}
theorem get_set {α:Type} {l:List α} {i j:Nat} {x y:α} (h:(l.set i x)[j]?=some y):(i=j∧i < l.length∧y=x)∨(i≠j∧l[j]?=some y):=by
  rw [List.getElem?_set] at h
  by_cases e:i=j
  · rw [if_pos e] at h
    by_cases z:i < l.length
    · rw [if_pos z] at h;exact .inl ⟨e,z,(Option.some.inj h).symm⟩
    · rw [if_neg z] at h;cases h
  · rw [if_neg e] at h;exact .inr ⟨e,h⟩
theorem set_self {α:Type} {l:List α} {i:Nat} {x:α} (h:i < l.length):(l.set i x)[i]?=some x:=List.getElem?_set_self h
theorem PwOk.set {i:Nat} {w:Option W} {v:Option V} (o:PwOk K H0 G ω σ H) (hw:∀ ds,w≠some (.pw ds)) (hv:∀ ds,w=some (.ow ds)→∀ (j:Nat) es,ω[j]?=some (some (.pw es))→v≠some (.ref (H0.pin j))):PwOk K H0 G (ω.set i w) (σ.set i v) H:=by
  intro j ds hj
  rcases get_set hj with ⟨rfl,hl,z⟩|⟨ne,z⟩
  · exact absurd z.symm (hw ds)
  · obtain ⟨vs,h1,h2,h3,h4,h5,h6,h7⟩:=o j ds z
    refine ⟨vs,by rw [List.getElem?_set_ne ne];exact h1,h2,h3,h4,h5,fun k es hk=>?_,fun k es hk sk=>?_⟩
    · rcases get_set hk with ⟨rfl,hl',z'⟩|⟨ne',z'⟩
      · exact absurd z'.symm (hw es)
      · exact h6 k es z'
    · rcases get_set hk with ⟨rfl,hl',z'⟩|⟨ne',z'⟩
      · rcases get_set sk with ⟨_,_,e⟩|⟨ne2,_⟩
        · exact hv es z'.symm j ds z e.symm
        · exact ne2 rfl
      · rw [List.getElem?_set_ne ne'] at sk;exact h7 k es z' sk
theorem PwOk.setW {i:Nat} {w:Option W} (o:PwOk K H0 G ω σ H) (hw:∀ ds,w≠some (.pw ds)) (ho:∀ ds,w≠some (.ow ds)):PwOk K H0 G (ω.set i w) σ H:=by
  intro j ds hj
  rcases get_set hj with ⟨rfl,hl,z⟩|⟨ne,z⟩
  · exact absurd z.symm (hw ds)
  · obtain ⟨vs,h1,h2,h3,h4,h5,h6,h7⟩:=o j ds z
    refine ⟨vs,h1,h2,h3,h4,h5,fun k es hk=>?_,fun k es hk=>?_⟩
    · rcases get_set hk with ⟨rfl,hl',z'⟩|⟨ne',z'⟩
      · exact absurd z'.symm (hw es)
      · exact h6 k es z'
    · rcases get_set hk with ⟨rfl,hl',z'⟩|⟨ne',z'⟩
      · exact absurd z'.symm (ho es)
      · exact h7 k es z'
theorem PwOk.upd {p:Addr} {ob:HO} (o:PwOk K H0 G ω σ H) (hp:∀ (j:Nat) es,ω[j]?=some (some (.pw es))→H0.pin j≠p):PwOk K H0 G ω σ (upd H p ob):=by
  intro j ds hj
  obtain ⟨vs,h1,h2,h3⟩:=o j ds hj
  exact ⟨vs,h1,by rw [upd_ne (hp j ds hj)];exact h2,h3⟩
theorem PwOk.grow {p:Addr} {ob:HO} (o:PwOk K H0 G ω σ H) (g:G p=none) (hp:∀ (j:Nat) es,ω[j]?=some (some (.pw es))→H0.pin j≠p):PwOk K H0 (L2.upd G p ob) ω σ H:=by
  intro j ds hj
  obtain ⟨vs,h1,h2,h3,h4,h5,h6⟩:=o j ds hj
  exact ⟨vs,h1,h2,by rw [upd_ne (hp j ds hj)];exact h3,h4,h5.mono (same_upd g _),h6⟩
theorem PwOk.ne_ow {i:Nat} {ds:List D} {l:Addr} (o:PwOk K H0 G ω σ H) (hi:ω[i]?=some (some (.ow ds))) (hσ:σ[i]?=some (some (.ref l))):∀ (j:Nat) es,ω[j]?=some (some (.pw es))→H0.pin j≠l:=fun j es hj y=>by
  obtain ⟨_,_,_,_,_,_,_,h7⟩:=o j es hj
  exact h7 i ds hi (by rw [y];exact hσ)
theorem PwOk.ne_ob {l:Addr} (o:PwOk K H0 G ω σ H) (h:∀ vs,H l≠some (.lst vs)):∀ (j:Nat) es,ω[j]?=some (some (.pw es))→H0.pin j≠l:=fun j es hj y=>by
  obtain ⟨vs,_,h2,_⟩:=o j es hj
  exact h vs (by rw [←y];exact h2)
theorem PwOk.setL {i:Nat} {ds es:List D} (o:PwOk K H0 G ω σ H) (hi:ω[i]?=some (some (.ow ds))):PwOk K H0 G (ω.set i (some (.ow es))) σ H:=by
  intro j ds' hj
  rcases get_set hj with ⟨rfl,hl,z⟩|⟨ne,z⟩
  · cases z
  · obtain ⟨vs,h1,h2,h3,h4,h5,h6,h7⟩:=o j ds' z
    refine ⟨vs,h1,h2,h3,h4,h5,fun k es hk=>?_,fun k es hk=>?_⟩
    · rcases get_set hk with ⟨rfl,hl',z'⟩|⟨ne',z'⟩
      · cases z'
      · exact h6 k es z'
    · rcases get_set hk with ⟨rfl,hl',z'⟩|⟨ne',z'⟩
      · exact h7 i ds hi
      · exact h7 k es z'
theorem Own.od_set {i:Nat} {w:Option W} {v:Option V} (o:Own K G0 H0 G ω σ H) (h:∀ ks ds,w≠some (.od ks ds)):∀ (j:Nat) ks ds,(ω.set i w)[j]?=some (some (.od ks ds))→∃ p vs,(σ.set i v)[j]?=some (some (.ref p))∧H p=some (.dK (kvsOf ks vs))∧G p=none∧H0 p=none∧ks.length=ds.length∧Reps K G ds vs ∧
    ∀ (k:Nat) ks' es,(ω.set i w)[k]?=some (some (.od ks' es))→(σ.set i v)[k]?=some (some (.ref p))→j=k:=by
  intro j ks ds hj
  rcases get_set hj with ⟨rfl,hl,z⟩|⟨ne,z⟩
  · exact absurd z.symm (h ks ds)
  · obtain ⟨p,vs,h1,h2,h3,h4,h5,h6,h7⟩:=o.od j ks ds z
    refine ⟨p,vs,by rw [List.getElem?_set_ne ne];exact h1,h2,h3,h4,h5,h6,fun k ks' es hk sk=>?_⟩
    rcases get_set hk with ⟨rfl,hl',z'⟩|⟨ne',z'⟩
    · exact absurd z'.symm (h ks' es)
    · rw [List.getElem?_set_ne ne'] at sk
      exact h7 k ks' es z' sk
theorem Own.setSh {i:Nat} {d:D} {v:V} (o:Own K G0 H0 G ω σ H) (h:Rep K G d v):Own K G0 H0 G (ω.set i (some (.sh d))) (σ.set i (some v)) H:=by
  refine ⟨o.ext,by rw [List.length_set,List.length_set,o.len],fun j e hj=>?_,fun j ds hj=>?_,fun j k ds es l hj hk sj sk=>?_,o.od_set (fun _ _ z=>by cases z),o.pw.set (fun _ z=>by cases z) (fun _ z=>by cases z)⟩
  · rcases get_set hj with ⟨rfl,hl,z⟩|⟨ne,z⟩
    · cases z;exact ⟨v,set_self (by rw [←o.len];exact hl),h⟩
    · obtain ⟨u,h1,h2⟩:=o.sh j e z
      exact ⟨u,by rw [List.getElem?_set_ne ne];exact h1,h2⟩
  · rcases get_set hj with ⟨rfl,hl,z⟩|⟨ne,z⟩
    · cases z
    · obtain ⟨l,vs,h1,h2⟩:=o.ow j ds z
      exact ⟨l,vs,by rw [List.getElem?_set_ne ne];exact h1,h2⟩
  · rcases get_set hj with ⟨rfl,hl,z⟩|⟨ne,z⟩
    · cases z
    · rcases get_set hk with ⟨rfl,hl',z'⟩|⟨ne',z'⟩
      · cases z'
      · rw [List.getElem?_set_ne ne] at sj
        rw [List.getElem?_set_ne ne'] at sk
        exact o.nd j k ds es l z z' sj sk
theorem Own.setOw {i:Nat} {ds:List D} {l:Addr} {vs:List V} (o:Own K G0 H0 G ω σ H) (h1:H l=some (.lst vs)) (h2:G l=none) (h3:H0 l=none) (h4:Reps K G ds vs)
    (h5:∀ (j:Nat) es,ω[j]?=some (some (.ow es))→σ[j]?≠some (some (.ref l))) (h6:∀ (j:Nat) es,ω[j]?=some (some (.pw es))→H0.pin j≠l):Own K G0 H0 G (ω.set i (some (.ow ds))) (σ.set i (some (.ref l))) H:=by
  refine ⟨o.ext,by rw [List.length_set,List.length_set,o.len],fun j e hj=>?_,fun j es hj=>?_,fun j k es fs m hj hk sj sk=>?_,o.od_set (fun _ _ z=>by cases z),o.pw.set (fun _ z=>by cases z) (fun _ _ j es hj y=>h6 j es hj (by cases y;rfl))⟩
  · rcases get_set hj with ⟨rfl,hl,z⟩|⟨ne,z⟩
    · cases z
    · obtain ⟨u,q1,q2⟩:=o.sh j e z
      exact ⟨u,by rw [List.getElem?_set_ne ne];exact q1,q2⟩
  · rcases get_set hj with ⟨rfl,hl,z⟩|⟨ne,z⟩
    · cases z;exact ⟨l,vs,set_self (by rw [←o.len];exact hl),h1,h2,h3,h4⟩
    · obtain ⟨m,us,q1,q2⟩:=o.ow j es z
      exact ⟨m,us,by rw [List.getElem?_set_ne ne];exact q1,q2⟩
  · rcases get_set hj with ⟨e1,hl,z⟩|⟨ne,z⟩
    · rcases get_set hk with ⟨e2,hl',z'⟩|⟨ne',z'⟩
      · exact e1.symm.trans e2
      · rw [List.getElem?_set_ne ne'] at sk
        subst e1
        rw [set_self (by rw [←o.len];exact hl)] at sj
        cases sj
        exact absurd sk (h5 k fs z')
    · rcases get_set hk with ⟨e2,hl',z'⟩|⟨ne',z'⟩
      · rw [List.getElem?_set_ne ne] at sj
        subst e2
        rw [set_self (by rw [←o.len];exact hl')] at sk
        cases sk
        exact absurd sj (h5 j es z)
      · rw [List.getElem?_set_ne ne] at sj
        rw [List.getElem?_set_ne ne'] at sk
        exact o.nd j k es fs m z z' sj sk
theorem Own.mut {i:Nat} {ds es:List D} {l:Addr} {vs us:List V} (o:Own K G0 H0 G ω σ H) (hi:ω[i]?=some (some (.ow ds))) (hσ:σ[i]?=some (some (.ref l))) (h1:H l=some (.lst vs)) (h2:G l=none) (h3:H0 l=none) (h4:Reps K G es us) :
    Own K G0 H0 G (ω.set i (some (.ow es))) σ (upd H l (.lst us)):=by
  have ho:i < ω.length:=(List.getElem?_eq_some_iff.mp hi).1
  refine ⟨⟨o.ext.gg,same_updR o.ext.gh h2 _,same_updR o.ext.hh h3 _,o.ext.new⟩,by rw [List.length_set,o.len],fun j e hj=>?_,fun j fs hj=>?_,fun j k fs gs m hj hk sj sk=>?_,fun j ks fs hj=>?_,(o.pw.upd (o.pw.ne_ow hi hσ)).setL hi⟩
  · rcases get_set hj with ⟨rfl,hl,z⟩|⟨ne,z⟩
    · cases z
    · exact o.sh j e z
  · rcases get_set hj with ⟨rfl,hl,z⟩|⟨ne,z⟩
    · cases z;exact ⟨l,us,hσ,upd_same,h2,h3,h4⟩
    · obtain ⟨m,ws,q1,q2,q3,q4,q5⟩:=o.ow j fs z
      have hm:m≠l:=fun y=>ne (o.nd i j ds fs l hi z hσ (by rw [←y];exact q1))
      exact ⟨m,ws,q1,by rw [upd_ne hm];exact q2,q3,q4,q5⟩
  · rcases get_set hj with ⟨e1,hl,z⟩|⟨ne,z⟩
    · rcases get_set hk with ⟨e2,hl',z'⟩|⟨ne',z'⟩
      · exact e1.symm.trans e2
      · subst e1;exact o.nd i k ds gs m hi z' sj sk
    · rcases get_set hk with ⟨e2,hl',z'⟩|⟨ne',z'⟩
      · subst e2;exact o.nd j i fs ds m z hi sj sk
      · exact o.nd j k fs gs m z z' sj sk
  · rcases get_set hj with ⟨e1,hl,z⟩|⟨ne,z⟩
    · cases z
    · obtain ⟨p,ws,q1,q2,q3,q4,q5,q6,q7⟩:=o.od j ks fs z
      have hp:p≠l:=fun y=>by rw [y,h1] at q2;cases q2
      refine ⟨p,ws,q1,by rw [upd_ne hp];exact q2,q3,q4,q5,q6,fun k ks' es hk sk=>?_⟩
      rcases get_set hk with ⟨e2,hl',z'⟩|⟨ne',z'⟩
      · cases z'
      · exact q7 k ks' es z' sk
theorem Own.setOd {i:Nat} {ks:List Int} {ds:List D} {p:Addr} {vs:List V} (o:Own K G0 H0 G ω σ H) (h1:H p=some (.dK (kvsOf ks vs))) (h2:G p=none) (h3:H0 p=none) (h4:ks.length=ds.length) (h5:Reps K G ds vs)
    (h6:∀ (j:Nat) ks' es,ω[j]?=some (some (.od ks' es))→σ[j]?≠some (some (.ref p))):Own K G0 H0 G (ω.set i (some (.od ks ds))) (σ.set i (some (.ref p))) H:=by
  refine ⟨o.ext,by rw [List.length_set,List.length_set,o.len],fun j e hj=>?_,fun j es hj=>?_,fun j k es fs m hj hk sj sk=>?_,fun j ks' es hj=>?_,o.pw.set (fun _ z=>by cases z) (fun _ z=>by cases z)⟩
  · rcases get_set hj with ⟨rfl,hl,z⟩|⟨ne,z⟩
    · cases z
    · obtain ⟨u,q1,q2⟩:=o.sh j e z
      exact ⟨u,by rw [List.getElem?_set_ne ne];exact q1,q2⟩
  · rcases get_set hj with ⟨rfl,hl,z⟩|⟨ne,z⟩
    · cases z
    · obtain ⟨m,us,q1,q2⟩:=o.ow j es z
      exact ⟨m,us,by rw [List.getElem?_set_ne ne];exact q1,q2⟩
  · rcases get_set hj with ⟨e1,hl,z⟩|⟨ne,z⟩
    · cases z
    · rcases get_set hk with ⟨e2,hl',z'⟩|⟨ne',z'⟩
      · cases z'
      · rw [List.getElem?_set_ne ne] at sj
        rw [List.getElem?_set_ne ne'] at sk
        exact o.nd j k es fs m z z' sj sk
  · rcases get_set hj with ⟨rfl,hl,z⟩|⟨ne,z⟩
    · cases z
      refine ⟨p,vs,set_self (by rw [←o.len];exact hl),h1,h2,h3,h4,h5,fun k ks'' fs hk sk=>?_⟩
      rcases get_set hk with ⟨e2,hl',z'⟩|⟨ne',z'⟩
      · exact e2
      · rw [List.getElem?_set_ne ne'] at sk
        exact absurd sk (h6 k ks'' fs z')
    · obtain ⟨p',vs',q1,q2,q3,q4,q5,q6,q7⟩:=o.od j ks' es z
      refine ⟨p',vs',by rw [List.getElem?_set_ne ne];exact q1,q2,q3,q4,q5,q6,fun k ks'' fs hk sk=>?_⟩
      rcases get_set hk with ⟨e2,hl',z'⟩|⟨ne',z'⟩
      · subst e2
        rw [set_self (by rw [←o.len];exact hl')] at sk
        cases sk
        exact absurd q1 (h6 j ks' es z)
      · rw [List.getElem?_set_ne ne'] at sk
        exact q7 k ks'' fs z' sk
theorem Own.mutD {i:Nat} {ks ks2:List Int} {ds es:List D} {p:Addr} {vs us:List V} (o:Own K G0 H0 G ω σ H) (hi:ω[i]?=some (some (.od ks ds))) (hσ:σ[i]?=some (some (.ref p))) (h1:H p=some (.dK (kvsOf ks vs))) (h2:G p=none) (h3:H0 p=none) (h4:ks2.length=es.length) (h5:Reps K G es us) :
    Own K G0 H0 G (ω.set i (some (.od ks2 es))) σ (upd H p (.dK (kvsOf ks2 us))):=by
  have ho:i < ω.length:=(List.getElem?_eq_some_iff.mp hi).1
  refine ⟨⟨o.ext.gg,same_updR o.ext.gh h2 _,same_updR o.ext.hh h3 _,o.ext.new⟩,by rw [List.length_set,o.len],fun j e hj=>?_,fun j fs hj=>?_,fun j k fs gs m hj hk sj sk=>?_,fun j ks' fs hj=>?_,(o.pw.upd (o.pw.ne_ob fun vs z=>by rw [h1] at z;cases z)).setW (fun _ z=>by cases z) (fun _ z=>by cases z)⟩
  · rcases get_set hj with ⟨rfl,hl,z⟩|⟨ne,z⟩
    · cases z
    · exact o.sh j e z
  · rcases get_set hj with ⟨rfl,hl,z⟩|⟨ne,z⟩
    · cases z
    · obtain ⟨m,ws,q1,q2,q3,q4,q5⟩:=o.ow j fs z
      have hm:m≠p:=fun y=>by rw [y,h1] at q2;cases q2
      exact ⟨m,ws,q1,by rw [upd_ne hm];exact q2,q3,q4,q5⟩
  · rcases get_set hj with ⟨e1,hl,z⟩|⟨ne,z⟩
    · cases z
    · rcases get_set hk with ⟨e2,hl',z'⟩|⟨ne',z'⟩
      · cases z'
      · exact o.nd j k fs gs m z z' sj sk
  · obtain ⟨p0,vs0,r1,r2,r3,r4,r5,r6,r7⟩:=o.od i ks ds hi
    rw [hσ] at r1
    cases r1
    rcases get_set hj with ⟨rfl,hl,z⟩|⟨ne,z⟩
    · cases z
      refine ⟨p,us,hσ,upd_same,h2,h3,h4,h5,fun k ks'' gs hk sk=>?_⟩
      rcases get_set hk with ⟨e2,hl',z'⟩|⟨ne',z'⟩
      · exact e2
      · exact r7 k ks'' gs z' sk
    · obtain ⟨q,ws,q1,q2,q3,q4,q5,q6,q7⟩:=o.od j ks' fs z
      have hp:q≠p:=fun y=>ne (r7 j ks' fs z (by rw [←y];exact q1))
      refine ⟨q,ws,q1,by rw [upd_ne hp];exact q2,q3,q4,q5,q6,fun k ks'' gs hk sk=>?_⟩
      rcases get_set hk with ⟨e2,hl',z'⟩|⟨ne',z'⟩
      · subst e2
        rw [hσ] at sk
        cases sk
        exact absurd rfl hp
      · exact q7 k ks'' gs z' sk
noncomputable def share (i:Nat) (ω:WSt):WSt:=match ω[i]? with
  | some (some (.ow ds))=>ω.set i (some (.sh (.lst ds)))
  | some (some (.od ks ds))=>ω.set i (some (.sh (.dic ks ds)))
  | _=>ω
theorem Own.share (i:Nat) (o:Own K G0 H0 G ω σ H):(∃ G',Same G G'∧Own K G0 H0 G' (share i ω) σ H)∨∃ p kvs,σ[i]?=some (some (.ref p))∧H p=some (.dK kvs)∧∀ ob,∃ G',Same G G'∧Own K G0 H0 G' (share i ω) σ (upd H p (.frz ob (.dK kvs))):=by
  unfold Hk.share
  cases q:ω[i]? with
  | none=>exact .inl ⟨G,Same.refl _,o⟩
  | some w =>
    cases w with
    | none=>exact .inl ⟨G,Same.refl _,o⟩
    | some w =>
      cases w with
      | sh d=>exact .inl ⟨G,Same.refl _,o⟩
      | pw ds=>exact .inl ⟨G,Same.refl _,o⟩
      | ow ds =>
        obtain ⟨l,vs,q1,q2,q3,q4,q5⟩:=o.ow i ds q
        have s1:Same G (upd G l (.lst vs)):=same_upd q3 _
        have ho:i < ω.length:=(List.getElem?_eq_some_iff.mp q).1
        refine .inl ⟨upd G l (.lst vs),s1,⟨o.ext.gg.trans s1,fun b u z=>?_,o.ext.hh,fun b z1 z2=>?_⟩,by rw [List.length_set,o.len],fun j e hj=>?_,fun j fs hj=>?_,fun j k fs gs m hj hk sj sk=>?_,fun j ks fs hj=>?_,(o.pw.grow q3 (o.pw.ne_ow q q1)).setW (fun _ z=>by cases z) (fun _ z=>by cases z)⟩
        · by_cases hb:b=l
          · subst hb;rw [upd_same] at z;rw [q2];exact z
          · rw [upd_ne hb] at z;exact o.ext.gh b u z
        · rw [upd_ne (fun hb=>z2 (by rw [hb];exact q4))];exact o.ext.new b z1 z2
        · rcases get_set hj with ⟨rfl,hl,z⟩|⟨ne,z⟩
          · cases z;exact ⟨_,q1,l,vs,rfl,upd_same,q5.mono s1⟩
          · obtain ⟨u,r1,r2⟩:=o.sh j e z
            exact ⟨u,r1,r2.mono s1⟩
        · rcases get_set hj with ⟨rfl,hl,z⟩|⟨ne,z⟩
          · cases z
          · obtain ⟨m,ws,r1,r2,r3,r4,r5⟩:=o.ow j fs z
            have hm:m≠l:=fun y=>ne (o.nd i j ds fs l q z q1 (by rw [←y];exact r1))
            exact ⟨m,ws,r1,r2,by rw [upd_ne hm];exact r3,r4,r5.mono s1⟩
        · rcases get_set hj with ⟨e1,hl,z⟩|⟨ne,z⟩
          · cases z
          · rcases get_set hk with ⟨e2,hl',z'⟩|⟨ne',z'⟩
            · cases z'
            · exact o.nd j k fs gs m z z' sj sk
        · rcases get_set hj with ⟨e1,hl,z⟩|⟨ne,z⟩
          · cases z
          · obtain ⟨m,ws,r1,r2,r3,r4,r5,r6,r7⟩:=o.od j ks fs z
            have hm:m≠l:=fun y=>by rw [y,q2] at r2;cases r2
            refine ⟨m,ws,r1,r2,by rw [upd_ne hm];exact r3,r4,r5,r6.mono s1,fun k ks' es hk sk=>?_⟩
            rcases get_set hk with ⟨e2,hl',z'⟩|⟨ne',z'⟩
            · cases z'
            · exact r7 k ks' es z' sk
      | od ks0 ds =>
        obtain ⟨l,vs,q1,q2,q3,q4,q6,q5,q7⟩:=o.od i ks0 ds q
        refine .inr ⟨l,_,q1,q2,fun ob=>?_⟩
        have s1:Same G (upd G l (.frz ob (.dK (kvsOf ks0 vs)))):=same_upd q3 _
        have ho:i < ω.length:=(List.getElem?_eq_some_iff.mp q).1
        refine ⟨upd G l (.frz ob (.dK (kvsOf ks0 vs))),s1,⟨o.ext.gg.trans s1,same_upd2 o.ext.gh _,same_updR o.ext.hh q4 _,fun b z1 z2=>?_⟩,by rw [List.length_set,o.len],fun j e hj=>?_,fun j fs hj=>?_,fun j k fs gs m hj hk sj sk=>?_,fun j ks fs hj=>?_,((o.pw.upd (o.pw.ne_ob fun vs z=>by rw [q2] at z;cases z)).grow q3 (o.pw.ne_ob fun vs z=>by rw [q2] at z;cases z)).setW (fun _ z=>by cases z) (fun _ z=>by cases z)⟩
        · rw [upd_ne (fun hb=>z2 (by rw [hb];exact q4))];exact o.ext.new b z1 z2
        · rcases get_set hj with ⟨rfl,hl,z⟩|⟨ne,z⟩
          · cases z;exact ⟨_,q1,l,vs,rfl,⟨ob,upd_same⟩,q6,q5.mono s1⟩
          · obtain ⟨u,r1,r2⟩:=o.sh j e z
            exact ⟨u,r1,r2.mono s1⟩
        · rcases get_set hj with ⟨rfl,hl,z⟩|⟨ne,z⟩
          · cases z
          · obtain ⟨m,ws,r1,r2,r3,r4,r5⟩:=o.ow j fs z
            have hm:m≠l:=fun y=>by rw [y,q2] at r2;cases r2
            exact ⟨m,ws,r1,by rw [upd_ne hm];exact r2,by rw [upd_ne hm];exact r3,r4,r5.mono s1⟩
        · rcases get_set hj with ⟨e1,hl,z⟩|⟨ne,z⟩
          · cases z
          · rcases get_set hk with ⟨e2,hl',z'⟩|⟨ne',z'⟩
            · cases z'
            · exact o.nd j k fs gs m z z' sj sk
        · rcases get_set hj with ⟨e1,hl,z⟩|⟨ne,z⟩
          · cases z
          · obtain ⟨m,ws,r1,r2,r3,r4,r5,r6,r7⟩:=o.od j ks fs z
            have hm:m≠l:=fun y=>ne (q7 j ks fs z (by rw [←y];exact r1))
            refine ⟨m,ws,r1,by rw [upd_ne hm];exact r2,by rw [upd_ne hm];exact r3,r4,r5,r6.mono s1,fun k ks' es hk sk=>?_⟩
            rcases get_set hk with ⟨e2,hl',z'⟩|⟨ne',z'⟩
            · cases z'
            · exact r7 k ks' es z' sk
end
theorem Inv.freeze {X:Cx} {pins:List (Addr×Obj)} {σ:St} {H:Hp} {s:Shared} {p:Addr} {kvs:List (Key×V)} (I:Inv X pins σ H s) (hp:H p=some (.dK kvs)):∃ ob,Inv X pins σ (upd H p (.frz ob (.dK kvs))) s:=by
  have ok:=I.hok p _ hp
  obtain ⟨_,_,_,_,ob,_,_,e,_⟩:=id ok
  have stay:∀ b u,ObjOk X.prog X.w H s.heap b u→ObjOk X.prog X.w (upd H p (.frz ob (.dK kvs))) s.heap b u:=fun b u x =>
    x.stay (fun _ _ _ q=>q) (fun c q=>by rw [upd_ne (fun z=>by rw [z,hp] at q;cases q)];exact q) fun c xs q=>by rw [upd_ne (fun z=>by rw [z,hp] at q;cases q)];exact q
  refine ⟨ob,I.step (H':=upd H p (.frz ob (.dK kvs))) (h':=s.heap) (g':=s.gens) (d':=s.drawn) (t':=s.toks) (ch:=[]) (fun _ z=>nomatch z) (fun _ _ _ _ _ e _=>e) (fun _ o _ _ _ e _=>⟨o.slots,e⟩) (fun b o _ _ n=>by rw [upd_ne (fun z=>by rw [z,hp] at n;cases n)];exact n) (fun _ o _ e=>⟨o,e⟩)
    (fun b xs q=>by rw [upd_ne (fun z=>by rw [z,hp] at q;cases q)];exact q) (fun b o u q=>by rw [upd_ne (fun z=>by rw [z,hp] at q;cases q)];exact q) (fun b ps q=>⟨#[],by rw [upd_ne (fun z=>by rw [z,hp] at q;cases q),q];simp⟩) (fun _ hm=>hm) (fun b u q=>?_) I.bare⟩
  by_cases z:b=p
  · subst z
    rw [upd_same] at q
    cases q
    exact ⟨e,stay _ _ ok⟩
  · rw [upd_ne z] at q
    exact stay b u (I.hok b u q)
theorem pss_freeze {X:Cx} {sts:List Stmt} {t:TS} (i:Nat) (h:PSs X sts t):PSs X sts (fun D σ H=>∃ p kvs,σ[i]?=some (some (.ref p))∧H p=some (.dK kvs)∧∀ ob,t D σ (upd H p (.frz ob (.dK kvs)))):=by
  intro pins s σ H D I q
  obtain ⟨p,kvs,_,hp,q⟩:=q
  obtain ⟨ob,I'⟩:=Inv.freeze I hp
  exact h pins s σ _ D I' (q ob)
noncomputable def sShare (i:Nat) (f:FS):FS:=fun ω=>f (share i ω)
theorem xss_share {X:Cx} {sts:List Stmt} {f:FS} (i:Nat) (h:XSs X sts f):XSs X sts (sShare i f):=by
  obtain ⟨t,h1,h2⟩:=h
  refine ⟨fun D σ H=>t D σ H∨∃ p kvs,σ[i]?=some (some (.ref p))∧H p=some (.dK kvs)∧∀ ob,t D σ (upd H p (.frz ob (.dK kvs))),fun pins s σ H D I q=>?_,fun G0 H0 G ω σ H out ω' E o e k=>?_⟩
  · rcases q with q|q
    · exact h1 pins s σ H D I q
    · exact pss_freeze i h1 pins s σ H D I q
  · rcases o.share i with ⟨G1,g1,o1⟩|⟨p,kvs,z1,z2,z3⟩
    · exact .inl (h2 G0 H0 G1 _ σ H out ω' E o1 e fun G2 σ2 H2 w2 g2=>k G2 σ2 H2 w2 (g1.trans g2))
    · refine .inr ⟨p,kvs,z1,z2,fun ob=>?_⟩
      obtain ⟨G1,g1,o1⟩:=z3 ob
      exact h2 G0 H0 G1 _ σ _ out ω' E o1 e fun G2 σ2 H2 w2 g2=>k G2 σ2 H2 w2 (g1.trans g2)
noncomputable def setR (i:Nat) (r:R) (ω:WSt):Option WSt:=match r with
  | .sh d=>some (ω.set i (some (.sh d)))
  | .fr ds=>some (ω.set i (some (.ow ds)))
  | .vw _=>none
noncomputable def sSet (i:Nat) (f:FE):FS:=fun ω=>(f ω).bind fun r=>(setR i r ω).map fun w=>(.nx,w)
section
variable {X:Cx} {e:Expr} {f:FE} {pos pos':Pos}
theorem sim_set {i:Nat} {t:TE} (h:SimE X.K t f):SimS X.K (tAsg t (gName i)) (sSet i f):=by
  intro G0 H0 G ω σ H out ω' E o e k
  obtain ⟨r,q,e⟩:=bnd e
  obtain ⟨w,q2,e⟩:=mpd e
  cases e
  refine h G0 H0 G ω σ H r _ o q fun v G1 H1 x1 y1=>?_
  have o1:=o.keep x1
  show E.nx (σ.set i (some v)) H1
  cases r with
  | sh d=>cases q2;exact k G1 _ H1 (o1.setSh y1) x1.gg
  | fr ds =>
    cases q2
    obtain ⟨l,vs,rfl,e2,e3,e4,e5⟩:=y1
    refine k G1 _ H1 (o1.setOw e4 e3 (o.ext.hh.free e2) e5 (fun j es hj z=>?_) fun j es hj y=>?_) x1.gg
    · obtain ⟨m,us,q1,q2,_⟩:=o.ow j es hj
      rw [q1] at z
      cases z
      rw [e2] at q2
      cases q2
    · obtain ⟨us,_,q2,_⟩:=o.pw j es hj
      rw [y,e2] at q2
      cases q2
  | vw ds=>cases q2
theorem xs_set {i:Nat} {x:Str} (hN:X.N.Nodup) (hi:X.N[i]?=some x) (hx:Loc X.env.scope x) (he:XE X e f) (hs:swapsWith e (some (.Name x pos')) pos.line X.env=pure false:=by rfl) (hf:X.fn x=true∨X.env.scope.names.lookup x=some .local:=by first|exact .inl rfl|exact .inr rfl|assumption) :
    XS X (.Assign [.Name x pos'] e pos) (sSet i f):=let ⟨_,h1,h2⟩:=he;⟨_,ps_set hN hi hx h1 hs hf,sim_set h2⟩
noncomputable abbrev FG:=D→WSt→Option WSt
def SimG (K:PySem.W.Frag) (g:TG) (fg:FG):Prop:=∀ G0 H0 G ω σ H d v ω' (Q:St→Hp→Prop),Own K G0 H0 G ω σ H→fg d ω=some ω'→Rep K G d v→(∀ σ',Own K G0 H0 G ω' σ' H→Q σ' H)→g v σ H Q
def XG (X:Cx) (tg:Expr) (fg:FG):Prop:=∃ g,PG X tg g∧SimG X.K g fg
noncomputable def gN (i:Nat):FG:=fun d ω=>some (ω.set i (some (.sh d)))
theorem xg_name {i:Nat} {x:Str} (hN:X.N.Nodup) (hi:X.N[i]?=some x) (hx:Loc X.env.scope x) (hf:X.fn x=true∨X.env.scope.names.lookup x=some .local:=by first|exact .inl rfl|exact .inr rfl|assumption):XG X (.Name x pos) (gN i) :=
  ⟨_,pg_name hN hi hx hf,fun G0 H0 G ω σ H d v ω' Q o e h k=>by cases e;exact k _ (o.setSh h)⟩
def SimGs (K:PySem.W.Frag) (g:TGs) (fg:List D→WSt→Option WSt):Prop:=∀ G0 H0 G ω σ H ds vs ω' (Q:St→Hp→Prop),Own K G0 H0 G ω σ H→fg ds ω=some ω'→Reps K G ds vs→(∀ σ',Own K G0 H0 G ω' σ' H→Q σ' H)→g vs σ H Q
def XGs (X:Cx) (tg:List Expr) (fg:List D→WSt→Option WSt):Prop:=∃ g,PGs X tg g∧SimGs X.K g fg
noncomputable def gsNil:List D→WSt→Option WSt
  | [],ω=>some ω
  | _,_=>none
noncomputable def gsCons (f:FG) (g:List D→WSt→Option WSt):List D→WSt→Option WSt
  | d::ds,ω=>(f d ω).bind fun w=>g ds w
  | [],_=>none
theorem xgs_nil:XGs X [] gsNil:=⟨_,pgs_nil,fun G0 H0 G ω σ H ds vs ω' Q o e h k=>by
  cases ds with
  | nil=>cases e;cases (show vs=[] from h);exact ⟨rfl,k σ o⟩
  | cons d r=>cases e⟩
theorem xgs_cons {es:List Expr} {fg:FG} {gs:List D→WSt→Option WSt} (h:XG X e fg) (h':XGs X es gs) (hs:(assignEach (e::es) X.env).map (·.2)=assign e X.env::(assignEach es X.env).map (·.2):=by rfl):XGs X (e::es) (gsCons fg gs):=by
  obtain ⟨g,h1,h2⟩:=h
  obtain ⟨u,h3,h4⟩:=h'
  refine ⟨_,pgs_cons h1 h3 hs,fun G0 H0 G ω σ H ds vs ω' Q o e h k=>?_⟩
  cases ds with
  | nil=>cases e
  | cons d r =>
    obtain ⟨w1,q,e1⟩:=bnd e
    obtain ⟨v,vr,rfl,r1,r2⟩:=h
    exact ⟨v,vr,rfl,h2 G0 H0 G ω σ H d v w1 _ o q r1 fun σ1 o1=>h4 G0 H0 G w1 σ1 H r vr ω' Q o1 e1 r2 k⟩
noncomputable def gT (n:Nat) (g:List D→WSt→Option WSt):FG:=fun d ω=>match d with
  | .tup ds=>if ds.length=n then g ds ω else none
  | _=>none
theorem xg_tup {es:List Expr} {k n:Nat} {gs:List D→WSt→Option WSt} (hc:X.calm=true) (h:XGs X es gs) (hn:(assignEach es X.env).length=n:=by rfl) (hst:(assignEach es X.env).findIdx? (·.1)=none:=by rfl):XG X (.Tuple es k pos) (gT n gs):=by
  obtain ⟨g,h1,h2⟩:=h
  refine ⟨_,pg_tup hc h1 hn hst,fun G0 H0 G ω σ H d v ω' Q o e h k=>?_⟩
  unfold gT at e
  cases d with
  | tup ds =>
    dsimp only at e
    obtain ⟨a,vs,rfl,r1,r2⟩:=h
    by_cases z:ds.length=n
    · rw [if_pos z] at e
      exact ⟨a,vs,rfl,SqT.of (o.gh _ _ r1),by rw [←r2.len];exact z,h2 G0 H0 G ω σ H ds vs ω' Q o e r2 k⟩
    · rw [if_neg z] at e;cases e
  | _=>cases e
noncomputable def sAsg (f:FD) (g:FG):FS:=fun ω=>(f ω).bind fun d=>(g d ω).map fun w=>(.nx,w)
theorem xs_asg {tg:Expr} {fd:FD} {fg:FG} (he:XD X e fd) (hg:XG X tg fg) (hs:swapsWithSole [tg] e pos.line X.env=pure false:=by rfl) (hw:swappedStores [tg] e X.env=pure none:=by rfl)
    (h1:(assignEach [tg] X.env).map (·.2)=[assign tg X.env]:=by rfl):XS X (.Assign [tg] e pos) (sAsg fd fg):=by
  obtain ⟨t,p1,p2⟩:=he
  obtain ⟨g,p3,p4⟩:=hg
  refine ⟨_,ps_asg p1 p3 hs hw h1,fun G0 H0 G ω σ H out ω' E o e k=>?_⟩
  obtain ⟨d,q,e⟩:=bnd e
  obtain ⟨w,q2,e⟩:=mpd e
  cases e
  refine p2 G0 H0 G ω σ H d _ o q fun v G1 H1 x1 y1=>?_
  exact p4 G0 H0 G1 ω σ H1 d v _ _ (o.keep x1) q2 y1 fun σ1 o1=>k G1 σ1 H1 o1 x1.gg
end
noncomputable def sIf (c:FT) (f g:FS):FS:=fun ω=>(c ω).bind fun b=>if b=true then f ω else g ω
noncomputable def sRet (f:FE):FS:=fun ω=>(f ω).bind fun r=>match r with
  | .sh d=>some (.rt (.sh d),ω)
  | .fr ds=>some (.rt (.fr ds),ω)
  | .vw _=>none
noncomputable def sRetV (i:Nat):FS:=fun ω=>match ω[i]? with
  | some (some (.sh d))=>some (.rt (.sh d),ω)
  | some (some (.ow ds))=>some (.rt (.fr ds),ω)
  | _=>none
noncomputable def sNo:FS:=fun _=>none
noncomputable def sDrop (f:FE):FS:=fun ω=>(f ω).map fun _=>(.nx,ω)
section
variable {X:Cx} {c e:Expr} {a b:List Stmt} {st:Stmt} {pos:Pos} {fc:FT} {f g:FS} {fe:FE}
theorem xs_if (hc:XT X c fc) (ha:XSs X a f) (hb:XSs X b g):XS X (.If c a b pos) (sIf fc f g):=by
  obtain ⟨t,h1,h2⟩:=hc
  obtain ⟨u,h3,h4⟩:=ha
  obtain ⟨w,h5,h6⟩:=hb
  refine ⟨_,ps_if h1 h3 h5,fun G0 H0 G ω σ H out ω' E o e k=>?_⟩
  obtain ⟨z,q,e⟩:=bnd e
  refine h2 G0 H0 G ω σ H z _ o q fun G1 H1 x1=>?_
  cases z with
  | true=>rw [if_pos rfl] at e ⊢;exact h4 G0 H0 G1 ω σ H1 out ω' E (o.keep x1) e fun G2 σ2 H2 o2 g2=>k G2 σ2 H2 o2 (x1.gg.trans g2)
  | false=>exact h6 G0 H0 G1 ω σ H1 out ω' E (o.keep x1) e fun G2 σ2 H2 o2 g2=>k G2 σ2 H2 o2 (x1.gg.trans g2)
theorem xs_ret (he:XE X e fe):XS X (.Return (some e) pos) (sRet fe):=by
  obtain ⟨t,h1,h2⟩:=he
  refine ⟨_,ps_ret h1,fun G0 H0 G ω σ H out ω' E o e k=>?_⟩
  obtain ⟨r,q,e⟩:=bnd e
  refine h2 G0 H0 G ω σ H r _ o q fun v G1 H1 x1 y1=>?_
  cases r with
  | sh d=>cases e;exact k G1 σ H1 (o.keep x1) x1.gg v y1
  | fr ds =>
    cases e
    obtain ⟨l,vs,e1,e2,e3⟩:=y1
    exact k G1 σ H1 (o.keep x1) x1.gg v ⟨l,vs,e1,o.ext.hh.free e2,e3⟩
  | vw ds=>cases e
theorem xs_retv {i:Nat} (he:PE X e (tVar i)):XS X (.Return (some e) pos) (sRetV i):=by
  refine ⟨_,ps_ret he,fun G0 H0 G ω σ H out ω' E o e k=>?_⟩
  unfold sRetV at e
  cases q:ω[i]? with
  | none=>rw [q] at e;cases e
  | some w =>
    rw [q] at e
    cases w with
    | none=>cases e
    | some w =>
      cases w with
      | sh d =>
        cases e
        obtain ⟨v,q1,q2⟩:=o.sh i d q
        exact ⟨v,q1,k G σ H o (Same.refl _) v q2⟩
      | ow ds =>
        cases e
        obtain ⟨l,vs,q1,q2,q3,q4,q5⟩:=o.ow i ds q
        exact ⟨_,q1,k G σ H o (Same.refl _) _ ⟨l,vs,rfl,q4,q3,q2,q5⟩⟩
      | od ks ds=>cases e
      | pw ds=>cases e
theorem xs_no:XS X st sNo:=⟨_,ps_never,fun G0 H0 G ω σ H out ω' E o e k=>by cases e⟩
theorem xs_expr (he:XE X e fe) (hs:swapsWith e none pos.line X.env=pure false:=by rfl):XS X (.Expr e pos) (sDrop fe):=by
  obtain ⟨t,h1,h2⟩:=he
  refine ⟨_,ps_expr h1 hs,fun G0 H0 G ω σ H out ω' E o e k=>?_⟩
  obtain ⟨r,q,e⟩:=mpd e
  cases e
  exact h2 G0 H0 G ω σ H r _ o q fun v G1 H1 x1 y1=>k G1 σ H1 (o.keep x1) x1.gg
noncomputable def sApp (i:Nat) (f:FD):FS:=fun ω=>(f ω).bind fun d=>match ω[i]? with
  | some (some (.ow ds))=>if ds.length < 1000000 then some (.nx,ω.set i (some (.ow (ds++[d])))) else none
  | _=>none
theorem xs_app {i:Nat} {o e:Expr} {fd:FD} {apos cpos:Pos} (ho:PE X o (tVar i)) (he:XD X e fd)
    (hbase:attributeBase o "append" X.env (eval o X.env)=eval o X.env:=by rfl)
    (hfew:((backTo cpos (starEach [e] X.env)).all (fun x=>!x.1) && (backToKw cpos (keywordEach [] X.env)).all (fun x=>x.1.isSome)
      && decide (([e]:List Expr).length+([]:List Keyword).length+(if ([]:List Keyword).isEmpty then 0 else 1) < 30))=true:=by rfl)
    (hline:(apos.endLine == cpos.line)=true:=by rfl) (hs:starEach [e] X.env=(false,eval e X.env)::starEach [] X.env:=by rfl) (hplain:(backTo cpos (starEach [] X.env)).any (·.1)=false:=by rfl)
    (hsw:swapsWith (.Call (.Attribute o "append" apos) [e] [] cpos) none pos.line X.env=pure false:=by rfl) :
    XS X (.Expr (.Call (.Attribute o "append" apos) [e] [] cpos) pos) (sApp i fd):=by
  obtain ⟨t,h1,h2⟩:=he
  refine ⟨_,ps_expr (pe_bm PySem.F.plainAttrs_list PySem.F.slot_list_append PySem.F.type_list_append mt_append ho (pa_cons h1 pa_nil hs) hbase hfew hline hs hplain) hsw,fun G0 H0 G ω σ H out ω' E ow e k=>?_⟩
  obtain ⟨d,q,e⟩:=bnd e
  cases q2:ω[i]? with
  | none=>rw [q2] at e;cases e
  | some w =>
    rw [q2] at e
    cases w with
    | none=>cases e
    | some w =>
      cases w with
      | sh d=>cases e
      | od ks ds=>cases e
      | pw ds=>cases e
      | ow ds =>
        dsimp only at e
        by_cases z:ds.length < 1000000
        · rw [if_pos z] at e
          cases e
          obtain ⟨l,vs,r1,r2,r3,r4,r5⟩:=ow.ow i ds q2
          refine ⟨.ref l,r1,.inl ⟨rfl,vs,SqL.of r2⟩,h2 G0 H0 G ω σ H d _ ow q fun v G1 H1 x1 y1=>?_⟩
          have o1:=ow.keep x1
          have hz:vs.length < sizeLine:=by rw [←r5.len,sizeLine_eq];omega
          refine ⟨l,vs,v,rfl,rfl,x1.hh _ _ r2,hz,?_⟩
          exact k G1 σ _ (o1.mut q2 r1 (x1.hh _ _ r2) (x1.new l r3 (by rw [r2];exact fun z=>by cases z)) r4 ((r5.mono x1.gg).app (Reps.cons y1 Reps.nil))) x1.gg
        · rw [if_neg z] at e;cases e
end
end Hk
set_option maxRecDepth 100000
namespace PySem
open AutoSeq1 MeetsSeq MeetsSeq2 MeetsSeq3
theorem extTup (l b:Addr) (xs ys:Array Value) (n m:Nat) (dd:Option Addr) (sl:Array (Option Value)) (h1:¬(!xs.isEmpty && Builtin.List.listTooLong (xs.size+ys.size))=true) (h2:xs.size≤sizeLine) (h3:xs.size+ys.size≤sizeLine+1) :
    Meets (Builtin.«list.extend» ⟨[.ref l,.ref b],[]⟩) (fun _ R s=>s.heap.get? l=some { cls:=.type "list", data:=.seq xs n }∧s.heap.get? b=some { cls:=.type "tuple", dict:=dd,data:=.seq ys m,slots:=sl } ∧
      R (.ok (.ret Value.none)) { s with heap:=s.heap.update l (Obj.mapSeq fun z=>z++ys),toks:=s.toks }) :=
  .of_wp fun prog w A R s h=>by
    obtain ⟨hp,g,d,tk,os⟩:=s
    obtain ⟨e1,e2,q⟩:=h
    have p1:=idx_int
    have p2:=sub_tuple_tuple
    have p3:=sub_list_list
    have p4:=sub_tuple_list
    have p5:=sub_list_tuple
    have fit:(xs++ys).size≤sizeLine+1:=by rw [Array.size_append];exact h3
    wp_walk using (wpAny_updateSeq e1 rfl (hz:=h2) (_hz':=fit)),wpAny_loadPart' e1,wpAny_loadPart' e2
    exact ⟨_,rfl,q⟩
end PySem
namespace Hk
open PySem L2
section
variable {X:Cx} {pos:Pos}
def rExtA:V→List V→Hp→VK→Prop:=fun x vs H Q=>rExtend x vs H Q∨∃ l b xs zs,x=.ref l∧vs=[.ref b]∧H l=some (.lst xs)∧H b=some (.tup zs)∧xs.length+zs.length≤sizeLine∧Q .non (upd H l (.lst (xs++zs)))
theorem mt_extA:MtR X "list.extend" rExtA:=by
  intro pins s σ H x vs v us Q I rx rv h
  rcases h with h|h
  · exact mt_extend pins s σ H x vs v us Q I rx rv h
  obtain ⟨l,b,xs,zs,rfl,rfl,hH,hB,hz,q⟩:=h
  cases rx
  obtain ⟨u,rfl,ru⟩:=rv.one
  cases ru
  obtain ⟨z,its,n,r,hl,e⟩:=I.lstM hH
  obtain ⟨its2,r2,⟨o2,e2,c2,n2,d2⟩,z2⟩:=I.tuple (SqT.of hB)
  have hl2:=r2.length
  obtain ⟨cls,dd,dt,sl⟩:=o2
  cases c2
  cases d2
  have hsz:its.toArray.size+its2.toArray.size≤sizeLine:=by rw [List.size_toArray,List.size_toArray];omega
  have hlong:¬(!its.toArray.isEmpty && Builtin.List.listTooLong (its.toArray.size+its2.toArray.size))=true:=by
    rw [notLongL hsz,Bool.and_false]
    exact Bool.false_ne_true
  refine call_meets F.slot_list_extend ⟨_,e,rfl⟩ F.entry_list_extend (F.args_list_extend_2 _ _)
    (extTup l b its.toArray its2.toArray n n2 dd sl hlong (by rw [List.size_toArray];omega) (by omega)) ⟨e,e2,?_⟩
  refine ⟨.non,_,I.lset (its':=its++its2) hH e (by simp) (r.append r2) ?_,rfl,q⟩
  rw [List.length_append]
  omega
noncomputable def itemsOf:D→Option (List D)
  | .lst ds=>some ds
  | .tup ds=>some ds
  | _=>none
noncomputable def sExt (i:Nat) (f:FD):FS:=fun ω=>(f ω).bind fun d=>(itemsOf d).bind fun es=>match ω[i]? with
  | some (some (.ow ds))=>if ds.length+es.length≤1000000 then some (.nx,ω.set i (some (.ow (ds++es)))) else none
  | _=>none
theorem xs_ext {i:Nat} {o e:Expr} {fd:FD} {apos cpos:Pos} (ho:PE X o (tVar i)) (he:XD X e fd)
    (hbase:attributeBase o "extend" X.env (eval o X.env)=eval o X.env:=by rfl)
    (hfew:((backTo cpos (starEach [e] X.env)).all (fun x=>!x.1) && (backToKw cpos (keywordEach [] X.env)).all (fun x=>x.1.isSome)
      && decide (([e]:List Expr).length+([]:List Keyword).length+(if ([]:List Keyword).isEmpty then 0 else 1) < 30))=true:=by rfl)
    (hline:(apos.endLine == cpos.line)=true:=by rfl) (hs:starEach [e] X.env=(false,eval e X.env)::starEach [] X.env:=by rfl) (hplain:(backTo cpos (starEach [] X.env)).any (·.1)=false:=by rfl)
    (hsw:swapsWith (.Call (.Attribute o "extend" apos) [e] [] cpos) none pos.line X.env=pure false:=by rfl) :
    XS X (.Expr (.Call (.Attribute o "extend" apos) [e] [] cpos) pos) (sExt i fd):=by
  obtain ⟨t,h1,h2⟩:=he
  refine ⟨_,ps_expr (pe_bm PySem.F.plainAttrs_list PySem.F.slot_list_extend PySem.F.type_list_extend mt_extA ho (pa_cons h1 pa_nil hs) hbase hfew hline hs hplain) hsw,fun G0 H0 G ω σ H out ω' E ow e k=>?_⟩
  obtain ⟨d,q,e⟩:=bnd e
  obtain ⟨es,q3,e⟩:=bnd e
  cases q2:ω[i]? with
  | none=>rw [q2] at e;cases e
  | some w =>
    rw [q2] at e
    cases w with
    | none=>cases e
    | some w =>
      cases w with
      | sh d=>cases e
      | od ks ds=>cases e
      | pw ds=>cases e
      | ow ds =>
        dsimp only at e
        by_cases z:ds.length+es.length≤1000000
        · rw [if_pos z] at e
          cases e
          obtain ⟨l,vs,r1,r2,r3,r4,r5⟩:=ow.ow i ds q2
          refine ⟨.ref l,r1,.inl ⟨rfl,vs,SqL.of r2⟩,h2 G0 H0 G ω σ H d _ ow q fun v G1 H1 x1 y1=>?_⟩
          have o1:=ow.keep x1
          have fin:∀ us:List V,Reps X.K G1 es us→vs.length+us.length≤sizeLine∧Post X.K H0 G1 E .nx σ (upd H1 l (.lst (vs++us))):=fun us hu =>
            ⟨by rw [←r5.len,←hu.len];exact le_line6 z,k G1 σ _ (o1.mut q2 r1 (x1.hh _ _ r2) (x1.new l r3 (by rw [r2];exact fun z=>by cases z)) r4 ((r5.mono x1.gg).app hu)) x1.gg⟩
          cases d with
          | lst ds' =>
            cases q3
            obtain ⟨b,us,rfl,r6,r7⟩:=y1
            obtain ⟨f1,f2⟩:=fin us r7
            exact .inl ⟨l,b,vs,us,rfl,rfl,x1.hh _ _ r2,x1.gh _ _ r6,f1,f2⟩
          | tup ds' =>
            cases q3
            obtain ⟨b,us,rfl,r6,r7⟩:=y1
            obtain ⟨f1,f2⟩:=fin us r7
            exact .inr ⟨l,b,vs,us,rfl,rfl,x1.hh _ _ r2,x1.gh _ _ r6,f1,f2⟩
          | _=>cases q3
        · rw [if_neg z] at e;cases e
end
structure IterOf (K:PySem.W.Frag) (J:It) (G:Hp) (ds:List D):Prop where
  go:∀ H i,Same G H→i < ds.length→J.go i H
  yld:∀ G2 H i x H' d,Same G G2→Same G2 H→ds[i]?=some d→J.yld i H x H'→∃ G3,Ext G2 H G3 H'∧Rep K G3 d x
  stop:∀ H,Same G H→J.stop ds.length H
noncomputable abbrev FI:=WSt→Option (List D)
def SimI (K:PySem.W.Frag) (wi:TI) (f:FI):Prop:=∀ G0 H0 G ω σ H ds (R:It→Hp→Prop),Own K G0 H0 G ω σ H→f ω=some ds→(∀ J G' H',Ext G H G' H'→IterOf K J G' ds→R J H')→wi σ H R
def XI (X:Cx) (tg iter:Expr) (f:FI):Prop:=∃ wi,PI X tg iter wi∧SimI X.K wi f
section
variable {X:Cx} {tg e:Expr}
theorem iter_lst {K:PySem.W.Frag} {G:Hp} {a:Addr} {ds:List D} {vs:List V} (h1:G a=some (.lst vs)) (h2:Reps K G ds vs):IterOf K (Itl K a) G ds:=by
  refine ⟨fun H i s hi=>?_,fun G2 H i x H' d s0 s1 hd hy=>?_,fun H s=>⟨vs,SqL.of (s _ _ h1),by rw [h2.len];exact Nat.le_refl _⟩⟩
  · have:i < vs.length:=by rw [←h2.len];exact hi
    exact ⟨vs,vs[i],SqL.of (s _ _ h1),List.getElem?_eq_getElem this⟩
  · obtain ⟨e,y⟩:=hy
    obtain ⟨v,q1,q2⟩:=h2.get hd
    have:=y vs (SqL.of (s1 _ _ (s0 _ _ h1)))
    rw [q1] at this
    cases this
    subst e
    exact ⟨G2,Ext.refl s1,q2.mono s0⟩
theorem iter_tup {K:PySem.W.Frag} {G:Hp} {a:Addr} {ds:List D} {vs:List V} (h1:G a=some (.tup vs)) (h2:Reps K G ds vs):IterOf K (Itt K a) G ds:=by
  refine ⟨fun H i s hi=>?_,fun G2 H i x H' d s0 s1 hd hy=>?_,fun H s=>⟨vs,SqT.of (s _ _ h1),by rw [h2.len];exact Nat.le_refl _⟩⟩
  · have:i < vs.length:=by rw [←h2.len];exact hi
    exact ⟨vs,vs[i],SqT.of (s _ _ h1),List.getElem?_eq_getElem this⟩
  · obtain ⟨e,y⟩:=hy
    obtain ⟨v,q1,q2⟩:=h2.get hd
    have:=y vs (SqT.of (s1 _ _ (s0 _ _ h1)))
    rw [q1] at this
    cases this
    subst e
    exact ⟨G2,Ext.refl s1,q2.mono s0⟩
noncomputable def iSeq (f:FD):FI:=fun ω=>(f ω).bind itemsOf
theorem xi_seq {f:FD} (h:XD X e f):XI X tg e (iSeq f):=by
  obtain ⟨t,h1,h2⟩:=h
  refine ⟨fun σ H R=>iList X.K t σ H R∨iTup X.K t σ H R,fun pins s σ H R I q=>?_,fun G0 H0 G ω σ H ds R o e k=>?_⟩
  · rcases q with q|q
    · exact pi_list h1 pins s σ H R I q
    · exact pi_tup h1 pins s σ H R I q
  · obtain ⟨d,q,e⟩:=bnd e
    cases d with
    | lst es =>
      cases e
      refine .inl (h2 G0 H0 G ω σ H _ _ o q fun v G1 H1 x1 ⟨a,vs,e1,e2,e3⟩=>⟨a,e1,⟨vs,SqL.of (x1.gh _ _ e2)⟩,k _ G1 H1 x1 (iter_lst e2 e3)⟩)
    | tup es =>
      cases e
      refine .inr (h2 G0 H0 G ω σ H _ _ o q fun v G1 H1 x1 ⟨a,vs,e1,e2,e3⟩=>⟨a,e1,⟨vs,SqT.of (x1.gh _ _ e2)⟩,k _ G1 H1 x1 (iter_tup e2 e3)⟩)
    | _=>cases e
noncomputable def upTo (lo:Int) (n:Nat):List D:=(List.range n).map fun (i:Nat)=>D.int (lo+(i:Int))
theorem iter_rng {K:PySem.W.Frag} {G:Hp} (lo:Int) (n:Nat):IterOf K (Itr lo n) G (upTo lo n):=by
  have hl:(upTo lo n).length=n:=by unfold upTo;rw [List.length_map,List.length_range]
  refine ⟨fun H i s hi=>by rw [hl] at hi;exact hi,fun G2 H i x H' d s0 s1 hd hy=>?_,fun H s=>by rw [hl];exact Nat.le_refl _⟩
  obtain ⟨e,y⟩:=hy
  subst e
  refine ⟨G2,Ext.refl s1,?_⟩
  unfold upTo at hd
  rw [List.getElem?_map] at hd
  have hi:i < n:=by
    rcases Nat.lt_or_ge i n with z|z
    · exact z
    · rw [List.getElem?_eq_none (by rw [List.length_range];exact z)] at hd;cases hd
  rw [List.getElem?_range hi] at hd
  cases hd
  exact y
noncomputable def iRg1 (g:FA):FI:=fun ω=>(g ω).bind fun ds=>match ds with
  | [.int j]=>if -(2 ^ 62)≤j∧j < 2 ^ 62 then some (upTo 0 j.toNat) else none
  | _=>none
theorem xi_range1 {a:Expr} {g:FA} {p pos:Pos} (hg:Gl X "range") (hm:X.mg "range" = none) (ha:XVA X [a] g) (hs:starEach [a] X.env=[(false,eval a X.env)]:=by rfl):XI X tg (.Call (.Name "range" p) [a] [] pos) (iRg1 g):=by
  obtain ⟨t,h1,h2⟩:=ha
  refine ⟨_,pi_range1 hg hm h1 hs,fun G0 H0 G ω σ H ds R o e k=>?_⟩
  obtain ⟨vs,q,e⟩:=bnd e
  refine h2 G0 H0 G ω σ H vs _ o q fun us G1 H1 x1 y1=>?_
  match vs,e with
  | [.int j],e =>
    dsimp only at e
    by_cases z:-(2 ^ 62)≤j∧j < 2 ^ 62
    · rw [if_pos z] at e
      cases e
      obtain ⟨v,rfl,y2⟩:=y1.one
      cases y2.int
      exact ⟨j,rfl,z.1,z.2,k _ G1 H1 x1 (iter_rng _ _)⟩
    · rw [if_neg z] at e;cases e
end
noncomputable def forD (g:FG) (b:FS):List D→FS
  | [],ω=>some (.nx,ω)
  | d::ds,ω=>(g d ω).bind fun w=>(b w).bind fun p=>match p.1 with
    | .nx=>forD g b ds p.2
    | .ct=>forD g b ds p.2
    | .bk=>some (.nx,p.2)
    | .rt r=>some (.rt r,p.2)
noncomputable def sFor (fi:FI) (g:FG) (b:FS):FS:=fun ω=>(fi ω).bind fun ds=>forD g b ds ω
section
variable {X:Cx} {tg iter:Expr} {body:List Stmt} {pos:Pos} {fi:FI} {fg:FG} {fb:FS}
theorem xs_for (hp:PassesOwn (model X.prog X.w) X.A X.env X.xe) (hc:X.calm=true) (hi:XI X tg iter fi) (hg:XG X tg fg) (hb:XSs X body fb) (hs:∀ x,foldedSetIterable iter X.env x=pure x:=by intro _;rfl):XS X (.For tg iter body [] pos) (sFor fi fg fb):=by
  obtain ⟨wi,h1,h2⟩:=hi
  obtain ⟨g,h3,h4⟩:=hg
  obtain ⟨tb,h5,h6⟩:=hb
  refine ⟨_,ps_for hp hc h1 h3 h5 hs,fun G0 H0 G ω σ H out ω' E o e k=>?_⟩
  obtain ⟨ds,q,e⟩:=bnd e
  refine h2 G0 H0 G ω σ H ds _ o q fun J G1 H1 x1 it=>?_
  refine ⟨fun i m σ2 H2=>∃ G2 ω2,Own X.K G0 H0 G2 ω2 σ2 H2∧Same G1 G2∧forD fg fb (ds.drop i) ω2=some (out,ω')∧i≤ds.length∧m=ds.length - i,⟨_,G1,ω,o.keep x1,Same.refl _,e,Nat.zero_le _,rfl⟩,?_⟩
  rintro i m σ2 H2 ⟨G2,ω2,o2,s2,f2,hi2,rfl⟩
  by_cases hlt:i < ds.length
  · refine .inr ⟨it.go H2 i (s2.trans o2.gh) hlt,fun σ3 H3=>∃ G3 ω3,Own X.K G0 H0 G3 ω3 σ3 H3∧Same G1 G3∧forD fg fb (ds.drop (i+1)) ω3=some (out,ω'),fun σ3 H3 ⟨G3,ω3,a1,a2,a3⟩=>⟨ds.length - (i+1),by omega,G3,ω3,a1,a2,a3,hlt,rfl⟩,fun x H3 hy=>?_⟩
    have hd:ds[i]?=some ds[i]:=List.getElem?_eq_getElem hlt
    obtain ⟨G4,x4,rx⟩:=it.yld G2 H2 i x H3 ds[i] s2 o2.gh hd hy
    have o2:=o2.keep x4
    have s2:=s2.trans x4.gg
    rw [List.drop_eq_getElem_cons hlt] at f2
    obtain ⟨w,q1,f2⟩:=bnd f2
    obtain ⟨⟨o3,ω3⟩,q2,f2⟩:=bnd f2
    refine h4 G0 H0 G4 ω2 σ2 H3 ds[i] x w _ o2 q1 rx fun σ4 o4=>?_
    refine h6 G0 H0 G4 w σ4 H3 o3 ω3 _ o4 q2 fun G5 σ5 H5 o5 s5=>?_
    cases o3 with
    | nx=>exact ⟨G5,ω3,o5,s2.trans s5,f2⟩
    | ct=>exact ⟨G5,ω3,o5,s2.trans s5,f2⟩
    | bk=>cases f2;exact k G5 σ5 H5 o5 (x1.gg.trans (s2.trans s5))
    | rt r=>cases f2;exact k G5 σ5 H5 o5 (x1.gg.trans (s2.trans s5))
  · have ei:i=ds.length:=by omega
    subst ei
    rw [List.drop_length] at f2
    cases f2
    exact .inl ⟨it.stop H2 (s2.trans o2.gh),k G2 σ2 H2 o2 (x1.gg.trans s2)⟩
end
noncomputable def compD (g:FG) (c:FT) (f:FD):List D→WSt→Option (List D)
  | [],_=>some []
  | d::ds,ω=>(g d ω).bind fun w=>(c w).bind fun b=>if b=true then (f w).bind fun x=>(compD g c f ds w).map fun r=>x::r else compD g c f ds w
noncomputable def shOf:Option (Option W)→Option W
  | some (some (.sh d))=>some (.sh d)
  | _=>none
noncomputable def inW (M:Nat) (frees:List Nat) (ω:WSt):WSt:=List.replicate M none++frees.map fun j=>shOf ω[j]?
noncomputable def fComp (M:Nat) (frees:List Nat) (fi:FI) (g:FG) (c:FT) (f:FD):FE:=fun ω=>(fi ω).bind fun ds=>if ds.length≤1000000 then (compD g c f ds (inW M frees ω)).map R.fr else none
def XTs (X:Cx) (ifs:List Expr) (f:FT):Prop:=∃ t,PTs X ifs t∧SimT X.K t f
noncomputable def tTrue:FT:=fun _=>some true
theorem xts_nil {X:Cx}:XTs X [] tTrue:=⟨_,pts_nil,fun G0 H0 G ω σ H b Q o e k=>by cases e;exact k G H (Ext.refl o.gh)⟩
theorem xts_one {X:Cx} {c:Expr} {f:FT} (h:XT X c f):XTs X [c] f:=let ⟨t,h1,h2⟩:=h;⟨t,pts_one h1,h2⟩
section
variable {X:Cx} {N:List Str} {M:Nat} {frees:List Nat} {scope:Scope} {tg iter elt:Expr} {ifs:List Expr} {pos:Pos} {fi:FI} {fg:FG} {fc:FT} {fe:FD}
def NoOw (ω:WSt):Prop:=∀ (i:Nat) w,ω[i]?=some (some w)→∃ d,w=.sh d
theorem NoOw.ow {ω:WSt} (h:NoOw ω) (i:Nat) (ds:List D):ω[i]?≠some (some (.ow ds)):=fun z=>by obtain ⟨d,e⟩:=h i _ z;cases e
theorem NoOw.od {ω:WSt} (h:NoOw ω) (i:Nat) (ks:List Int) (ds:List D):ω[i]?≠some (some (.od ks ds)):=fun z=>by obtain ⟨d,e⟩:=h i _ z;cases e
theorem NoOw.pw {ω:WSt} (h:NoOw ω) (i:Nat) (ds:List D):ω[i]?≠some (some (.pw ds)):=fun z=>by obtain ⟨d,e⟩:=h i _ z;cases e
theorem sim_comp {wi:TI} {g:TG} {tc:TT} {te:TE} (h2:SimI X.K wi fi) (h4:SimG X.K g fg) (h6:SimT X.K tc fc) (h8:SimD X.K te fe) (hg:∀ d ω ω',NoOw ω→fg d ω=some ω'→NoOw ω'):SimE X.K (tComp M frees wi g tc te) (fComp M frees fi fg fc fe):=by
  intro G0 H0 G ω σ H r Q o e k
  obtain ⟨ds,q,e⟩:=bnd e
  by_cases hz:ds.length≤1000000
  · rw [if_pos hz] at e
    obtain ⟨rs,q2,e⟩:=mpd e
    subst e
    refine h2 G0 H0 G ω σ H ds _ o q fun J G1 H1 x1 it=>?_
    intro A hA
    have ow0:NoOw (inW M frees ω):=by
      intro i es z
      unfold inW at z
      rcases Nat.lt_or_ge i M with y|y
      · rw [List.getElem?_append_left (by simpa using y),List.getElem?_replicate,if_pos y] at z;cases z
      · rw [List.getElem?_append_right (by simpa using y),List.length_replicate,List.getElem?_map] at z
        cases e1:frees[i - M]? with
        | none=>rw [e1] at z;cases z
        | some j =>
          rw [e1] at z
          have z':shOf ω[j]?=some es:=Option.some.inj z
          generalize ω[j]?=u at z'
          unfold shOf at z'
          split at z'
          · cases z';exact ⟨_,rfl⟩
          · cases z'
    have own0:∀ G2 H2,Same G1 G2→Same G2 H2→Own X.K G2 (fr H2) G2 (inW M frees ω) (sgIn M frees σ) H2:=fun G2 H2 s1 s2=>by
      have o1:=o.keep x1
      refine ⟨Ext.refl s2,by unfold inW sgIn;simp,fun i d hi=>?_,fun i ds' hi=>absurd hi (ow0.ow i ds'),fun i j ds' es l hi=>absurd hi (ow0.ow i ds'),fun i ks ds' hi=>absurd hi (ow0.od i ks ds'),PwOk.no ow0.pw⟩
      unfold inW at hi
      unfold sgIn
      rcases Nat.lt_or_ge i M with y|y
      · rw [List.getElem?_append_left (by simpa using y),List.getElem?_replicate,if_pos y] at hi;cases hi
      · rw [List.getElem?_append_right (by simpa using y),List.length_replicate,List.getElem?_map] at hi ⊢
        cases e1:frees[i - M]? with
        | none=>rw [e1] at hi;cases hi
        | some j =>
          rw [e1] at hi
          have hi':shOf ω[j]?=some (.sh d):=Option.some.inj hi
          cases e2:ω[j]? with
          | none=>rw [e2] at hi';cases hi'
          | some w =>
            rw [e2] at hi'
            cases w with
            | none=>cases hi'
            | some w =>
              cases w with
              | ow _=>cases hi'
              | od _ _=>cases hi'
              | pw _=>cases hi'
              | sh d' =>
                cases hi'
                obtain ⟨v,q3,q4⟩:=o1.sh j _ e2
                exact ⟨v,by rw [Option.map_some,q3];rfl,q4.mono s1⟩
    refine ⟨fun i m σ2 H2=>∃ G2 ω2 accd accv,Own X.K G2 (fr H2) G2 ω2 σ2 H2∧NoOw ω2∧Ext G1 H1 G2 H2∧G2 A=none∧H2 A=some (.lst accv)∧Reps X.K G2 accd accv∧accd.length≤i∧i≤ds.length∧m=ds.length - i ∧
      ∃ rest,compD fg fc fe (ds.drop i) ω2=some rest∧accd++rest=rs,⟨_,G1,inW M frees ω,[],[],own0 _ _ (Same.refl _) (same_updR x1.gh (x1.gh.free hA) _),ow0,Ext.hide x1.gh hA _,x1.gh.free hA,upd_same,Reps.nil,Nat.le_refl _,Nat.zero_le _,rfl,rs,q2,rfl⟩,?_⟩
    rintro i m σ2 H2 ⟨G2,ω2,accd,accv,o2,no2,x2,gA,hA2,ra,la,li,rfl,rest,cd,er⟩
    by_cases hlt:i < ds.length
    · refine .inr ⟨it.go H2 i (x2.gg.trans x2.gh) hlt,fun x H3 hy=>?_⟩
      have hd:ds[i]?=some ds[i]:=List.getElem?_eq_getElem hlt
      obtain ⟨G4,x4,rx⟩:=it.yld G2 H2 i x H3 ds[i] x2.gg x2.gh hd hy
      have o2':=o2.keep x4
      have o2:Own X.K G4 (fr H3) G4 ω2 σ2 H3:=⟨Ext.refl x4.gh,o2'.len,o2'.sh,fun i ds' hi=>absurd hi (no2.ow i ds'),fun i j ds' es l hi=>absurd hi (no2.ow i ds'),fun i ks ds' hi=>absurd hi (no2.od i ks ds'),PwOk.no no2.pw⟩
      have gA:G4 A=none:=x4.new A gA (by rw [hA2];exact fun z=>by cases z)
      have hA2:H3 A=some (.lst accv):=x4.hh _ _ hA2
      have x2:=x2.trans x4
      have ra:=ra.mono x4.gg
      rw [List.drop_eq_getElem_cons hlt] at cd
      obtain ⟨w,q1,cd⟩:=bnd cd
      obtain ⟨b,q3,cd⟩:=bnd cd
      have now:=hg _ _ _ no2 q1
      refine h4 G4 (fr H3) G4 ω2 σ2 H3 ds[i] x w _ o2 q1 rx fun σ4 o4=>?_
      refine h6 G4 (fr H3) G4 w σ4 H3 b _ o4 q3 fun G5 H5 x5=>?_
      have o5:=o4.keep x5
      have gA5:G5 A=none:=x5.new A gA (by rw [hA2];exact fun z=>by cases z)
      have hA5:H5 A=some (.lst accv):=x5.hh _ _ hA2
      cases b with
      | false =>
        rw [if_neg Bool.false_ne_true]
        rw [if_neg Bool.false_ne_true] at cd
        have o6:Own X.K G5 (fr H5) G5 w σ4 H5:=⟨Ext.refl x5.gh,o5.len,o5.sh,fun i ds' hi=>absurd hi (now.ow i ds'),fun i j ds' es l hi=>absurd hi (now.ow i ds'),fun i ks ds' hi=>absurd hi (now.od i ks ds'),PwOk.no now.pw⟩
        exact ⟨ds.length - (i+1),by omega,G5,w,accd,accv,o6,now,x2.trans x5,gA5,hA5,ra.mono x5.gg,by omega,hlt,rfl,rest,cd,er⟩
      | true =>
        rw [if_pos rfl] at cd ⊢
        obtain ⟨d,q4,cd⟩:=bnd cd
        obtain ⟨rest',q5,cd⟩:=mpd cd
        subst cd
        refine h8 G4 (fr H3) G5 w σ4 H5 d _ o5 q4 fun v G6 H6 x6 y6=>?_
        have gA6:G6 A=none:=x6.new A gA5 (by rw [hA5];exact fun z=>by cases z)
        have hA6:H6 A=some (.lst accv):=x6.hh _ _ hA5
        have x26:=(x2.trans x5).trans x6
        have raa:=ra.mono (x5.gg.trans x6.gg)
        have hl:accv.length < sizeLine:=by rw [←raa.len,sizeLine_eq];omega
        refine ⟨accv,hA6,hl,ds.length - (i+1),by omega,G6,w,accd++[d],accv++[v],?_,now,⟨x26.gg,same_updR x26.gh gA6 _,same_updR x26.hh hA _,x26.new⟩,gA6,upd_same,raa.app (Reps.cons y6 Reps.nil),by rw [List.length_append,List.length_singleton];omega,hlt,rfl,rest',q5,by rw [List.append_assoc];exact er⟩
        have o6:=o5.keep x6
        exact ⟨Ext.refl (same_updR x6.gh gA6 _),o6.len,o6.sh,fun i ds' hi=>absurd hi (now.ow i ds'),fun i j ds' es l hi=>absurd hi (now.ow i ds'),fun i ks ds' hi=>absurd hi (now.od i ks ds'),PwOk.no now.pw⟩
    · have ei:i=ds.length:=by omega
      subst ei
      rw [List.drop_length] at cd
      cases cd
      rw [List.append_nil] at er
      subst er
      refine .inl ⟨it.stop H2 (x2.gg.trans x2.gh),k _ G2 H2 (x1.trans x2) ⟨A,accv,rfl,x1.hh.free hA,gA,hA2,ra⟩⟩
  · rw [if_neg hz] at e;cases e
theorem noOw_set {ω:WSt} {i:Nat} {d:D} (h:NoOw ω):NoOw (ω.set i (some (.sh d))):=by
  intro j ds z
  rcases get_set z with ⟨_,_,y⟩|⟨_,y⟩
  · cases y;exact ⟨d,rfl⟩
  · exact h j ds y
def Tame (fg:FG):Prop:=∀ d ω ω',NoOw ω→fg d ω=some ω'→NoOw ω'
def Tames (gs:List D→WSt→Option WSt):Prop:=∀ ds ω ω',NoOw ω→gs ds ω=some ω'→NoOw ω'
theorem tame_n (i:Nat):Tame (gN i):=fun d ω ω' h e=>by cases e;exact noOw_set h
theorem tames_nil:Tames gsNil:=fun ds ω ω' h e=>by
  cases ds with
  | nil=>cases e;exact h
  | cons _ _=>cases e
theorem tames_cons {fg:FG} {gs:List D→WSt→Option WSt} (h:Tame fg) (h':Tames gs):Tames (gsCons fg gs):=fun ds ω ω' n e=>by
  cases ds with
  | nil=>cases e
  | cons d r=>obtain ⟨w,q,e⟩:=bnd e;exact h' _ _ _ (h _ _ _ n q) e
theorem tame_t {n:Nat} {gs:List D→WSt→Option WSt} (h:Tames gs):Tame (gT n gs):=fun d ω ω' no e=>by
  unfold gT at e
  cases d with
  | tup ds =>
    dsimp only at e
    by_cases z:ds.length=n
    · rw [if_pos z] at e;exact h _ _ _ no e
    · rw [if_neg z] at e;cases e
  | _=>cases e
noncomputable def canD (K:PySem.W.Frag) (f:FD):TE:=fun σ H Q=>∃ G0 H0 G ω d,Own K G0 H0 G ω σ H∧f ω=some d∧∀ v G' H',Ext G H G' H'→Rep K G' d v→Q v H'
noncomputable def canT (K:PySem.W.Frag) (f:FT):TT:=fun σ H Q=>∃ G0 H0 G ω b,Own K G0 H0 G ω σ H∧f ω=some b∧∀ G' H',Ext G H G' H'→Q b H'
noncomputable def canG (K:PySem.W.Frag) (f:FG):TG:=fun v σ H Q=>∃ G0 H0 G ω d ω',Own K G0 H0 G ω σ H∧f d ω=some ω'∧Rep K G d v∧∀ σ',Own K G0 H0 G ω' σ' H→Q σ' H
theorem XD.can {X:Cx} {e:Expr} {f:FD} (h:XD X e f):PE X e (canD X.K f):=fun pins s σ H Q I ⟨G0,H0,G,ω,d,o,e,k⟩=>let ⟨_,h1,h2⟩:=h;h1 pins s σ H Q I (h2 G0 H0 G ω σ H d Q o e k)
theorem XTs.can {X:Cx} {e:List Expr} {f:FT} (h:XTs X e f):PTs X e (canT X.K f):=fun pins s σ H Q I ⟨G0,H0,G,ω,d,o,e,k⟩=>let ⟨_,h1,h2⟩:=h;h1 pins s σ H Q I (h2 G0 H0 G ω σ H d Q o e k)
theorem XG.can {X:Cx} {e:Expr} {f:FG} (h:XG X e f):PG X e (canG X.K f):=fun pins s σ H v u Q I r ⟨G0,H0,G,ω,d,ω',o,e,y,k⟩=>let ⟨_,h1,h2⟩:=h;h1 pins s σ H v u Q I r (h2 G0 H0 G ω σ H d v ω' Q o e y k)
theorem sim_canD {K:PySem.W.Frag} {f:FD}:SimD K (canD K f) f:=fun G0 H0 G ω σ H d Q o e k=>⟨G0,H0,G,ω,d,o,e,k⟩
theorem sim_canT {K:PySem.W.Frag} {f:FT}:SimT K (canT K f) f:=fun G0 H0 G ω σ H d Q o e k=>⟨G0,H0,G,ω,d,o,e,k⟩
theorem sim_canG {K:PySem.W.Frag} {f:FG}:SimG K (canG K f) f:=fun G0 H0 G ω σ H d v ω' Q o e y k=>⟨G0,H0,G,ω,d,ω',o,e,y,k⟩
theorem xe_comp (hc:X.calm=true) (B:BlkOk X N M frees scope) (hi:XI X tg iter fi) (ht:Tame fg)
    (hb:∀ C s H fp,XG (cxIn X N scope C s H fp) tg fg∧XTs (cxIn X N scope C s H fp) ifs fc∧XD (cxIn X N scope C s H fp) elt fe)
    (hs:∀ x,foldedSetIterable iter X.env x=pure x:=by intro _;rfl):XE X (.ListComp elt [⟨tg,iter,ifs,0⟩] scope pos) (fComp M frees fi fg fc fe):=by
  obtain ⟨wi,h1,h2⟩:=hi
  have b4:∀ C s H fp,PG (cxIn X N scope C s H fp) tg (canG X.K fg)∧PTs (cxIn X N scope C s H fp) ifs (canT X.K fc)∧PE (cxIn X N scope C s H fp) elt (canD X.K fe):=fun C s H fp=>⟨(hb C s H fp).1.can,(hb C s H fp).2.1.can,(hb C s H fp).2.2.can⟩
  exact ⟨_,pe_comp hc B h1 b4 hs,sim_comp h2 sim_canG sim_canT sim_canD ht⟩
theorem xs_setc {i:Nat} {x:Str} {pos' spos:Pos} (hc:X.calm=true) (hN:X.N.Nodup) (hi':X.N[i]?=some x) (hx:X.env.scope.names.lookup x=some .local) (B:BlkOk X N M frees scope) (hi:XI X tg iter fi) (ht:Tame fg)
    (hb:∀ C s H fp,XG (cxIn X N scope C s H fp) tg fg∧XTs (cxIn X N scope C s H fp) ifs fc∧XD (cxIn X N scope C s H fp) elt fe)
    (hsw:swapsWith (.ListComp elt [⟨tg,iter,ifs,0⟩] scope pos) (some (.Name x pos')) spos.line X.env=pure true:=by rfl)
    (hs:∀ x,foldedSetIterable iter X.env x=pure x:=by intro _;rfl):XS X (.Assign [.Name x pos'] (.ListComp elt [⟨tg,iter,ifs,0⟩] scope pos) spos) (sSet i (fComp M frees fi fg fc fe)):=by
  obtain ⟨wi,h1,h2⟩:=hi
  have b4:∀ C s H fp,PG (cxIn X N scope C s H fp) tg (canG X.K fg)∧PTs (cxIn X N scope C s H fp) ifs (canT X.K fc)∧PE (cxIn X N scope C s H fp) elt (canD X.K fe):=fun C s H fp=>⟨(hb C s H fp).1.can,(hb C s H fp).2.1.can,(hb C s H fp).2.2.can⟩
  exact ⟨_,ps_setc hc hN hi' hx B h1 b4 hsw hs,sim_set (sim_comp h2 sim_canG sim_canT sim_canD ht)⟩
def FreesOk (X:Cx) (scope:Scope):List Str→List Nat→Prop
  | [],[]=>True
  | x::xs,j::js=>(X.N[j]?=some x∧(X.env.kindOf x=some .cell∨X.env.kindOf x=some .free)∧scope.names.lookup x=some .free)∧FreesOk X scope xs js
  | _,_=>False
theorem freesOk_at {X:Cx} {scope:Scope}:∀ {xs:List Str} {js:List Nat},FreesOk X scope xs js→∀ (k:Nat) (x:Str),xs[k]?=some x→∃ j,js[k]?=some j∧X.N[j]?=some x∧(X.env.kindOf x=some .cell∨X.env.kindOf x=some .free)∧scope.names.lookup x=some .free
  | [],_,_,_,_,e=>by simp at e
  | _::_,[],h,_,_,_=>h.elim
  | y::ys,i::is,⟨h1,h2⟩,0,x,e=>by
    have:y=x:=by simpa using e
    subst this
    exact ⟨i,rfl,h1⟩
  | y::ys,i::is,⟨h1,h2⟩,k+1,x,e=>by
    obtain ⟨j,q⟩:=freesOk_at h2 k x (by simpa using e)
    exact ⟨j,by simpa using q.1,q.2⟩
theorem freesOk_len {X:Cx} {scope:Scope}:∀ {xs:List Str} {js:List Nat},FreesOk X scope xs js→xs.length=js.length
  | [],[],_=>rfl
  | [],_::_,h=>h.elim
  | _::_,[],h=>h.elim
  | _::ys,_::is,⟨_,h2⟩=>by rw [List.length_cons,List.length_cons,freesOk_len h2]
theorem blk {X:Cx} {scope:Scope} (own free:List Str) (frees:List Nat) (h1:scope.kind=.function) (h2:∀ y∈scope.names,y.2≠.cell) (h3:∀ y∈scope.names,y.2=.local→scope.names.lookup y.1=some .local)
    (h4:(scope.names.all fun p=>p.2 != .free || (X.env.cells.lookup p.1).isSome)=true) (h5:FreesOk X scope free frees):BlkOk X (own++free) own.length frees scope:=by
  refine ⟨h1,h2,h3,fun p hp hf=>?_,fun k x e=>?_,by rw [List.length_append,freesOk_len h5]⟩
  · have:=List.all_eq_true.mp h4 p hp
    rw [hf] at this
    simpa using this
  · rw [List.getElem?_append_right (Nat.le_add_right _ _),Nat.add_sub_cancel_left] at e
    exact freesOk_at h5 k x e
end
noncomputable def entry (n:Nat) (ds:List D):WSt:=ds.map (fun d=>some (.sh d))++List.replicate (n - ds.length) none
noncomputable def mir (n:Nat) (body:FS) (ds:List D):Option O:=match body (entry n ds) with
  | some (.rt r,_)=>some r
  | some (.nx,_)=>some (.sh .non)
  | _=>none
theorem reps_start {K:PySem.W.Frag} {H:Hp} {N:List Str} {ds:List D} {vs:List V} (h:Reps K H ds vs) (i:Nat) (d:D) (e:(entry N.length ds)[i]?=some (some (.sh d))):∃ v,(L2.start N vs)[i]?=some (some v)∧Rep K H d v:=by
  unfold entry at e
  unfold L2.start
  have hl:=h.len
  rcases Nat.lt_or_ge i ds.length with y|y
  · rw [List.getElem?_append_left (by simpa using y),List.getElem?_map] at e
    have e1:ds[i]?=some d:=by
      cases q:ds[i]? with
      | none=>rw [q] at e;cases e
      | some d'=>rw [q] at e;cases e;rfl
    obtain ⟨v,q1,q2⟩:=h.get e1
    refine ⟨v,?_,q2⟩
    rw [List.getElem?_append_left (by simpa using (by omega:i < vs.length)),List.getElem?_map,q1];rfl
  · rw [List.getElem?_append_right (by simpa using y),List.getElem?_replicate] at e
    split at e <;> cases e
theorem entry_noOw {n:Nat} {ds:List D}:NoOw (entry n ds):=by
  intro i es z
  unfold entry at z
  rcases Nat.lt_or_ge i ds.length with y|y
  · rw [List.getElem?_append_left (by simpa using y),List.getElem?_map] at z
    cases q:ds[i]? with
    | none=>rw [q] at z;cases z
    | some d=>rw [q] at z;cases z;exact ⟨d,rfl⟩
  · rw [List.getElem?_append_right (by simpa using y),List.getElem?_replicate] at z
    split at z <;> cases z
theorem fnD {P:Program} {w:World} {K:PySem.W.Frag} {mg:Str→Option Value} {base:Heap} {x qual:Str} {st:Stmt} {f:Addr} {fd:FuncData} {N ps:List Str} {k:Nat} {body:FS} (F:Fun K x qual st f fd) (S:FnScope N ps (defScope st))
    (hb:∀ (cdv:Value) (A:Around) (outer:List Env) (s:Shared) (H:Hp) (E:XK),Room k (A.deeper (PyProof.Rows.envOfC qual (defScope st) s.heap.objs.size f cdv))→XSs (cxOf CX0 P w K mg base N qual (defScope st) f cdv A outer s H E).nox (defBody st) body) :
    FnOk P w K mg base CX0 (k+1) f fd ps (spD K ps.length (mir N.length body)):=by
  refine F.ok S (fun vs H Q E h=>?_) (fun cdv A outer s H vs Q E hr h=>?_)
  · obtain ⟨G,ds,r,_,h2,_,h4,_⟩:=h
    rw [←h4.len];exact h2
  · obtain ⟨G,ds,r,h1,h2,h3,h4,h5⟩:=h
    obtain ⟨t,p1,p2⟩:=hb cdv A outer s H E hr
    refine ⟨t,p1,?_⟩
    unfold mir at h1
    have hl:=h4.len
    have hpl:ps.length≤N.length:=by have:=congrArg List.length S.pre;rw [List.length_take] at this;omega
    have o0:Own K G (fr H) G (entry N.length ds) (L2.start N vs) H:=by
      refine ⟨Ext.refl h3,?_,fun i d e=>reps_start h4 i d e,fun i es e=>absurd e (entry_noOw.ow i es),fun i j es fs l e=>absurd e (entry_noOw.ow i es),fun i ks es e=>absurd e (entry_noOw.od i ks es),PwOk.no entry_noOw.pw⟩
      unfold entry L2.start
      simp only [List.length_append,List.length_map,List.length_replicate]
      omega
    cases q:body (entry N.length ds) with
    | none=>rw [q] at h1;cases h1
    | some p =>
      obtain ⟨out,ω'⟩:=p
      rw [q] at h1
      refine p2 G (fr H) G _ _ H out ω' _ o0 q fun G' σ' H' o' s'=>?_
      cases out with
      | nx=>cases h1;exact h5 _ G' H' o'.ext rfl
      | bk=>cases h1
      | ct=>cases h1
      | rt r'=>cases h1;exact fun v y=>h5 v G' H' o'.ext y
end Hk
set_option maxRecDepth 100000
namespace Hk
open PySem L2
theorem bt_len:bootBuiltins "len" = some (.builtin "len"):=by decide +kernel
theorem bt_all:bootBuiltins "all" = some (.builtin "all"):=by decide +kernel
theorem bt_sum:bootBuiltins "sum" = some (.builtin "sum"):=by decide +kernel
theorem bt_abs:bootBuiltins "abs" = some (.builtin "abs"):=by decide +kernel
theorem bt_sorted:bootBuiltins "sorted" = some (.builtin "sorted"):=by decide +kernel
theorem bt_int:bootBuiltins "int" = some (.type "int"):=by decide +kernel
theorem bt_bool:bootBuiltins "bool" = some (.type "bool"):=by decide +kernel
theorem bt_list:bootBuiltins "list" = some (.type "list"):=by decide +kernel
theorem bt_tuple:bootBuiltins "tuple" = some (.type "tuple"):=by decide +kernel
theorem bt_set:bootBuiltins "set" = some (.type "set"):=by decide +kernel
theorem bt_zip:bootBuiltins "zip" = some (.type "zip"):=by decide +kernel
end Hk
set_option maxRecDepth 100000
namespace Hk
open PySem L2
noncomputable def bindS (o:Option (Out×WSt)) (g:FS):Option (Out×WSt):=o.bind fun p=>match p.1 with
  | .nx=>g p.2
  | o=>some (o,p.2)
noncomputable def setS (i:Nat) (ω:WSt) (o:Option R):Option (Out×WSt):=o.bind fun r=>(setR i r ω).map fun w=>(.nx,w)
noncomputable def ifS (c:Option Bool) (f g:FS) (ω:WSt):Option (Out×WSt):=c.bind fun b=>if b=true then f ω else g ω
noncomputable def retS (ω:WSt) (o:Option R):Option (Out×WSt):=o.bind fun r=>match r with
  | .sh d=>some (.rt (.sh d),ω)
  | .fr ds=>some (.rt (.fr ds),ω)
  | .vw _=>none
noncomputable def retV (ω:WSt) (o:Option (Option W)):Option (Out×WSt):=match o with
  | some (some (.sh d))=>some (.rt (.sh d),ω)
  | some (some (.ow ds))=>some (.rt (.fr ds),ω)
  | _=>none
noncomputable def appS (i:Nat) (ω:WSt) (o:Option D) (l:Option (Option W)):Option (Out×WSt):=o.bind fun d=>match l with
  | some (some (.ow ds))=>if ds.length < 1000000 then some (.nx,ω.set i (some (.ow (ds++[d])))) else none
  | _=>none
noncomputable def extS (i:Nat) (ω:WSt) (o:Option D) (l:Option (Option W)):Option (Out×WSt):=o.bind fun d=>(itemsOf d).bind fun es=>match l with
  | some (some (.ow ds))=>if ds.length+es.length≤1000000 then some (.nx,ω.set i (some (.ow (ds++es)))) else none
  | _=>none
noncomputable def shrS (i:Nat) (ω:WSt) (o:Option (Option W)):WSt:=match o with
  | some (some (.ow ds))=>ω.set i (some (.sh (.lst ds)))
  | some (some (.od ks ds))=>ω.set i (some (.sh (.dic ks ds)))
  | _=>ω
noncomputable def forS (o:Option (List D)) (g:FG) (b:FS) (ω:WSt):Option (Out×WSt):=o.bind fun ds=>forD g b ds ω
noncomputable def asgS (o:Option D) (g:FG) (ω:WSt):Option (Out×WSt):=o.bind fun d=>(g d ω).map fun w=>(.nx,w)
noncomputable def varR (o:Option (Option W)):Option R:=match o with
  | some (some (.sh d))=>some (.sh d)
  | some (some (.ow ds))=>some (.vw ds)
  | some (some (.pw ds))=>some (.vw ds)
  | _=>none
noncomputable def eD (o:Option D):Option R:=o.map R.sh
noncomputable def dR (o:Option R):Option D:=match o with
  | some (.sh d)=>some d
  | some (.fr ds)=>some (.lst ds)
  | _=>none
noncomputable def vR (o:Option R):Option D:=o.map R.d
noncomputable def op2 (op:D→D→Option R) (x y:Option D):Option R:=x.bind fun x=>y.bind fun y=>op x y
noncomputable def callR (m:List D→Option O) (o:Option (List D)):Option R:=o.bind fun ds=>(m ds).map O.r
noncomputable def consA (o:Option D) (r:Option (List D)):Option (List D):=o.bind fun d=>r.map fun ds=>d::ds
noncomputable def bltR (op:List D→Option R) (o:Option (List D)):Option R:=o.bind op
noncomputable def slR (o:Option D) (l h:Option (Option Int)):Option R:=o.bind fun d=>l.bind fun lo=>h.bind fun hi=>oSl d lo hi
noncomputable def atP (o:Option D):Option (Option Int):=o.bind fun d=>match d with|.int i=>some (some i)|_=>none
noncomputable def isiR (c:Ty) (o:Option D):Option R:=o.bind fun d=>match d with
  | .scr _=>none
  | .exc _=>none
  | .dic _ _=>none
  | d=>some (.sh (.bl (subT (tyD d) c)))
noncomputable def tR (o:Option R):Option Bool:=match o with
  | some (.sh (.bl k))=>some k
  | _=>none
noncomputable def andT (o:Option Bool) (g:FT) (ω:WSt):Option Bool:=o.bind fun c=>if c=true then g ω else some false
noncomputable def orT (o:Option Bool) (g:FT) (ω:WSt):Option Bool:=o.bind fun c=>if c=true then some true else g ω
noncomputable def notT (o:Option Bool):Option Bool:=o.map (!·)
noncomputable def truT (o:Option D):Option Bool:=o.bind truD
noncomputable def andV (o:Option D) (g:FD) (ω:WSt):Option D:=o.bind fun d=>(blOf d).bind fun c=>if c=true then g ω else some (.bl false)
noncomputable def seqI (o:Option D):Option (List D):=o.bind itemsOf
noncomputable def rg1I (o:Option (List D)):Option (List D):=o.bind fun ds=>match ds with
  | [.int j]=>if -(2 ^ 62)≤j∧j < 2 ^ 62 then some (upTo 0 j.toNat) else none
  | _=>none
noncomputable def compR (M:Nat) (fr:List Nat) (o:Option (List D)) (g:FG) (c:FT) (f:FD) (ω:WSt):Option R:=o.bind fun ds=>if ds.length≤1000000 then (compD g c f ds (inW M fr ω)).map R.fr else none
noncomputable def outM (o:Option (Out×WSt)):Option O:=match o with
  | some (.rt r,_)=>some r
  | some (.nx,_)=>some (.sh .non)
  | _=>none
section
variable {f g:FS} {ω w:WSt} {i:Nat} {fe fe':FE} {fd fd':FD} {ft ft':FT} {r:O} {d d':D} {ds ds':List D} {a b:Int} {p q:Bool} {fa:FA} {fg:FG} {fi:FI} {n:Nat}
theorem e_mir:mir n f ds=outM (f (entry n ds)):=rfl
theorem e_om_rt:outM (some (.rt r,w))=some r:=rfl
theorem e_om_nx:outM (some (.nx,w))=some (.sh .non):=rfl
theorem e_seq:sSeq f g ω=bindS (f ω) g:=rfl
theorem e_bs_nx:bindS (some (.nx,w)) g=g w:=rfl
theorem e_bs_rt:bindS (some (.rt r,w)) g=some (.rt r,w):=rfl
theorem e_nil:sNil ω=some (.nx,ω):=rfl
theorem e_set:sSet i fe ω=setS i ω (fe ω):=rfl
theorem e_ss_sh:setS i ω (some (.sh d))=some (.nx,ω.set i (some (.sh d))):=rfl
theorem e_ss_fr:setS i ω (some (.fr ds))=some (.nx,ω.set i (some (.ow ds))):=rfl
theorem e_if:sIf ft f g ω=ifS (ft ω) f g ω:=rfl
theorem e_if_t:ifS (some true) f g ω=f ω:=rfl
theorem e_if_f:ifS (some false) f g ω=g ω:=rfl
theorem e_ret:sRet fe ω=retS ω (fe ω):=rfl
theorem e_rs_sh:retS ω (some (.sh d))=some (.rt (.sh d),ω):=rfl
theorem e_rs_fr:retS ω (some (.fr ds))=some (.rt (.fr ds),ω):=rfl
theorem e_retv:sRetV i ω=retV ω ω[i]?:=rfl
theorem e_rv_ow:retV ω (some (some (.ow ds)))=some (.rt (.fr ds),ω):=rfl
theorem e_app:sApp i fd ω=appS i ω (fd ω) ω[i]?:=rfl
theorem e_as (h:ds.length < 1000000):appS i ω (some d) (some (some (.ow ds)))=some (.nx,ω.set i (some (.ow (ds++[d])))):=if_pos h
theorem e_ext:sExt i fd ω=extS i ω (fd ω) ω[i]?:=rfl
theorem e_es_t (h:ds.length+ds'.length≤1000000):extS i ω (some (.tup ds')) (some (some (.ow ds)))=some (.nx,ω.set i (some (.ow (ds++ds')))):=if_pos h
theorem e_es_l (h:ds.length+ds'.length≤1000000):extS i ω (some (.lst ds')) (some (some (.ow ds)))=some (.nx,ω.set i (some (.ow (ds++ds')))):=if_pos h
theorem e_share:sShare i f ω=f (shrS i ω ω[i]?):=rfl
theorem e_sh_ow:shrS i ω (some (some (.ow ds)))=ω.set i (some (.sh (.lst ds))):=rfl
theorem e_for:sFor fi fg f ω=forS (fi ω) fg f ω:=rfl
theorem e_fs:forS (some ds) fg f ω=forD fg f ds ω:=rfl
theorem e_asg:sAsg fd fg ω=asgS (fd ω) fg ω:=rfl
theorem e_ag:asgS (some d) fg ω=(fg d ω).map fun w=>(.nx,w):=rfl
theorem e_gn:gN i d ω=some (ω.set i (some (.sh d))):=rfl
theorem e_gt {gs}:gT n gs (.tup ds) ω=if ds.length=n then gs ds ω else none:=rfl
theorem e_gc {gs}:gsCons fg gs (d::ds) ω=(fg d ω).bind fun w=>gs ds w:=rfl
theorem e_g0:gsNil [] ω=some ω:=rfl
theorem e_var:fVar i ω=varR ω[i]?:=rfl
theorem e_vr_sh:varR (some (some (.sh d)))=some (.sh d):=rfl
theorem e_vr_ow:varR (some (some (.ow ds)))=some (.vw ds):=rfl
theorem e_c:fC d ω=some d:=rfl
theorem e_e:eOf fd ω=eD (fd ω):=rfl
theorem e_ed:eD (some d)=some (.sh d):=rfl
theorem e_d:dOf fe ω=dR (fe ω):=rfl
theorem e_dr_sh:dR (some (.sh d))=some d:=rfl
theorem e_dr_fr:dR (some (.fr ds))=some (.lst ds):=rfl
theorem e_v:vOf fe ω=vR (fe ω):=rfl
theorem e_vv_sh:vR (some (.sh d))=some d:=rfl
theorem e_vv_fr:vR (some (.fr ds))=some (.lst ds):=rfl
theorem e_vv_vw:vR (some (.vw ds))=some (.lst ds):=rfl
theorem e_op {op}:fOpE op fd fd' ω=op2 op (fd ω) (fd' ω):=rfl
theorem e_o2 {op}:op2 op (some d) (some d')=op d d':=rfl
theorem e_call {m}:fCall m fa ω=callR m (fa ω):=rfl
theorem e_cl {m}:callR m (some ds)=(m ds).map O.r:=rfl
theorem e_or_sh:(O.sh d).r=.sh d:=rfl
theorem e_or_fr:(O.fr ds).r=.fr ds:=rfl
theorem e_ac:aCons fd fa ω=consA (fd ω) (fa ω):=rfl
theorem e_ca:consA (some d) (some ds)=some (d::ds):=rfl
theorem e_an:aNil ω=some []:=rfl
theorem e_lst:fLst fa ω=(fa ω).map R.fr:=rfl
theorem e_tup:fTup fa ω=(fa ω).map D.tup:=rfl
theorem e_blt {op}:fBlt op fa ω=bltR op (fa ω):=rfl
theorem e_bl {op}:bltR op (some ds)=op ds:=rfl
theorem e_slc {l h:FO}:fSl fd l h ω=slR (fd ω) (l ω) (h ω):=rfl
theorem e_sl {lo hi:Option Int}:slR (some d) (some lo) (some hi)=oSl d lo hi:=rfl
theorem e_po:pNo ω=some none:=rfl
theorem e_pa:pAt fd ω=atP (fd ω):=rfl
theorem e_ap:atP (some (.int a))=some (some a):=rfl
theorem e_isi {c}:fIsi c fd ω=isiR c (fd ω):=rfl
theorem e_isi_lst {c}:isiR c (some (.lst ds))=some (.sh (.bl (subT .lst c))):=rfl
theorem e_isi_tup {c}:isiR c (some (.tup ds))=some (.sh (.bl (subT .tup c))):=rfl
theorem e_t:tOf fe ω=tR (fe ω):=rfl
theorem e_tr:tR (some (.sh (.bl p)))=some p:=rfl
theorem e_tand:tAndF ft ft' ω=andT (ft ω) ft' ω:=rfl
theorem e_ta:andT (some p) ft ω=if p=true then ft ω else some false:=rfl
theorem e_ta2:(if p=true then some q else some false)=some (p && q):=by cases p <;> rfl
theorem e_tor:tOrF ft ft' ω=orT (ft ω) ft' ω:=rfl
theorem e_to:orT (some p) ft ω=if p=true then some true else ft ω:=rfl
theorem e_to2:(if p=true then some true else some q)=some (p || q):=by cases p <;> rfl
theorem e_tnot:tNotF ft ω=notT (ft ω):=rfl
theorem e_tn:notT (some p)=some (!p):=rfl
theorem e_ttru:tTru fd ω=truT (fd ω):=rfl
theorem e_tt_bl:truT (some (.bl p))=some p:=rfl
theorem e_tt_lst:truT (some (.lst ds))=some (!ds.isEmpty):=rfl
theorem e_vand:vAnd fd fd' ω=andV (fd ω) fd' ω:=rfl
theorem e_va:andV (some (.bl p)) fd ω=if p=true then fd ω else some (.bl false):=rfl
theorem e_va2:(if p=true then some (D.bl q) else some (D.bl false))=some (.bl (p && q)):=by cases p <;> rfl
theorem e_iseq:iSeq fd ω=seqI (fd ω):=rfl
theorem e_is_l:seqI (some (.lst ds))=some ds:=rfl
theorem e_is_t:seqI (some (.tup ds))=some ds:=rfl
theorem e_rg1:iRg1 fa ω=rg1I (fa ω):=rfl
theorem r1_ok (h:-(2 ^ 62)≤a∧a < 2 ^ 62):rg1I (some [.int a])=some (upTo 0 a.toNat):=if_pos h
theorem e_comp {M fr}:fComp M fr fi fg ft fd ω=compR M fr (fi ω) fg ft fd ω:=rfl
theorem e_cp {M fr} (h:ds.length≤1000000):compR M fr (some ds) fg ft fd ω=(compD fg ft fd ds (inW M fr ω)).map R.fr:=if_pos h
theorem e_neg:fNeg fd ω=(fd ω).bind oNeg:=rfl
theorem e_ng:oNeg (.int a)=some (.sh (.int (-a))):=rfl
theorem e_len_l:bLen [.lst ds]=some (.sh (.int ds.length)):=rfl
theorem e_len_t:bLen [.tup ds]=some (.sh (.int ds.length)):=rfl
theorem e_len_s {ns}:bLen [.scr ns]=some (.sh (.int ns.length)):=rfl
theorem e_list_l:bList [.lst ds]=some (.fr ds):=rfl
theorem oEq_ii:oEq false (.int a) (.int b)=some (.sh (.bl (a == b))):=rfl
theorem oNe_ii:oEq true (.int a) (.int b)=some (.sh (.bl (!(a == b)))):=rfl
theorem oSub_ii:oSub (.int a) (.int b)=some (.sh (.int (a - b))):=rfl
theorem oLt_ii:oLt (.int a) (.int b)=some (.sh (.bl (decide (a < b)))):=rfl
theorem oLe_ii:oLe (.int a) (.int b)=some (.sh (.bl (decide (a≤b)))):=rfl
theorem oGt_ii:oGt (.int a) (.int b)=some (.sh (.bl (decide (b < a)))):=rfl
theorem oAdd_ii:oAdd (.int a) (.int b)=some (.sh (.int (a+b))):=rfl
theorem oIx_l:oIx (.lst ds) (.int a)=(atI ds a).map R.sh:=rfl
theorem oIx_t:oIx (.tup ds) (.int a)=(atI ds a).map R.sh:=rfl
theorem oIx_s {ns:List Int}:oIx (.scr ns) (.int a)=(atI ns a).map fun n=>.sh (.int n):=rfl
theorem atI_nn {α:Type} {xs:List α} {i:Int} (h0:0≤i) (h1:i < xs.length):atI xs i=some (xs[i.toNat]'(by omega)):=by
  unfold atI ixN
  rw [if_pos h0,if_pos h1]
  show xs[i.toNat]?=_
  rw [List.getElem?_eq_getElem (by omega)]
theorem at0 {α:Type} {x:α} {xs:List α}:atI (x::xs) 0=some x:=by
  rw [atI_nn (by decide) (by rw [List.length_cons];omega)];rfl
theorem at1 {α:Type} {x y:α} {xs:List α}:atI (x::y::xs) 1=some y:=by
  rw [atI_nn (by decide) (by rw [List.length_cons,List.length_cons];omega)];rfl
theorem at2 {α:Type} {x y z:α} {xs:List α}:atI (x::y::z::xs) 2=some z:=by
  rw [atI_nn (by decide) (by rw [List.length_cons,List.length_cons,List.length_cons];omega)];rfl
theorem cDiv_ok {i j:Int} (h0:0 < j) (h1:j < 1073741824):cDiv i j=true:=by unfold cDiv;rw [decide_eq_true h0,decide_eq_true h1];rfl
theorem cMod_ok {i j:Int} (h0:0 < j):cMod i j=true:=by unfold cMod;rw [decide_eq_true h0]
theorem cMulR_ok {i j:Int} (h0:-(2 ^ 64) < j) (h1:j < 2 ^ 64):cMul i j=true:=by unfold cMul;rw [decide_eq_true h0,decide_eq_true h1];simp
theorem cMulL_ok {i j:Int} (h0:-(2 ^ 64) < i) (h1:i < 2 ^ 64):cMul i j=true:=by unfold cMul;rw [decide_eq_true h0,decide_eq_true h1];simp
theorem oMod_ii (h:0 < b):oMod (.int a) (.int b)=some (.sh (.int (a % b))):=if_pos (cMod_ok h)
theorem oDiv_ii (h:0 < b) (h':b < 1073741824):oDiv (.int a) (.int b)=some (.sh (.int (a / b))):=if_pos (cDiv_ok h h')
theorem oMulR_ii (h:-(2 ^ 64) < b) (h':b < 2 ^ 64):oMul (.int a) (.int b)=some (.sh (.int (a*b))):=if_pos (cMulR_ok h h')
theorem oMulL_ii (h:-(2 ^ 64) < a) (h':a < 2 ^ 64):oMul (.int a) (.int b)=some (.sh (.int (a*b))):=if_pos (cMulL_ok h h')
end
def stepS (o:Option (Out×WSt)) (P:WSt→Prop):Prop:=match o with
  | some (.nx,ω)=>P ω
  | some (.ct,ω)=>P ω
  | _=>False
theorem e_st_nx {ω:WSt} {P:WSt→Prop}:stepS (some (.nx,ω)) P=P ω:=rfl
theorem forD_inv {g:FG} {b:FS} (ds:List D) (I:List D→WSt→Prop)
    (turn:∀ pre d post ω,ds=pre++d::post→I pre ω→∃ w,g d ω=some w∧stepS (b w) (I (pre++[d])))
    {ω:WSt} (h0:I [] ω):∃ ω',forD g b ds ω=some (.nx,ω')∧I ds ω':=by
  have key:∀ (post pre:List D) (ω:WSt),ds=pre++post→I pre ω→∃ ω',forD g b post ω=some (.nx,ω')∧I ds ω':=by
    intro post
    induction post with
    | nil=>intro pre ω e h;exact ⟨ω,rfl,by rw [e,List.append_nil];exact h⟩
    | cons d post ih =>
      intro pre ω e h
      obtain ⟨w,h1,h2⟩:=turn pre d post ω e h
      rw [forD,h1,Option.bind_some]
      match hb:b w,h2 with
      | some (.nx,ω2),h2=>exact ih (pre++[d]) ω2 (by rw [e,List.append_assoc];rfl) h2
      | some (.ct,ω2),h2=>exact ih (pre++[d]) ω2 (by rw [e,List.append_assoc];rfl) h2
  exact key ds [] ω rfl h0
theorem forD_map {α:Type} {g:FG} {b:FS} (F:α→D) (xs:List α) (I:List α→WSt→Prop)
    (turn:∀ pre x post ω,xs=pre++x::post→I pre ω→∃ w,g (F x) ω=some w∧stepS (b w) (I (pre++[x])))
    {ω:WSt} (h0:I [] ω):∃ ω',forD g b (xs.map F) ω=some (.nx,ω')∧I xs ω':=by
  have key:∀ (post pre:List α) (ω:WSt),xs=pre++post→I pre ω→∃ ω',forD g b (post.map F) ω=some (.nx,ω')∧I xs ω':=by
    intro post
    induction post with
    | nil=>intro pre ω e h;exact ⟨ω,rfl,by rw [e,List.append_nil];exact h⟩
    | cons d post ih =>
      intro pre ω e h
      obtain ⟨w,h1,h2⟩:=turn pre d post ω e h
      rw [List.map_cons,forD,h1,Option.bind_some]
      match hb:b w,h2 with
      | some (.nx,ω2),h2=>exact ih (pre++[d]) ω2 (by rw [e,List.append_assoc];rfl) h2
      | some (.ct,ω2),h2=>exact ih (pre++[d]) ω2 (by rw [e,List.append_assoc];rfl) h2
  exact key xs [] ω rfl h0
theorem compD_rel {g:FG} {c:FT} {f:FD} (P:WSt→Prop) (q:D→Bool) (F:D→D):∀ (ds:List D) {ω:WSt},P ω →
    (∀ d∈ds,∀ ω,P ω→∃ w,g d ω=some w∧P w∧c w=some (q d)∧(q d=true→f w=some (F d)))→compD g c f ds ω=some ((ds.filter q).map F)
  | [],_,_,_=>rfl
  | d::ds,ω,h,t=>by
    obtain ⟨w,h1,h2,h3,h4⟩:=t d List.mem_cons_self ω h
    have ih:=compD_rel P q F ds h2 (fun e he=>t e (List.mem_cons_of_mem _ he))
    rw [compD,h1,Option.bind_some,h3,Option.bind_some]
    cases hq:q d with
    | true=>rw [if_pos rfl,h4 hq,Option.bind_some,ih,List.filter_cons_of_pos hq];rfl
    | false=>rw [if_neg (by decide),ih,List.filter_cons_of_neg (by rw [hq];decide)]
theorem compD_map {i:Nat} {f:FD} (F:D→D) (ds:List D) {ω:WSt} (h:∀ d∈ds,f (ω.set i (some (.sh d)))=some (F d)):compD (gN i) tTrue f ds ω=some (ds.map F):=by
  have:=compD_rel (g:=gN i) (c:=tTrue) (f:=f) (fun w=>∀ x,w.set i x=ω.set i x) (fun _=>true) F ds (ω:=ω) (fun x=>rfl) fun d hd w hw =>
    ⟨w.set i (some (.sh d)),rfl,fun x=>by rw [List.set_set,hw],rfl,fun _=>by rw [hw];exact h d hd⟩
  rw [this,List.filter_eq_self.mpr (fun _ _=>rfl)]
theorem compD_fil {i:Nat} {c:FT} {f:FD} (q:D→Bool) (F:D→D) (ds:List D) {ω:WSt} (h:∀ d∈ds,c (ω.set i (some (.sh d)))=some (q d)∧(q d=true→f (ω.set i (some (.sh d)))=some (F d))):compD (gN i) c f ds ω=some ((ds.filter q).map F) :=
  compD_rel (g:=gN i) (c:=c) (f:=f) (fun w=>∀ x,w.set i x=ω.set i x) q F ds (ω:=ω) (fun x=>rfl) fun d hd w hw =>
    ⟨w.set i (some (.sh d)),rfl,fun x=>by rw [List.set_set,hw],by rw [hw];exact (h d hd).1,fun z=>by rw [hw];exact (h d hd).2 z⟩
theorem upTo_mem {lo:Int} {n:Nat} {d:D} (h:d∈upTo lo n):∃ i:Nat,i < n∧d=.int (lo+i):=by
  unfold upTo at h
  obtain ⟨i,h1,h2⟩:=List.mem_map.mp h
  exact ⟨i,List.mem_range.mp h1,h2.symm⟩
theorem upTo_len {lo:Int} {n:Nat}:(upTo lo n).length=n:=by unfold upTo;rw [List.length_map,List.length_range]
noncomputable def onI (F:Int→Int):D→D
  | .int k=>.int (F k)
  | d=>d
theorem upTo_map {lo:Int} {n:Nat} (F:Int→Int):(Hk.upTo lo n).map (onI F)=((List.range n).map fun (i:Nat)=>F (lo+(i:Int))).map D.int:=by
  unfold upTo;rw [List.map_map,List.map_map];rfl
theorem oSl_l {ds:List D} {lo hi:Option Int}:oSl (.lst ds) lo hi=some (.fr (cutD ds lo hi)):=rfl
theorem oSl_s {ns:List Int} {lo hi:Option Int}:oSl (.scr ns) lo hi=some (.fr ((cutD ns lo hi).map D.int)):=rfl
theorem oAdd_ll {xs ys:List D} (h:xs.length+ys.length≤1000000):oAdd (.lst xs) (.lst ys)=some (.fr (xs++ys)):=if_pos h
theorem eqD_refl {d:D} (h:shp d=true):eqD d d=true:=SeqAt.eqv_refl d.py (SeqAt.canLay_of_shaped h)
theorem oEq_self {d:D} (h:shp d=true):oEq false d d=some (.sh (.bl true)):=by
  unfold oEq;rw [h];show some (R.sh (D.bl (eqD d d)))=_;rw [eqD_refl h]
theorem shp_lst {ds:List D} (n:Nat) (hn:n < 64) (h:∀ d∈ds,d.py.canLay0=true∧d.py.depth≤n):shp (.lst ds)=true:=by
  unfold shp SeqAt.shaped
  have:∀ ds:List D,(∀ d∈ds,d.py.canLay0=true∧d.py.depth≤n)→PyData.canLayAll0 (D.pys ds)=true∧PyData.depthAll (D.pys ds)≤n:=by
    intro ds
    induction ds with
    | nil=>intro _;exact ⟨rfl,Nat.zero_le _⟩
    | cons d ds ih =>
      intro h
      obtain ⟨a,b⟩:=ih fun e he=>h e (List.mem_cons_of_mem _ he)
      obtain ⟨a',b'⟩:=h d List.mem_cons_self
      refine ⟨?_,?_⟩
      · rw [D.pys,PyData.canLayAll0,a,a'];rfl
      · rw [D.pys,PyData.depthAll];exact Nat.max_le.mpr ⟨b',b⟩
  obtain ⟨a,b⟩:=this ds h
  show (PyData.canLayAll0 (D.pys ds) && decide (PyData.depthAll (D.pys ds)+1≤64))=true
  rw [a,decide_eq_true (by omega)];rfl
end Hk
set_option maxRecDepth 100000
namespace Hk
open PySem L2
noncomputable def insU (x:Int):List Int→List Int
  | []=>[x]
  | y::r=>if x < y then x::y::r else if x=y then y::r else y::insU x r
noncomputable def sortU (ns:List Int):List Int:=ns.foldr insU []
set_option tactic.hygienic true in
theorem mem_insU {x y:Int}:∀ {l:List Int},y∈insU x l↔y=x∨y∈l
  | []=>by simp [insU]
  | z::r=>by
    unfold insU
    split
    · simp
    · split
      · rename_i h;subst h;simp
      · simp only [List.mem_cons,mem_insU (l:=r)]
        constructor
        · rintro (h|h|h) <;> simp [h]
        · rintro (h|h|h) <;> simp [h]
set_option tactic.hygienic true in
theorem rise_insU {x:Int}:∀ {l:List Int},l.Pairwise (· < ·)→(insU x l).Pairwise (· < ·)
  | [],_=>by simp [insU]
  | z::r,h=>by
    obtain ⟨h1,h2⟩:=List.pairwise_cons.mp h
    unfold insU
    split
    · rename_i hx
      refine List.pairwise_cons.mpr ⟨fun y hy=>?_,h⟩
      rcases List.mem_cons.mp hy with rfl|hy
      · exact hx
      · exact Int.lt_trans hx (h1 y hy)
    · split
      · exact h
      · refine List.pairwise_cons.mpr ⟨fun y hy=>?_,rise_insU h2⟩
        rcases mem_insU.mp hy with rfl|hy
        · omega
        · exact h1 y hy
theorem mem_sortU {y:Int}:∀ {ns:List Int},y∈sortU ns↔y∈ns
  | []=>by simp [sortU]
  | x::r=>by
    show y∈insU x (sortU r)↔_
    rw [mem_insU,mem_sortU (ns:=r),List.mem_cons]
theorem rise_sortU:∀ {ns:List Int},(sortU ns).Pairwise (· < ·)
  | []=>List.Pairwise.nil
  | x::r=>rise_insU (rise_sortU (ns:=r))
theorem insU_len {x:Int}:∀ (l:List Int),(insU x l).length≤l.length+1
  | []=>by simp [insU]
  | z::r=>by
    have:=insU_len (x:=x) r
    unfold insU
    split
    · simp
    · split
      · simp
      · rw [List.length_cons,List.length_cons];omega
theorem sortU_len:∀ (l:List Int),(sortU l).length≤l.length
  | []=>Nat.le_refl _
  | x::r=>by
    have h1:=insU_len (x:=x) (sortU r)
    have h2:=sortU_len r
    show (insU x (sortU r)).length≤_
    rw [List.length_cons];omega
theorem rise_eq:∀ {l m:List Int},l.Pairwise (· < ·)→m.Pairwise (· < ·)→(∀ x,x∈l↔x∈m)→l=m
  | [],[],_,_,_=>rfl
  | [],y::r,_,_,h=>absurd ((h y).mpr List.mem_cons_self) (by simp)
  | x::r,[],_,_,h=>absurd ((h x).mp List.mem_cons_self) (by simp)
  | x::r,y::q,hl,hm,h=>by
    obtain ⟨a1,a2⟩:=List.pairwise_cons.mp hl
    obtain ⟨b1,b2⟩:=List.pairwise_cons.mp hm
    have e:x=y:=by
      rcases List.mem_cons.mp ((h x).mp List.mem_cons_self) with e|e
      · exact e
      · rcases List.mem_cons.mp ((h y).mpr List.mem_cons_self) with f|f
        · exact f.symm
        · have:=b1 x e;have:=a1 y f;omega
    subst e
    rw [rise_eq a2 b2 fun z=>?_]
    constructor
    · intro hz
      rcases List.mem_cons.mp ((h z).mp (List.mem_cons_of_mem _ hz)) with f|f
      · have:=a1 z hz;omega
      · exact f
    · intro hz
      rcases List.mem_cons.mp ((h z).mpr (List.mem_cons_of_mem _ hz)) with f|f
      · have:=b1 z hz;omega
      · exact f
theorem le_nodup_lt {l:List Int} (h:l.Pairwise (·≤·)) (n:l.Nodup):l.Pairwise (· < ·):=by
  induction l with
  | nil=>exact List.Pairwise.nil
  | cons x r ih =>
    obtain ⟨h1,h2⟩:=List.pairwise_cons.mp h
    obtain ⟨n1,n2⟩:=List.nodup_cons.mp n
    refine List.pairwise_cons.mpr ⟨fun y hy=>?_,ih h2 n2⟩
    have:=h1 y hy
    have:x≠y:=fun e=>n1 (e▸hy)
    omega
def setP (w:World) (S:Addr) (ns:List Int):Heap→Prop:=fun h=>SetV h S (ledOf w) (fun i=>ns.getD i 0) ns.length
def rSet (w:World):List V→Hp→VK→Prop:=fun xs H Q=>∃ p ns,xs=[.ref p]∧H p=some (.lst (ns.map V.int))∧ns.length+1 < 4096∧∀ S,H S=none→Q (.ref S) (upd H S (.ext (setP w S ns)))
def rSortS (w:World):List V→Hp→VK→Prop:=fun xs H Q=>∃ S ns,xs=[.ref S]∧H S=some (.ext (setP w S ns))∧ns.length < 64∧∀ l,H l=none→Q (.ref l) (upd H l (.lst ((sortU ns).map V.int)))
section
variable {X:Cx}
theorem inv_drawn {pins:List (Addr×Obj)} {σ:St} {H:Hp} {s:Shared} (I:L2.Inv X pins σ H s) (d:Drawn):L2.Inv X pins σ H { s with drawn:=d } :=
  ⟨I.ok,I.os,I.bare,I.base,I.loc,I.cell,I.free,I.freeC,I.pin,I.hok,I.len⟩
theorem call_set (hc:X.calm=true):CallR X (.type "set") (rSet X.w):=by
  intro pins s σ H xs us Q I r h
  obtain ⟨p,ns,rfl,hp,hz,q⟩:=h
  obtain ⟨u,rfl,rx⟩:=vals1 r
  cases rx
  obtain ⟨its,n,rv,e,_⟩:=I.lst hp
  have ia:=intsAre_of rv
  have hlen:its.length=ns.length:=by rw [←rv.length,List.length_map]
  refine set_of_list (items:=its.toArray) (ns:=ns) (I.ok.hd hc) ⟨_,e,rfl,n,rfl⟩ (by simpa using ia) (by rw [List.size_toArray,hlen];exact hz) fun h' tk sv kp=>?_
  have hsz:its.toArray.size=ns.length:=by rw [List.size_toArray,hlen]
  rw [hsz] at sv
  refine ⟨.ref s.heap.objs.size,_,I.laid (t':=tk) (fun b o e=>kp b o (Heap.lt_size e) e) (Nat.le_refl _) (show ObjOk X.prog X.w _ h' _ (.ext (setP X.w s.heap.objs.size ns)) from ⟨sv,?_,fun h1 h2 a1 a2=>a1.at a2⟩),rfl,q _ (I.hok.fresh (Nat.le_refl _))⟩
  obtain ⟨_,⟨o,_,_,_,e,_⟩,_⟩:=sv
  exact ⟨o,e⟩
theorem call_sortS (hc:X.calm=true):CallR X (.builtin "sorted") (rSortS X.w):=by
  intro pins s σ H xs us Q I r h
  obtain ⟨S,ns,rfl,hp,hz,q⟩:=h
  obtain ⟨u,rfl,rx⟩:=vals1 r
  cases rx
  obtain ⟨⟨zs,SI,hl,hm⟩,_⟩:=I.hok S _ hp
  refine sorted_set (I.ok.hd hc) SI (by omega) fun D h' tk d vs ys n kp hD hg ia pm pw=>?_
  obtain ⟨o,es,ep,t,go,gx,gd,T,gl,gb,gg,gv,gn⟩:=id SI
  have ey:ys=sortU ns:=by
    refine rise_eq (le_nodup_lt pw (pm.nodup_iff.mpr gn)) rise_sortU fun x=>?_
    rw [pm.mem_iff,hm,mem_sortU]
    constructor
    · rintro ⟨i,hi,rfl⟩
      dsimp only
      rw [List.getD_eq_getElem?_getD,List.getElem?_eq_getElem hi]
      exact List.getElem_mem hi
    · intro hx
      obtain ⟨i,hi,e⟩:=List.mem_iff_getElem.mp hx
      exact ⟨i,hi,by dsimp only;rw [List.getD_eq_getElem?_getD,List.getElem?_eq_getElem hi];exact e⟩
  subst ey
  have hvl:vs.length=(sortU ns).length:=PyProof.Rows.IntsAre.length ia
  have hsl:(sortU ns).length≤sizeLine:=by
    have:=pm.length_eq
    exact Nat.le_trans (show (sortU ns).length≤64 by omega) (by decide)
  have I2:=inv_drawn (I.laid (a:=D) (o:=.lst ((sortU ns).map V.int)) (t':=tk) kp hD (show ObjOk X.prog X.w _ h' _ (.lst _) from ⟨by rw [List.length_map];exact hsl,vs,n,vals_ints ia,hg⟩)) d
  exact ⟨.ref D,_,I2,rfl,q _ (I.hok.fresh hD)⟩
noncomputable def intsOf:List D→Option (List Int)
  | []=>some []
  | .int i::r=>(intsOf r).map fun l=>i::l
  | _=>none
theorem intsOf_of:∀ {ds:List D} {ns:List Int},intsOf ds=some ns→ds=ns.map D.int
  | [],_,e=>by cases e;rfl
  | .int c::r,b,e=>by
    obtain ⟨k,q,e⟩:=mpd e
    subst e
    rw [intsOf_of q];rfl
  | .non::_,_,e=>by cases e
  | .bl _::_,_,e=>by cases e
  | .str _::_,_,e=>by cases e
  | .lst _::_,_,e=>by cases e
  | .tup _::_,_,e=>by cases e
  | .scr _::_,_,e=>by cases e
  | .exc _::_,_,e=>by cases e
  | .dic _ _::_,_,e=>by cases e
theorem intsOf_map:∀ (ns:List Int),intsOf (ns.map D.int)=some ns
  | []=>rfl
  | n::r=>by show (intsOf (r.map D.int)).map _=_;rw [intsOf_map r];rfl
noncomputable def oSortSet:D→Option R
  | .lst ds=>(intsOf ds).bind fun ns=>if ns.length < 64 then some (.fr ((sortU ns).map D.int)) else none
  | _=>none
noncomputable def fSortSet (f:FD):FE:=fun ω=>(f ω).bind oSortSet
theorem xe_sortset {a:Expr} {f:FD} {p1 p2 q1 q2:Pos} (hg1:Gl X "sorted") (hm1:X.mg "sorted" = none) (hg2:Gl X "set") (hm2:X.mg "set" = none) (ha:XV X a f) (hc:X.calm=true:=by rfl)
    (he1:starEach [a] X.env=(false,eval a X.env)::starEach [] X.env:=by rfl) (hpl1:(backTo q2 (starEach [] X.env)).any (·.1)=false:=by rfl)
    (he2:starEach [.Call (.Name "set" p2) [a] [] q2] X.env=(false,eval (.Call (.Name "set" p2) [a] [] q2) X.env)::starEach [] X.env:=by rfl) (hpl2:(backTo q1 (starEach [] X.env)).any (·.1)=false:=by rfl) :
    XE X (.Call (.Name "sorted" p1) [.Call (.Name "set" p2) [a] [] q2] [] q1) (fSortSet f):=by
  obtain ⟨t,h1,h2⟩:=ha
  refine ⟨_,pe_callB (call_sortS hc) hg1 hm1 bt_sorted (pa_cons (pe_callTy (call_set hc) hg2 hm2 bt_set (pa_cons h1 pa_nil he1) (by decide) (by decide) he1 hpl1) pa_nil he2) (by decide) (by decide) he2 hpl2,fun G0 H0 G ω σ H r Q o e k=>?_⟩
  obtain ⟨d,q,e⟩:=bnd e
  refine h2 G0 H0 G ω σ H d _ o q fun v G1 H1 x1 y1=>?_
  cases d with
  | lst ds =>
    obtain ⟨ns,e1,e2⟩:=bnd (show (intsOf ds).bind _=some r from e)
    have hds:=intsOf_of e1
    subst hds
    by_cases hz:ns.length < 64
    · rw [if_pos hz] at e2
      cases e2
      obtain ⟨p,vs,rfl,g1,g2⟩:=y1.lst x1.gh
      have hv:=g2.of_ints
      subst hv
      refine ⟨p,ns,rfl,g1,by omega,fun S hS=>?_⟩
      refine ⟨S,ns,rfl,upd_same,hz,fun l hl=>?_⟩
      have x2:=Ext.hide x1.gh hS (.ext (setP X.w S ns))
      have x3:=Ext.hide x2.gh hl (.lst ((sortU ns).map V.int))
      exact k _ G1 _ ((x1.trans x2).trans x3) ⟨l,_,rfl,(x1.trans x2).hh.free hl,x2.gh.free hl,upd_same,Reps.ints _⟩
    · rw [if_neg hz] at e2;cases e2
  | _=>cases e
end
end Hk
set_option maxRecDepth 100000
namespace PySem.F
theorem noLenZip:typeLookup (.type "zip") "__len__" = pure none:=by rw [typeLookup_type,builtinLookup_eq_fast];kernel_rfl
theorem noHintZip:typeLookup (.type "zip") "__length_hint__" = pure none:=by rw [typeLookup_type,builtinLookup_eq_fast];kernel_rfl
end PySem.F
namespace Hk
open PySem PySem.Spec PyProof.Rows
section
variable {prog:Program} {w:World} {A:Around} {E:Value→Shared→Prop} {s:Shared}
abbrev ZipAt (h:Heap) (z TI TO:Addr) (f0 f1:Value):Prop:=h.get? z=some { cls:=.type "zip", dict:=none,data:=.fields #[f0,f1,.bool false,.ref TI,.ref TO],slots:=#[] }
theorem alive_is {a:Addr} {Q:Option Obj→Shared→Prop} (h:Q (s.heap.get? a) s):wpAny (model prog w) A (loadIfAlive a) Q E s:=fun _ _ _=>h
theorem free_no {z TI TO t:Addr} {ot:Obj} {f1:Value} {Q:Bool→Shared→Prop} (hz:ZipAt s.heap z TI TO (rawInt t) f1) (ht:s.heap.get? t=some ot)
    (k:∀ h' f1',ZipAt h' z TI TO (rawInt t) f1'→Heap.SameBut z s.heap h'→Q false { s with heap:=h' }):wpAny (model prog w) A (Builtin.SmallTypes.ownedTupleIsFree (.ref z)) Q E s:=by
  unfold Builtin.SmallTypes.ownedTupleIsFree
  refine wpAny_bind (wpAny_field hz rfl (x:=rawInt t) rfl ?_)
  show wpAny _ _ (loadIfAlive ((t:Int)).toNat >>= _) _ _ _
  rw [Int.toNat_natCast]
  refine wpAny_bind (alive_is ?_)
  rw [ht]
  show wpAny _ _ (field (.ref z) 1 >>= _) _ _ _
  refine wpAny_bind (wpAny_field hz rfl (x:=f1) rfl ?_)
  refine wpAny_ite_split (fun _=>?_) (fun _=>?_)
  · refine wpAny_bind (wpAny_setField_rec hz (by simp) fun h1 e1 sb=>wpAny_pure (k h1 (.bool true) e1 sb))
  · exact wpAny_pure (k s.heap f1 hz (Heap.SameBut.refl z s.heap))
theorem zip_item2 {z TI TO i1 i2 l1 l2 t:Addr} {ot:Obj} {f1:Value} {k1 k2:Nat} {xs ys:Array Value} {x y:Value} {Q:Option Value→Shared→Prop} (D:ZipApart z TI TO i1 i2 l1 l2)
    (hz:ZipAt s.heap z TI TO (rawInt t) f1) (ht:s.heap.get? t=some ot) (hTI:IsPair s.heap TI (.ref i1) (.ref i2))
    (h1:s.heap.IsListIter i1 l1 k1) (h2:s.heap.IsListIter i2 l2 k2) (hl1:s.heap.IsList l1 xs) (hl2:s.heap.IsList l2 ys) (hx:xs[k1]?=some x) (hy:ys[k2]?=some y)
    (hQ:∀ h' f1',ZipAt h' z TI TO (rawInt t) f1'→h'.IsListIter i1 l1 (k1+1)→h'.IsListIter i2 l2 (k2+1)→IsPair h' s.heap.objs.size x y →
      (∀ c o,c≠z→c≠i1→c≠i2→s.heap.get? c=some o→h'.get? c=some o)→Q (some (.ref s.heap.objs.size)) { s with heap:=h' }) :
    wpAny (model prog w) A (pyNext (.ref z)) Q E s:=by
  have hT:s.TypeIs (.ref z) "zip" := ⟨_,hz,rfl⟩
  unfold pyNext
  refine wpAny_bind (wpAny_attempt (wpAny_callSpecial?_slot (name:=Str.ofString "__next__") hT PySem.F.slot_zip_next (wpAny_call_entry PySem.F.slot_zip_next hT PySem.F.entry_zip_next ?_ (PySem.F.args_zip_next_1 _))))
  show wpAny _ _ (field (.ref z) 2 >>= _) _ _ _
  refine wpAny_bind (wpAny_field hz rfl (x:=.bool false) rfl ?_)
  show wpAny _ _ (field (.ref z) 3 >>= _) _ _ _
  refine wpAny_bind (wpAny_field hz rfl (x:=.ref TI) rfl ?_)
  refine wpAny_bind (wpAny_seqItems hTI rfl ?_)
  show wpAny _ _ (Builtin.SmallTypes.ownedTupleIsFree (.ref z) >>= _) _ _ _
  refine wpAny_bind (free_no hz ht fun h' f1' hz1 sb1=>?_)
  simp only [Bool.false_eq_true,if_false]
  have a1:=h1.extBut sb1.extBut D.i1z
  have a2:=h2.extBut sb1.extBut D.i2z
  have b1:=hl1.extBut sb1.extBut D.l1z
  have b2:=hl2.extBut sb1.extBut D.l2z
  rw [←Array.forIn_toList]
  simp only [List.forIn_cons,List.forIn_nil]
  refine wpAny_bind (wpAny_bind (wpAny_bind (wpAny_holding ?_)))
  show wpAny _ _ (Builtin.SmallTypes.nextOf (.ref i1) >>= _) _ _ _
  refine wpAny_bind (wpAny_nextOf_list_item a1 b1 hx fun h₂ c1 sb2=>wpAny_pure ?_)
  refine wpAny_pure ?_
  refine wpAny_bind (wpAny_bind (wpAny_holding ?_))
  show wpAny _ _ (Builtin.SmallTypes.nextOf (.ref i2) >>= _) _ _ _
  refine wpAny_bind (wpAny_nextOf_list_item (a2.extBut sb2.extBut D.i12.symm) (b2.extBut sb2.extBut D.l2i1) hy fun h₃ c2 sb3=>wpAny_pure ?_)
  refine wpAny_pure (wpAny_pure ?_)
  show wpAny _ _ (newTuple [x,y] >>= _) _ _ _
  refine wpAny_bind (wpAny_newTuple ?_)
  have hsz:h₃.objs.size=s.heap.objs.size:=by rw [sb3.1,sb2.1,sb1.1]
  refine wpAny_pure ⟨_,rfl,wpAny_pure ?_⟩
  dsimp only
  rw [hsz]
  refine hQ _ f1' ?_ ?_ ?_ ?_ ?_
  · exact Heap.get?_push_of_some _ (sb3.extBut _ _ D.i2z.symm (sb2.extBut _ _ D.i1z.symm hz1))
  · exact (c1.extBut sb3.extBut D.i12).at fun o e=>Heap.get?_push_of_some _ e
  · exact c2.at fun o e=>Heap.get?_push_of_some _ e
  · have:=Heap.get?_push_size h₃ (o:={ cls:=.type "tuple", data:=.seq [x,y].toArray }) rfl
    rw [hsz] at this
    exact this
  · exact fun c o n1 n2 n3 e=>Heap.get?_push_of_some _ (sb3.extBut _ _ n3 (sb2.extBut _ _ n2 (sb1.extBut _ _ n1 e)))
theorem zip_end2 {z TI TO i1 i2 l1 l2 t:Addr} {ot:Obj} {f1:Value} {k1 k2:Nat} {xs ys:Array Value} {Q:Option Value→Shared→Prop} (hh:A.handled=none) (D:ZipApart z TI TO i1 i2 l1 l2)
    (hz:ZipAt s.heap z TI TO (rawInt t) f1) (ht:s.heap.get? t=some ot) (hTI:IsPair s.heap TI (.ref i1) (.ref i2))
    (h1:s.heap.IsListIter i1 l1 k1) (h2:s.heap.IsListIter i2 l2 k2) (hl1:s.heap.IsList l1 xs) (hl2:s.heap.IsList l2 ys) (hend:xs[k1]?=none∨ys[k2]?=none)
    (hQ:∀ h',(∀ c o,c≠z→c≠i1→c≠i2→s.heap.get? c=some o→h'.get? c=some o)→Q none { s with heap:=h' }) :
    wpAny (model prog w) A (pyNext (.ref z)) Q E s:=by
  have hT:s.TypeIs (.ref z) "zip" := ⟨_,hz,rfl⟩
  unfold pyNext
  refine wpAny_bind (wpAny_attempt (wpAny_callSpecial?_slot (name:=Str.ofString "__next__") hT PySem.F.slot_zip_next (wpAny_call_entry PySem.F.slot_zip_next hT PySem.F.entry_zip_next ?_ (PySem.F.args_zip_next_1 _))))
  show wpAny _ _ (field (.ref z) 2 >>= _) _ _ _
  refine wpAny_bind (wpAny_field hz rfl (x:=.bool false) rfl ?_)
  show wpAny _ _ (field (.ref z) 3 >>= _) _ _ _
  refine wpAny_bind (wpAny_field hz rfl (x:=.ref TI) rfl ?_)
  refine wpAny_bind (wpAny_seqItems hTI rfl ?_)
  show wpAny _ _ (Builtin.SmallTypes.ownedTupleIsFree (.ref z) >>= _) _ _ _
  refine wpAny_bind (free_no hz ht fun h' f1' hz1 sb1=>?_)
  simp only [Bool.false_eq_true,if_false]
  have a1:=h1.extBut sb1.extBut D.i1z
  have a2:=h2.extBut sb1.extBut D.i2z
  have b1:=hl1.extBut sb1.extBut D.l1z
  have b2:=hl2.extBut sb1.extBut D.l2z
  rw [←Array.forIn_toList]
  simp only [List.forIn_cons,List.forIn_nil]
  refine wpAny_bind (wpAny_bind (wpAny_bind (wpAny_holding ?_)))
  show wpAny _ _ (Builtin.SmallTypes.nextOf (.ref i1) >>= _) _ _ _
  cases hx:xs[k1]? with
  | none =>
    refine wpAny_bind (wpAny_nextOf_list_end hh a1 b1 hx fun h₂ e sb2 he=>?_)
    obtain ⟨o,ho,hc⟩:=he
    refine wpAny_bind (wpAny_isInstance (T := "StopIteration") (b:=true) ⟨o,ho,hc⟩ isSubtype_stop ?_)
    exact wpAny_pure (hQ _ fun c o n1 n2 n3 e=>sb2 _ _ n2 (sb1.extBut _ _ n1 e))
  | some x =>
    have hy:ys[k2]?=none:=by rcases hend with h|h;rw [hx] at h;cases h;exact h
    refine wpAny_bind (wpAny_nextOf_list_item a1 b1 hx fun h₂ c1 sb2=>wpAny_pure ?_)
    refine wpAny_pure ?_
    refine wpAny_bind (wpAny_bind (wpAny_holding ?_))
    show wpAny _ _ (Builtin.SmallTypes.nextOf (.ref i2) >>= _) _ _ _
    refine wpAny_bind (wpAny_nextOf_list_end hh (a2.extBut sb2.extBut D.i12.symm) (b2.extBut sb2.extBut D.l2i1) hy fun h₃ e sb3 he=>?_)
    obtain ⟨o,ho,hc⟩:=he
    refine wpAny_bind (wpAny_isInstance (T := "StopIteration") (b:=true) ⟨o,ho,hc⟩ isSubtype_stop ?_)
    exact wpAny_pure (hQ _ fun c o n1 n2 n3 e=>sb3 _ _ n3 (sb2.extBut _ _ n2 (sb1.extBut _ _ n1 e)))
structure ZSt (h0:Heap) (S z TI TO i1 i2 l1 l2:Addr) (xs ys:Array Value) (ts:List Addr) (h:Heap):Prop where
  zip:(ts=[]∧ZipAt h z TI TO .none (.bool false))∨∃ t f1,t∈ts∧ZipAt h z TI TO (rawInt t) f1
  pTI:IsPair h TI (.ref i1) (.ref i2)
  pTO:∃ a b,IsPair h TO a b
  it1:h.IsListIter i1 l1 ts.length
  it2:h.IsListIter i2 l2 ts.length
  hl1:h.IsList l1 xs
  hl2:h.IsList l2 ys
  tups:∀ (j:Nat) t,ts[j]?=some t→∃ x y,xs[j]?=some x∧ys[j]?=some y∧IsPair h t x y
  old:∀ t∈ts,t≠S∧t≠z∧t≠TO∧t≠i1∧t≠i2
  nd:ts.Nodup
  new:∀ t∈ts,h0.objs.size≤t
  keep:∀ b o,b≠S→h0.get? b=some o→h.get? b=some o
theorem zst_item {h0:Heap} {S z TI TO i1 i2 l1 l2:Addr} {xs ys:Array Value} {ts:List Addr} {Q:Option Value→Shared→Prop} (D:ZipApart z TI TO i1 i2 l1 l2) (hf:∀ b∈[z,TO,i1,i2],h0.get? b=none) (hS:S∉[z,TI,TO,i1,i2,l1,l2]) (Z:ZSt h0 S z TI TO i1 i2 l1 l2 xs ys ts s.heap) (hSo:∃ o,s.heap.get? S=some o) (hsz:h0.objs.size≤s.heap.objs.size)
    (hlt:ts.length < min xs.size ys.size)
    (k:∀ h' t,ZSt h0 S z TI TO i1 i2 l1 l2 xs ys (ts++[t]) h'→(∀ o,s.heap.get? S=some o→h'.get? S=some o)→s.heap.objs.size≤h'.objs.size→Q (some (.ref t)) { s with heap:=h' }) :
    wpAny (model prog w) A (pyNext (.ref z)) Q E s:=by
  have hix:ts.length < xs.size:=Nat.lt_of_lt_of_le hlt (Nat.min_le_left ..)
  have hiy:ts.length < ys.size:=Nat.lt_of_lt_of_le hlt (Nat.min_le_right ..)
  obtain ⟨a,b,hTO⟩:=Z.pTO
  obtain ⟨oS,hoS⟩:=hSo
  have gx:=Array.getElem?_eq_getElem hix
  have gy:=Array.getElem?_eq_getElem hiy
  simp only [List.mem_cons,List.not_mem_nil,or_false,not_or] at hS
  have nz:∀ b o,h0.get? b=some o→b≠z∧b≠TO∧b≠i1∧b≠i2:=fun b o e =>
    ⟨fun q=>(by have:=hf z (by simp);rw [q,this] at e;cases e),fun q=>(by have:=hf TO (by simp);rw [q,this] at e;cases e),fun q=>(by have:=hf i1 (by simp);rw [q,this] at e;cases e),fun q=>(by have:=hf i2 (by simp);rw [q,this] at e;cases e)⟩
  have fin:∀ (h':Heap) (f1:Value) (u:Addr),u∈ts++[s.heap.objs.size]→ZipAt h' z TI TO (rawInt u) f1→(∃ a b,IsPair h' TO a b)→h'.IsListIter i1 l1 (ts.length+1)→h'.IsListIter i2 l2 (ts.length+1)→IsPair h' s.heap.objs.size xs[ts.length] ys[ts.length] →
      (∀ c o,c≠z→c≠TO→c≠i1→c≠i2→s.heap.get? c=some o→h'.get? c=some o)→Q (some (.ref s.heap.objs.size)) { s with heap:=h' }:=fun h' f1 u hu g1 g2 g3 g4 g5 g6=>by
    refine k h' _ ⟨.inr ⟨u,f1,hu,g1⟩,g6 _ _ D.TIz D.TITO D.TIi1 D.TIi2 Z.pTI,g2,by rw [List.length_append];exact g3,by rw [List.length_append];exact g4,Z.hl1.at fun o e=>g6 _ o D.l1z D.l1TO D.l1i1 D.l1i2 e,Z.hl2.at fun o e=>g6 _ o D.l2z D.l2TO D.l2i1 D.l2i2 e,fun j t ht=>?_,fun t ht=>?_,?_,fun t ht=>?_,fun b o hb e=>?_⟩ (fun o e=>?_) (Nat.le_of_lt (Heap.lt_size g5))
    · rcases Nat.lt_or_ge j ts.length with y|y
      · rw [List.getElem?_append_left y] at ht
        obtain ⟨p,q,r1,r2,r3⟩:=Z.tups j t ht
        have ho:=Z.old t (List.mem_of_getElem? ht)
        exact ⟨p,q,r1,r2,g6 _ _ ho.2.1 ho.2.2.1 ho.2.2.2.1 ho.2.2.2.2 r3⟩
      · rw [List.getElem?_append_right y] at ht
        have hj:j=ts.length:=by
          rcases Nat.lt_or_ge (j - ts.length) 1 with c|c
          · omega
          · rw [List.getElem?_eq_none (by simpa using c)] at ht;cases ht
        subst hj
        rw [Nat.sub_self] at ht
        cases ht
        exact ⟨_,_,gx,gy,g5⟩
    · rcases List.mem_append.mp ht with ht|ht
      · exact Z.old t ht
      · rw [List.mem_singleton.mp ht]
        have lt:∀ {c o},s.heap.get? c=some o→s.heap.objs.size≠c:=fun e=>Nat.ne_of_gt (Heap.lt_size e)
        refine ⟨lt hoS,?_,lt hTO,?_,?_⟩
        · rcases Z.zip with ⟨_,e⟩|⟨_,_,_,e⟩ <;> exact lt e
        · obtain ⟨_,e,_⟩:=Z.it1;exact lt e
        · obtain ⟨_,e,_⟩:=Z.it2;exact lt e
    · refine List.nodup_append.mpr ⟨Z.nd,by simp,fun a ha b hb=>?_⟩
      rw [List.mem_singleton.mp hb]
      intro e
      obtain ⟨j,hj,ej⟩:=List.mem_iff_getElem.mp ha
      obtain ⟨_,_,_,_,et⟩:=Z.tups j a (by rw [List.getElem?_eq_getElem hj,ej])
      exact absurd (Heap.lt_size et) (by rw [e];exact Nat.lt_irrefl _)
    · rcases List.mem_append.mp ht with ht|ht
      · exact Z.new t ht
      · rw [List.mem_singleton.mp ht];exact hsz
    · obtain ⟨n1,n2,n3,n4⟩:=nz b o e
      exact g6 b o n1 n2 n3 n4 (Z.keep b o hb e)
    · exact g6 S o hS.1 hS.2.2.1 hS.2.2.2.1 hS.2.2.2.2.1 e
  rcases Z.zip with ⟨_,hz⟩|⟨t,f1,ht,hz⟩
  · exact wpAny_pyNext_zip_item D hz Z.pTI hTO Z.it1 Z.it2 Z.hl1 Z.hl2 gx gy fun h' a1 a2 a3 a4 a5 a6 a7=>fin h' _ _ (by simp) a1 ⟨_,_,a2⟩ a3 a4 a5 a7
  · obtain ⟨j,hj,ej⟩:=List.mem_iff_getElem.mp ht
    obtain ⟨_,_,_,_,et⟩:=Z.tups j t (by rw [List.getElem?_eq_getElem hj,ej])
    refine zip_item2 D hz et Z.pTI Z.it1 Z.it2 Z.hl1 Z.hl2 gx gy fun h' f1' a1 a3 a4 a5 a7=>fin h' f1' t (List.mem_append_left _ ht) a1 ⟨a,b,?_⟩ a3 a4 a5 fun c o n1 _ n3 n4 e=>a7 c o n1 n3 n4 e
    exact a7 _ _ D.TOz D.TOi1 D.TOi2 hTO
theorem zst_end {h0:Heap} {S z TI TO i1 i2 l1 l2:Addr} {xs ys:Array Value} {ts:List Addr} {Q:Option Value→Shared→Prop} (hh:A.handled=none) (D:ZipApart z TI TO i1 i2 l1 l2) (Z:ZSt h0 S z TI TO i1 i2 l1 l2 xs ys ts s.heap)
    (hlt:ts.length=min xs.size ys.size)
    (k:∀ h',(∀ c o,c≠z→c≠TO→c≠i1→c≠i2→s.heap.get? c=some o→h'.get? c=some o)→Q none { s with heap:=h' }) :
    wpAny (model prog w) A (pyNext (.ref z)) Q E s:=by
  obtain ⟨a,b,hTO⟩:=Z.pTO
  have hend:xs[ts.length]?=none∨ys[ts.length]?=none:=by
    rcases Nat.le_total xs.size ys.size with h|h
    · left;exact Array.getElem?_eq_none (by omega)
    · right;exact Array.getElem?_eq_none (by omega)
  rcases Z.zip with ⟨_,hz⟩|⟨t,f1,ht,hz⟩
  · exact wpAny_pyNext_zip_end hh D hz Z.pTI hTO Z.it1 Z.it2 Z.hl1 Z.hl2 hend fun h' g=>k h' g
  · obtain ⟨j,hj,ej⟩:=List.mem_iff_getElem.mp ht
    obtain ⟨_,_,_,_,et⟩:=Z.tups j t (by rw [List.getElem?_eq_getElem hj,ej])
    exact zip_end2 hh D hz et Z.pTI Z.it1 Z.it2 Z.hl1 Z.hl2 hend fun h' g=>k h' fun c o n1 _ n3 n4 e=>g c o n1 n3 n4 e
end
end Hk
set_option maxRecDepth 100000
namespace Hk
open PySem PySem.Spec PySem.W PyProof.Rows
section
variable {prog:Program} {w:World} {A:Around} {E:Value→Shared→Prop} {R:Result→Shared→Prop} {s:Shared}
abbrev lstAt (h:Heap) (S:Addr) (acc:Array Value) (c:Nat):Prop:=h.get? S=some { cls:=.type "list", dict:=none,data:=.seq acc c,slots:=#[] }
theorem zst_frame {h0 h h':Heap} {S z TI TO i1 i2 l1 l2:Addr} {xs ys:Array Value} {ts:List Addr} (hS:S∉[z,TI,TO,i1,i2,l1,l2]) (Z:ZSt h0 S z TI TO i1 i2 l1 l2 xs ys ts h) (k:∀ b o,b≠S→h.get? b=some o→h'.get? b=some o) :
    ZSt h0 S z TI TO i1 i2 l1 l2 xs ys ts h':=by
  simp only [List.mem_cons,List.not_mem_nil,or_false,not_or] at hS
  obtain ⟨s1,s2,s3,s4,s5,s6,s7⟩:=hS
  refine ⟨?_,k _ _ (Ne.symm s2) Z.pTI,?_,Z.it1.at fun o e=>k _ o (Ne.symm s4) e,Z.it2.at fun o e=>k _ o (Ne.symm s5) e,Z.hl1.at fun o e=>k _ o (Ne.symm s6) e,Z.hl2.at fun o e=>k _ o (Ne.symm s7) e,fun j t ht=>?_,Z.old,Z.nd,Z.new,fun b o hb e=>k b o hb (Z.keep b o hb e)⟩
  · rcases Z.zip with ⟨e1,e2⟩|⟨t,f1,e1,e2⟩
    · exact .inl ⟨e1,k _ _ (Ne.symm s1) e2⟩
    · exact .inr ⟨t,f1,e1,k _ _ (Ne.symm s1) e2⟩
  · obtain ⟨a,b,e⟩:=Z.pTO
    exact ⟨a,b,k _ _ (Ne.symm s3) e⟩
  · obtain ⟨x,y,a1,a2,a3⟩:=Z.tups j t ht
    exact ⟨x,y,a1,a2,k _ _ (Z.old t (List.mem_of_getElem? ht)).1 a3⟩
theorem zip_loop {h0:Heap} {S z TI TO i1 i2 l1 l2:Addr} {xs ys:Array Value} {res:Value} (hh:A.handled=none) (D:ZipApart z TI TO i1 i2 l1 l2) (hf:∀ b∈[z,TO,i1,i2],h0.get? b=none) (hS:S∉[z,TI,TO,i1,i2,l1,l2]) (hn:min xs.size ys.size≤sizeLine) (g0:Array GenState) (d0:Drawn) (o0)
    (hR:∀ (h':Heap) (tk:Nat) (ts:List Addr) (c:Nat),ts.length=min xs.size ys.size→ts.Nodup→(∀ t∈ts,t≠S∧h0.objs.size≤t)→lstAt h' S (ts.map Value.ref).toArray c→(∀ b o,b≠S→h0.get? b=some o→h'.get? b=some o)→(∀ (j:Nat) t,ts[j]?=some t→∃ x y,xs[j]?=some x∧ys[j]?=some y∧IsPair h' t x y)→R (.ok (.ret res)) ⟨h',g0,d0,tk,o0⟩) :
    ∀ (k:Nat) (h:Heap) (tk:Nat) (ts:List Addr) (c:Nat),min xs.size ys.size - ts.length=k→ts.length≤min xs.size ys.size→ZSt h0 S z TI TO i1 i2 l1 l2 xs ys ts h→lstAt h S (ts.map Value.ref).toArray c→h0.objs.size≤h.objs.size →
      codeAny (model prog w) A (.builtin "list.extend.loop" ⟨[.ref S,.ref z,res],[]⟩) R ⟨h,g0,d0,tk,o0⟩:=by
  have hS':=hS
  simp only [List.mem_cons,List.not_mem_nil,or_false,not_or] at hS'
  have nz:∀ b o,h0.get? b=some o→b≠z∧b≠TO∧b≠i1∧b≠i2:=fun b o e =>
    ⟨fun q=>(by have:=hf z (by simp);rw [q,this] at e;cases e),fun q=>(by have:=hf TO (by simp);rw [q,this] at e;cases e),fun q=>(by have:=hf i1 (by simp);rw [q,this] at e;cases e),fun q=>(by have:=hf i2 (by simp);rw [q,this] at e;cases e)⟩
  intro k
  induction k with
  | zero =>
    intro h tk ts c hk hi Z hl hsz
    have hin:ts.length=min xs.size ys.size:=by omega
    refine codeAny_builtin PySem.F.entry_extend_loop ?_
    rw [Around.under_plainId PySem.F.plain_extend_loop _]
    show wpAny _ A.in1 (pyNext (.ref z) >>= _) _ _ _
    refine wpAny_bind (zst_end (A:=A.in1) hh D Z hin fun h' g=>?_)
    refine wpAny_pure (hR h' tk ts c hin Z.nd (fun t ht=>⟨(Z.old t ht).1,Z.new t ht⟩) (g _ _ hS'.1 hS'.2.2.1 hS'.2.2.2.1 hS'.2.2.2.2.1 hl) (fun b o hb e=>?_) fun j t ht=>?_)
    · obtain ⟨n1,n2,n3,n4⟩:=nz b o e
      exact g b o n1 n2 n3 n4 (Z.keep b o hb e)
    · obtain ⟨x,y,a1,a2,a3⟩:=Z.tups j t ht
      have ho:=Z.old t (List.mem_of_getElem? ht)
      exact ⟨x,y,a1,a2,g _ _ ho.2.1 ho.2.2.1 ho.2.2.2.1 ho.2.2.2.2 a3⟩
  | succ k ih =>
    intro h tk ts c hk hi Z hl hsz
    have hlt:ts.length < min xs.size ys.size:=by omega
    refine codeAny_builtin PySem.F.entry_extend_loop ?_
    rw [Around.under_plainId PySem.F.plain_extend_loop _]
    show wpAny _ A.in1 (pyNext (.ref z) >>= _) _ _ _
    refine wpAny_bind (zst_item (A:=A.in1) D hf hS Z ⟨_,hl⟩ hsz hlt fun h' t Z' hk' hsz'=>?_)
    have hl':=hk' _ hl
    show wpAny _ A.in1 (updateSeq S (·.push (.ref t)) >>= _) _ _ _
    refine wpAny_bind ?_
    have sz:(ts.map Value.ref).toArray.size=ts.length:=by simp
    have e:=get?_update_seq hl' (·.push (Value.ref t))
    have e2:(ts.map Value.ref).toArray.push (.ref t)=((ts++[t]).map Value.ref).toArray:=by simp
    rw [e2] at e
    refine wpAny_updateSeq hl' rfl (wpAny_pure ⟨plainId_quiet PySem.F.plain_extend_loop _,ih _ _ (ts++[t]) _ (by rw [List.length_append,List.length_singleton];omega) (by rw [List.length_append,List.length_singleton];omega) (zst_frame hS Z' fun b o hb e=>?_) e (by rw [Heap.size_update];exact Nat.le_trans hsz hsz')⟩)
      (by rw [sz];omega) (by show ((ts.map Value.ref).toArray.push (.ref t)).size≤sizeLine+1;rw [Array.size_push,sz];omega)
    exact (Heap.get?_update_other _ _ (Ne.symm hb)).trans e
theorem zip_extend {h0:Heap} {S z TI TO i1 i2 l1 l2:Addr} {xs ys:Array Value} {res:Value} {c₀:Nat} (hh:A.handled=none) (D:ZipApart z TI TO i1 i2 l1 l2) (hf:∀ b∈[z,TO,i1,i2],h0.get? b=none) (hS:S∉[z,TI,TO,i1,i2,l1,l2]) (hn:min xs.size ys.size≤sizeLine)
    (Z:ZSt h0 S z TI TO i1 i2 l1 l2 xs ys [] s.heap) (hl:lstAt s.heap S #[] c₀) (hsz:h0.objs.size≤s.heap.objs.size)
    (hR:∀ (h':Heap) (tk:Nat) (ts:List Addr) (c:Nat),ts.length=min xs.size ys.size→ts.Nodup→(∀ t∈ts,t≠S∧h0.objs.size≤t)→lstAt h' S (ts.map Value.ref).toArray c→(∀ b o,b≠S→h0.get? b=some o→h'.get? b=some o)→(∀ (j:Nat) t,ts[j]?=some t→∃ x y,xs[j]?=some x∧ys[j]?=some y∧IsPair h' t x y)→R (.ok (.ret res)) { s with heap:=h',toks:=tk }) :
    wpAny (model prog w) A.in1 (Builtin.List.listExtendWith (.ref S) (.ref z) res)
      (fun fin s'=>match fin with|.done f=>R (.ok f) s'|.again c'=>c'.quiet=true∧codeAny (model prog w) A c' R s') (fun e s'=>R (.error e) s') s:=by
  obtain ⟨hp,g,d,tk,os⟩:=s
  have hS':=hS
  simp only [List.mem_cons,List.not_mem_nil,or_false,not_or] at hS'
  obtain ⟨_,hz⟩|⟨t,_,ht,_⟩:=Z.zip
  rotate_left
  · cases ht
  have hT:Shared.TypeIs ⟨hp,g,d,tk,os⟩ (.ref z) "zip" := ⟨_,hz,rfl⟩
  unfold Builtin.List.listExtendWith
  refine wpAny_bind (wpAny_typeOf (T := "zip") hT ?_)
  have h1:Builtin.List.listSameRef (.ref S) (.ref z)=false:=by simp [Builtin.List.listSameRef,hS'.1]
  have h2:(Value.type "zip" == Value.type "list")=false:=by decide
  have h3:(Value.type "zip" == Value.type "tuple")=false:=by decide
  simp only [h1,h2,h3,Bool.or_false,Bool.false_eq_true,if_false]
  refine wpAny_bind (wpAny_pyIter_zip hz ?_)
  refine wpAny_bind (wpAny_holding ?_)
  unfold Builtin.List.listLengthHint
  refine wpAny_bind (wpAny_specialOf hT PySem.F.noLenZip ?_)
  show wpAny _ A.in1 (specialOf (Value.ref z) (Str.ofString "__length_hint__") >>= _) _ _ _
  refine wpAny_bind (wpAny_specialOf hT PySem.F.noHintZip ?_)
  refine wpAny_pure ?_
  have key:∀ (h:Heap) (c₁:Nat),ZSt h0 S z TI TO i1 i2 l1 l2 xs ys [] h→lstAt h S #[] c₁→h0.objs.size≤h.objs.size→codeAny (model prog w) A (.builtin "list.extend.loop" ⟨[.ref S,.ref z,res],[]⟩) R ⟨h,g,d,tk,os⟩ :=
    fun h c₁ Z' hl' z'=>zip_loop hh D hf hS hn g d os (fun h' tk' ts c a1 a2 a3 a4 a5 a6=>hR h' tk' ts c a1 a2 a3 a4 a5 a6) _ h tk [] c₁ rfl (Nat.zero_le _) Z' hl' z'
  refine wpAny_ite_split (fun _=>?_) (fun _=>wpAny_pure ⟨plainId_quiet PySem.F.plain_extend_loop _,key _ c₀ Z hl hsz⟩)
  refine wpAny_bind (wpAny_rule ?_)
  refine wpAny_bind ?_
  show wpAny _ _ (updateSeq S (·.push .none) >>= fun _=>updateSeq S (·.pop)) _ _ _
  refine wpAny_bind (wpAny_updateSeq hl rfl ?_)
  have hS₂:=Heap.get?_update_self (Obj.mapSeq (·.push Value.none)) hl rfl
  refine wpAny_updateSeq (hz:=by seq_fits) hS₂ rfl ?_
  have hS₃:=Heap.get?_update_self (Obj.mapSeq (·.pop)) hS₂ rfl
  refine wpAny_pure ⟨plainId_quiet PySem.F.plain_extend_loop _,key _ _ (zst_frame hS Z fun b o hb e=>?_) hS₃ (by rw [Heap.size_update,Heap.size_update];exact hsz)⟩
  exact (Heap.get?_update_other _ _ (Ne.symm hb)).trans ((Heap.get?_update_other _ _ (Ne.symm hb)).trans e)
theorem list_zip {l1 l2:Addr} {xs ys:Array Value} {Q:Value→Shared→Prop} {s0:Shared} (hh:A.handled=none) (hl1:s0.heap.IsList l1 xs) (hl2:s0.heap.IsList l2 ys) (hn:min xs.size ys.size≤sizeLine)
    (hz:IsZip s.heap (s0.heap.objs.size+4) (s0.heap.objs.size+2) (s0.heap.objs.size+3) .none) (hp1:IsPair s.heap (s0.heap.objs.size+2) (.ref s0.heap.objs.size) (.ref (s0.heap.objs.size+1))) (hp2:IsPair s.heap (s0.heap.objs.size+3) .none .none)
    (hi1:s.heap.IsListIter s0.heap.objs.size l1 0) (hi2:s.heap.IsListIter (s0.heap.objs.size+1) l2 0) (hs:s.heap.objs.size=s0.heap.objs.size+5) (hk:∀ c o,s0.heap.get? c=some o→s.heap.get? c=some o)
    (hQ:∀ (h':Heap) (tk:Nat) (S:Addr) (ts:List Addr) (c:Nat),s0.heap.objs.size≤S→ts.length=min xs.size ys.size→ts.Nodup→(∀ t∈ts,t≠S∧s0.heap.objs.size≤t)→lstAt h' S (ts.map Value.ref).toArray c→(∀ b o,s0.heap.get? b=some o→h'.get? b=some o) →
      (∀ (j:Nat) t,ts[j]?=some t→∃ x y,xs[j]?=some x∧ys[j]?=some y∧IsPair h' t x y)→Q (.ref S) { s with heap:=h',toks:=tk }) :
    wpAny (model prog w) A (call (.type "list") [.ref (s0.heap.objs.size+4)]) Q E s:=by
  refine callType_codes (Q₁:=fun obj s₁=>obj=.ref s.heap.objs.size∧s₁={ s with heap:=s.heap.push { cls:=.type "list", data:=.seq #[] } }) PySem.F.called_list (PySem.F.typeCall_list_1 _) PySem.F.entry_list_init
    (code_list_new _ ⟨rfl,rfl⟩) fun obj s₁ h₁=>?_
  obtain ⟨rfl,rfl⟩:=h₁
  have hS:(s.heap.push { cls:=.type "list", data:=.seq #[] }).get? s.heap.objs.size=some { cls:=.type "list", data:=.seq #[] }:=Heap.get?_push_size _ rfl
  refine ⟨⟨_,hS,rfl⟩,PySem.F.args_list_init_2 _ _,?_⟩
  generalize hn0:s0.heap.objs.size=n at *
  have e1:l1 < n:=by obtain ⟨_,e,_⟩:=hl1;rw [←hn0];exact Heap.lt_size e
  have e2:l2 < n:=by obtain ⟨_,e,_⟩:=hl2;rw [←hn0];exact Heap.lt_size e
  generalize hS0:s.heap.objs.size=S at *
  have D:ZipApart (n+4) (n+2) (n+3) n (n+1) l1 l2:=by
    constructor <;> (intro q;simp only [Addr] at *;omega)
  have hSn:S∉[n+4,n+2,n+3,n,n+1,l1,l2]:=by
    simp only [List.mem_cons,List.not_mem_nil,or_false,not_or]
    refine ⟨?_,?_,?_,?_,?_,?_,?_⟩ <;> (intro q;simp only [Addr] at *;omega)
  have hf:∀ b∈[n+4,n+3,n,n+1],s0.heap.get? b=none:=fun b hb=>by
    cases q:s0.heap.get? b with
    | none=>rfl
    | some o =>
      have:=Heap.lt_size q
      rw [hn0] at this
      simp only [List.mem_cons,List.not_mem_nil,or_false] at hb
      simp only [Addr] at *
      omega
  show wpAny _ _ (do let old ←Builtin.List.listItems (.ref S);Builtin.List.listUpdate (.ref S) (fun _=>#[]);letGo old.toList.reverse;Builtin.List.listExtendWith (.ref S) (.ref (n+4)) .none) _ _ _
  refine wpAny_bind ?_
  unfold Builtin.List.listItems
  refine wpAny_bind (wpAny_seqItems hS rfl (wpAny_pure ?_))
  show wpAny _ _ (updateSeq S (fun _=>#[]) >>= fun _=>letGo (#[]:Array Value).toList.reverse >>= fun _=>Builtin.List.listExtendWith (.ref S) (.ref (n+4)) .none) _ _ _
  refine wpAny_bind (wpAny_updateSeq hS rfl ?_)
  have hS₂:=get?_update_seq hS (fun _=>(#[]:Array Value))
  have oth:∀ b o,b≠S→s.heap.get? b=some o→((s.heap.push { cls:=.type "list", data:=.seq #[] }).update S (Obj.mapSeq (fun _=>(#[]:Array Value)))).get? b=some o :=
    fun b o hb e=>(Heap.get?_update_other _ _ (Ne.symm hb)).trans (Heap.get?_push_of_some _ e)
  refine wpAny_bind (wpAny_letGo ?_)
  have hSn':=hSn
  simp only [List.mem_cons,List.not_mem_nil,or_false,not_or] at hSn'
  refine zip_extend (A:=A.in1) (h0:=s0.heap) hh D hf hSn hn ⟨.inl ⟨rfl,oth _ _ (Ne.symm hSn'.1) hz⟩,oth _ _ (Ne.symm hSn'.2.1) hp1,⟨_,_,oth _ _ (Ne.symm hSn'.2.2.1) hp2⟩,hi1.at fun o e=>oth _ o (Ne.symm hSn'.2.2.2.1) e,hi2.at fun o e=>oth _ o (Ne.symm hSn'.2.2.2.2.1) e,
    hl1.at fun o e=>oth _ o (Ne.symm hSn'.2.2.2.2.2.1) (hk _ o e),hl2.at fun o e=>oth _ o (Ne.symm hSn'.2.2.2.2.2.2) (hk _ o e),fun j t ht=>(by simp at ht),fun t ht=>(by simp at ht),List.nodup_nil,fun t ht=>(by simp at ht),fun b o hb e=>oth b o hb (hk b o e)⟩ hS₂ (by rw [Heap.size_update,Heap.size_push,hn0,hS0];simp only [Addr] at *;omega) fun h' tk ts c a1 a2 a3 a4 a5 a6=>?_
  rw [hn0] at a3
  exact ⟨rfl,hQ h' tk S ts c (by simp only [Addr] at *;omega) a1 a2 a3 a4 (fun b o e=>a5 b o (fun q=>by
    have:=Heap.lt_size e
    rw [hn0,q] at this
    simp only [Addr] at *
    omega) e) a6⟩
end
end Hk
set_option maxRecDepth 100000
namespace Hk
open PySem L2
section
variable {X:Cx} {pins:List (Addr×Obj)} {σ:St} {H H':Hp} {s:Shared}
theorem inv_many {h':Heap} {t':Nat} (I:L2.Inv X pins σ H s) (k:∀ b u,s.heap.get? b=some u→h'.get? b=some u) (hs:Same H H') (hn:∀ b,H b=none→H' b≠none→s.heap.objs.size≤b)
    (new:∀ b u,H b=none→H' b=some u→ObjOk X.prog X.w H' h' b u):L2.Inv X pins σ H' { s with heap:=h',toks:=t' }:=by
  refine I.un ⟨fun b o q _ _ _=>k b o q,fun b o q _ _ _=>⟨o.slots,k b o q⟩,fun b o q n _=>?_,fun b o q _=>⟨o,k b o q⟩,fun b xs q=>hs _ _ q,fun b o u q=>hs _ _ q,fun b ps q=>⟨#[],by rw [hs _ _ q];simp⟩⟩ fun b u e=>?_
  · cases e:H' b with
    | none=>rfl
    | some u=>exact absurd (Heap.lt_size q) (Nat.not_lt.mpr (hn b n (by rw [e];exact fun z=>by cases z)))
  · cases q:H b with
    | none=>exact new b u q e
    | some u' =>
      have:=hs _ _ q
      rw [e] at this
      cases this
      exact (I.hok b u q).stay (fun c v _ z=>k c v z) (fun c z=>hs _ _ z) fun c xs z=>hs _ _ z
noncomputable def updT (H:Hp):List Addr→List V→List V→Hp
  | t::ts,x::xs,y::ys=>upd (updT H ts xs ys) t (.tup [x,y])
  | _,_,_=>H
theorem updT_out {b:Addr}:∀ {ts:List Addr} {xs ys:List V},b∉ts→updT H ts xs ys b=H b
  | [],_,_,_=>rfl
  | _::_,[],_,_=>rfl
  | _::_,_::_,[],_=>rfl
  | t::ts,x::xs,y::ys,h=>by
    rw [List.mem_cons,not_or] at h
    show upd _ t _ b=_
    rw [upd_ne h.1];exact updT_out h.2
theorem updT_at:∀ {ts:List Addr} {xs ys:List V} {j:Nat} {t:Addr} {x y:V},ts.Nodup→ts[j]?=some t→xs[j]?=some x→ys[j]?=some y→updT H ts xs ys t=some (.tup [x,y])
  | [],_,_,_,_,_,_,_,h,_,_=>by simp at h
  | _::_,[],_,_,_,_,_,_,_,h,_=>by simp at h
  | _::_,_::_,[],_,_,_,_,_,_,_,h=>by simp at h
  | u::ts,a::xs,b::ys,0,t,x,y,n,h1,h2,h3=>by
    simp at h1 h2 h3
    subst h1;subst h2;subst h3
    exact upd_same
  | u::ts,a::xs,b::ys,j+1,t,x,y,n,h1,h2,h3=>by
    simp only [List.getElem?_cons_succ] at h1 h2 h3
    obtain ⟨n1,n2⟩:=List.nodup_cons.mp n
    show upd _ u _ t=_
    rw [upd_ne (fun e=>n1 (by rw [←e];exact List.mem_of_getElem? h1))]
    exact updT_at n2 h1 h2 h3
def rLZ:List V→Hp→VK→Prop:=fun vs H2 Q=>∃ p q xs ys,vs=[.ref p,.ref q]∧H2 p=some (.lst xs)∧H2 q=some (.lst ys) ∧
  ∀ (S:Addr) (ts:List Addr),H2 S=none→(∀ t∈ts,H2 t=none∧t≠S)→ts.Nodup→ts.length=min xs.length ys.length→Q (.ref S) (upd (updT H2 ts xs ys) S (.lst (ts.map V.ref)))
theorem vals_get:∀ {xs:List V} {us:List Value},Vals xs us→∀ {j:Nat} {u:Value},us[j]?=some u→∃ x,xs[j]?=some x∧RelV x u
  | _,_,.nil,j,u,h=>by simp at h
  | _,_,.cons r1 r2,0,u,h=>by simp at h;subst h;exact ⟨_,rfl,r1⟩
  | _,_,.cons r1 r2,j+1,u,h=>by
    simp only [List.getElem?_cons_succ] at h ⊢
    exact vals_get r2 h
theorem vals_refs:∀ (ts:List Addr),Vals (ts.map V.ref) (ts.map Value.ref)
  | []=>.nil
  | t::r=>.cons rfl (vals_refs r)
theorem pe_listzip {a b:Expr} {t:TA} {p1 p2 q1 q2:Pos} (hg1:Gl X "list") (hm1:X.mg "list" = none) (hg2:Gl X "zip") (hm2:X.mg "zip" = none) (ha:PA X [a,b] t) (hc:X.calm=true)
    (he1:starEach [a,b] X.env=(false,eval a X.env)::starEach [b] X.env) (hpl1:(backTo q2 (starEach [b] X.env)).any (·.1)=false)
    (he2:starEach [.Call (.Name "zip" p2) [a,b] [] q2] X.env=(false,eval (.Call (.Name "zip" p2) [a,b] [] q2) X.env)::starEach [] X.env) (hpl2:(backTo q1 (starEach [] X.env)).any (·.1)=false) :
    PE X (.Call (.Name "list" p1) [.Call (.Name "zip" p2) [a,b] [] q2] [] q1) (tCB rLZ t):=by
  intro pins s σ H Q I h
  refine wpAny_Call_Name_kw (ld_blt I hg1 hm1 bt_list ?_ (by decide) (by decide))
  refine PyProof.Rows.callWith_type1 ?_ he2 hpl2
  rw [he2]
  show wpAny _ _ (spliced ((false,eval _ X.env)::backTo q1 (starEach [] X.env))) _ _ s
  refine Calls.spliced_cons ?_
  refine wpAny_Call_Name_kw (ld_blt I hg2 hm2 bt_zip ?_ (by decide) (by decide))
  refine PyProof.Rows.callWith_type1 (thn (ha q2 pins s σ H _ I h) fun us s1 ⟨vs,H1,I1,r1,q1⟩=>?_) he1 hpl1
  · obtain ⟨p,q,xs,ys,rfl,hp,hq,k⟩:=q1
    obtain ⟨u1,u2,rfl,e1,e2⟩:=vals2 r1
    cases e1
    cases e2
    obtain ⟨its1,n1,rv1,g1,z1⟩:=I1.lst hp
    obtain ⟨its2,n2,rv2,g2,z2⟩:=I1.lst hq
    have il1:s1.heap.IsList p its1.toArray:=⟨_,g1,rfl,n1,rfl⟩
    have il2:s1.heap.IsList q its2.toArray:=⟨_,g2,rfl,n2,rfl⟩
    refine call_zip_2 il1 il2 fun h' a1 a2 a3 a4 a5 a6 a7=>?_
    refine Calls.spliced_nil ?_
    have len1:its1.toArray.size=xs.length:=by rw [List.size_toArray,rv1.length]
    have len2:its2.toArray.size=ys.length:=by rw [List.size_toArray,rv2.length]
    refine list_zip (s0:=s1) (I1.ok.hd hc) il1 il2 (by rw [len1];exact Nat.le_trans (Nat.min_le_left _ _) z1) a1 a2 a3 a4 a5 a6 a7 fun h2 tk S ts c b1 b2 b3 b4 b5 b6 b7=>?_
    rw [len1,len2] at b2
    have fS:H1 S=none:=I1.hok.fresh b1
    have ft:∀ t∈ts,H1 t=none:=fun t ht=>I1.hok.fresh (b4 t ht).2
    have hsame:Same H1 (upd (updT H1 ts xs ys) S (.lst (ts.map V.ref))):=fun b u e=>by
      have nS:b≠S:=fun z=>by rw [z,fS] at e;cases e
      have nt:b∉ts:=fun z=>by rw [ft b z] at e;cases e
      rw [upd_ne nS,updT_out nt];exact e
    have tup:∀ (j:Nat) t,ts[j]?=some t→∃ x y,xs[j]?=some x∧ys[j]?=some y∧updT H1 ts xs ys t=some (.tup [x,y])∧ObjOk X.prog X.w (upd (updT H1 ts xs ys) S (.lst (ts.map V.ref))) h2 t (.tup [x,y]):=fun j t ht=>by
      obtain ⟨x',y',c1,c2,c3⟩:=b7 j t ht
      obtain ⟨x,d1,d2⟩:=vals_get rv1 (j:=j) (u:=x') (by simpa using c1)
      obtain ⟨y,d3,d4⟩:=vals_get rv2 (j:=j) (u:=y') (by simpa using c2)
      exact ⟨x,y,d1,d3,updT_at b3 ht d1 d3,⟨by show 2≤sizeLine;decide,[x',y'],.cons d2 (.cons d4 .nil),⟨_,c3,rfl,_,rfl⟩⟩⟩
    refine ⟨.ref S,_,inv_many (s:=s1) (t':=tk) I1 b6 hsame (fun b n1 n2=>?_) (fun b u n1 n2=>?_),rfl,k S ts fS (fun t ht=>⟨ft t ht,(b4 t ht).1⟩) b3 b2⟩
    · by_cases e:b=S
      · rw [e];exact b1
      · by_cases e':b∈ts
        · exact (b4 b e').2
        · rw [upd_ne e,updT_out e'] at n2;exact absurd n1 n2
    · by_cases e:b=S
      · subst e
        rw [upd_same] at n2
        cases n2
        refine ⟨?_,ts.map Value.ref,c,vals_refs ts,b5⟩
        rw [List.length_map,b2];exact Nat.le_trans (Nat.min_le_left _ _) z1
      · by_cases e':b∈ts
        · obtain ⟨j,hj,ej⟩:=List.mem_iff_getElem.mp e'
          obtain ⟨x,y,_,_,m1,m2⟩:=tup j b (by rw [List.getElem?_eq_getElem hj,ej])
          rw [upd_ne e,m1] at n2
          cases n2
          exact m2
        · rw [upd_ne e,updT_out e',n1] at n2;cases n2
noncomputable def pairD (x y:D):D:=.tup [x,y]
noncomputable def bListZip:List D→Option R
  | [.lst xs,.lst ys]=>some (.fr (List.zipWith pairD xs ys))
  | _=>none
theorem reps_refs {K:PySem.W.Frag} {G:Hp}:∀ {ds:List D} {ts:List Addr},ds.length=ts.length→(∀ (j:Nat) d t,ds[j]?=some d→ts[j]?=some t→Rep K G d (.ref t))→Reps K G ds (ts.map V.ref)
  | [],[],_,_=>rfl
  | [],_::_,h,_=>by simp at h
  | _::_,[],h,_=>by simp at h
  | d::ds,t::ts,h,f=>⟨.ref t,_,rfl,f 0 d t rfl rfl,reps_refs (by simpa using h) fun j e u h1 h2=>f (j+1) e u (by simpa using h1) (by simpa using h2)⟩
theorem cd_listzip {K:PySem.W.Frag}:CallD K rLZ bListZip:=by
  intro G H ds vs d Q s e hv k
  match ds,e with
  | [.lst xs,.lst ys],e =>
    cases e
    obtain ⟨v,u,rfl,h,h'⟩:=hv.two
    obtain ⟨p,us,rfl,h1,h2⟩:=h.lst s
    obtain ⟨q,ws,rfl,h3,h4⟩:=h'.lst s
    refine ⟨p,q,us,ws,rfl,h1,h3,fun S ts hS ht nd hl=>?_⟩
    let G':Hp:=fun b=>if b∈ts then updT H ts us ws b else G b
    have hout:∀ b,b∉ts→G' b=G b:=fun b z=>if_neg z
    have hin:∀ b,b∈ts→G' b=updT H ts us ws b:=fun b z=>if_pos z
    have gg:Same G G':=fun b o z=>by
      have n:b∉ts:=fun y=>by rw [s.free (ht b y).1] at z;cases z
      rw [hout b n];exact z
    have hh:Same H (upd (updT H ts us ws) S (.lst (ts.map V.ref))):=fun b o z=>by
      have nS:b≠S:=fun y=>by rw [y,hS] at z;cases z
      have n:b∉ts:=fun y=>by rw [(ht b y).1] at z;cases z
      rw [upd_ne nS,updT_out n];exact z
    have gh:Same G' (upd (updT H ts us ws) S (.lst (ts.map V.ref))):=fun b o z=>by
      by_cases y:b∈ts
      · rw [hin b y] at z
        rw [upd_ne (ht b y).2];exact z
      · rw [hout b y] at z
        exact hh b o (s _ _ z)
    have x:Ext G H G' (upd (updT H ts us ws) S (.lst (ts.map V.ref))):=⟨gg,gh,hh,fun b z1 z2=>by
      have n:b∉ts:=fun y=>z2 (ht b y).1
      rw [hout b n];exact z1⟩
    have nS:S∉ts:=fun y=>(ht S y).2 rfl
    refine k _ G' _ x ⟨S,_,rfl,hS,by rw [hout S nS];exact s.free hS,upd_same,reps_refs ?_ fun j d t e1 e2=>?_⟩
    · rw [List.length_zipWith,hl,h2.len,h4.len]
    · rw [List.getElem?_zipWith] at e1
      cases q1:xs[j]? with
      | none=>rw [q1] at e1;cases e1
      | some a =>
        cases q2:ys[j]? with
        | none=>rw [q1,q2] at e1;cases e1
        | some b =>
          rw [q1,q2] at e1
          cases e1
          obtain ⟨va,y1,y2⟩:=h2.get q1
          obtain ⟨vb,y3,y4⟩:=h4.get q2
          refine ⟨t,[va,vb],rfl,?_,Reps.cons (y2.mono gg) (Reps.cons (y4.mono gg) Reps.nil)⟩
          rw [hin t (List.mem_of_getElem? e2)]
          exact updT_at nd e2 y1 y3
theorem xe_listzip {a b:Expr} {g:FA} {p1 p2 q1 q2:Pos} (hg1:Gl X "list") (hm1:X.mg "list" = none) (hg2:Gl X "zip") (hm2:X.mg "zip" = none) (ha:XVA X [a,b] g) (hc:X.calm=true:=by rfl)
    (he1:starEach [a,b] X.env=(false,eval a X.env)::starEach [b] X.env:=by rfl) (hpl1:(backTo q2 (starEach [b] X.env)).any (·.1)=false:=by rfl)
    (he2:starEach [.Call (.Name "zip" p2) [a,b] [] q2] X.env=(false,eval (.Call (.Name "zip" p2) [a,b] [] q2) X.env)::starEach [] X.env:=by rfl) (hpl2:(backTo q1 (starEach [] X.env)).any (·.1)=false:=by rfl) :
    XE X (.Call (.Name "list" p1) [.Call (.Name "zip" p2) [a,b] [] q2] [] q1) (fBlt bListZip g):=by
  obtain ⟨t,h1,h2⟩:=ha
  exact ⟨_,pe_listzip hg1 hm1 hg2 hm2 h1 hc he1 hpl1 he2 hpl2,sim_blt cd_listzip h2⟩
end
end Hk
set_option maxRecDepth 100000
namespace Hk
open PySem L2
section
variable {X:Cx}
end
end Hk
set_option maxRecDepth 100000
namespace Hk
open PySem L2
noncomputable def whD (c:FT) (b:FS):Nat→FS
  | 0=>fun _=>none
  | n+1=>fun ω=>(c ω).bind fun k=>if k=true then (b ω).bind (fun p=>match p.1 with
      | .nx=>whD c b n p.2
      | .ct=>whD c b n p.2
      | .bk=>some (.nx,p.2)
      | .rt r=>some (.rt r,p.2)) else some (.nx,ω)
noncomputable def sWh (n:Nat) (c:FT) (b:FS):FS:=whD c b n
section
variable {X:Cx} {c:Expr} {body:List Stmt} {fc:FT} {fb:FS} {pos:Pos} {n:Nat}
theorem sim_while {K:PySem.W.Frag} {t:TT} {u:TS} (h2:SimT K t fc) (h4:SimS K u fb):SimS K (tWhile t u) (sWh n fc fb):=by
  intro G0 H0 G ω σ H out ω' E o e k
  refine ⟨fun m σ1 H1=>∃ G1 ω1,Own K G0 H0 G1 ω1 σ1 H1∧Same G G1∧whD fc fb m ω1=some (out,ω'),⟨n,G,ω,o,Same.refl _,e⟩,fun m σ1 H1 ⟨G1,ω1,o1,g1,e1⟩=>?_⟩
  cases m with
  | zero=>cases e1
  | succ m =>
    obtain ⟨b,q,e1⟩:=bnd e1
    refine h2 G0 H0 G1 ω1 σ1 H1 b _ o1 q fun G2 H2 x2=>?_
    cases b with
    | false=>cases e1;exact k G2 σ1 H2 (o1.keep x2) (g1.trans x2.gg)
    | true =>
      rw [if_pos rfl]
      rw [if_pos rfl] at e1
      obtain ⟨⟨o3,ω3⟩,q3,e1⟩:=bnd e1
      refine ⟨fun σ' H'=>∃ G1 ω1,Own K G0 H0 G1 ω1 σ' H'∧Same G G1∧whD fc fb m ω1=some (out,ω'),fun σ' H' z=>⟨m,Nat.lt_succ_self m,z⟩,?_⟩
      refine h4 G0 H0 G2 ω1 σ1 H2 o3 ω3 _ (o1.keep x2) q3 fun G4 σ4 H4 o4 g4=>?_
      have gg:=(g1.trans x2.gg).trans g4
      cases o3 with
      | nx=>exact ⟨G4,ω3,o4,gg,e1⟩
      | ct=>exact ⟨G4,ω3,o4,gg,e1⟩
      | bk=>cases e1;exact k G4 σ4 H4 o4 gg
      | rt r=>cases e1;exact k G4 σ4 H4 o4 gg
theorem xs_while (hp:PassesOwn (model X.prog X.w) X.A X.env X.xe) (hc:XT X c fc) (hb:XSs X body fb):XS X (.While c body [] pos) (sWh n fc fb):=by
  obtain ⟨t,h1,h2⟩:=hc
  obtain ⟨u,h3,h4⟩:=hb
  exact ⟨_,ps_while hp h1 h3,sim_while h2 h4⟩
end
section
variable {fc:FT} {fb:FS}
def stepW (I:WSt→Prop) (μ:WSt→Nat) (m:Nat) (J:WSt→Prop) (o:Option (Out×WSt)):Prop:=match o with
  | some (.nx,w)=>I w∧μ w < m
  | some (.ct,w)=>I w∧μ w < m
  | some (.bk,w)=>J w
  | _=>False
theorem whD_by (I:WSt→Prop) (μ:WSt→Nat) (J:WSt→Prop) (stop:∀ ω,I ω→fc ω=some false→J ω) (turn:∀ ω,I ω→∃ k,fc ω=some k∧(k=true→stepW I μ (μ ω) J (fb ω))) :
    ∀ (n:Nat) (ω:WSt),I ω→μ ω < n→∃ ω',whD fc fb n ω=some (.nx,ω')∧J ω'
  | 0,_,_,z=>absurd z (Nat.not_lt_zero _)
  | n+1,ω,h,z=>by
    obtain ⟨k,e,t⟩:=turn ω h
    show ∃ ω',((fc ω).bind _)=_∧_
    rw [e]
    cases k with
    | false=>exact ⟨ω,rfl,stop ω h e⟩
    | true =>
      have t:=t rfl
      rw [show ∀ (f:Bool→Option (Out×WSt)),(some true).bind f=f true from fun _=>rfl,if_pos rfl]
      cases q:fb ω with
      | none=>rw [q] at t;exact t.elim
      | some p =>
        rw [q] at t
        obtain ⟨o,w⟩:=p
        cases o with
        | nx=>exact whD_by I μ J stop turn n w t.1 (by have:=t.2;omega)
        | ct=>exact whD_by I μ J stop turn n w t.1 (by have:=t.2;omega)
        | bk=>exact ⟨w,rfl,t⟩
        | rt r=>exact t.elim
theorem sWh_by {n:Nat} (I:WSt→Prop) (μ:WSt→Nat) (J:WSt→Prop) (stop:∀ ω,I ω→fc ω=some false→J ω) (turn:∀ ω,I ω→∃ k,fc ω=some k∧(k=true→stepW I μ (μ ω) J (fb ω)))
    {ω:WSt} (h:I ω) (z:μ ω < n):∃ ω',sWh n fc fb ω=some (.nx,ω')∧J ω':=whD_by I μ J stop turn n ω h z
end
end Hk
namespace Hk
open PySem L2
theorem Reps.rev {K:PySem.W.Frag} {H:Hp}:∀ {ds:List D} {vs:List V},Reps K H ds vs→Reps K H ds.reverse vs.reverse
  | [],_,h=>by cases (show _=_ from h);rfl
  | _::_,_,⟨v,r,h1,h2,h3⟩=>by rw [h1,List.reverse_cons,List.reverse_cons];exact (Reps.rev h3).app (Reps.cons h2 Reps.nil)
section
variable {X:Cx} {pos:Pos} {o:Expr} {apos cpos:Pos} {i:Nat}
end
end Hk
set_option maxRecDepth 100000
namespace Hk
open PySem L2
noncomputable abbrev FM:=WSt→Option (D×WSt)
def SimM (K:PySem.W.Frag) (t:TE) (f:FM):Prop:=∀ G0 H0 G ω σ H d ω' (Q:VK),Own K G0 H0 G ω σ H→f ω=some (d,ω') →
  (∀ v G' H',Own K G0 H0 G' ω' σ H'→Same G G'→Rep K G' d v→Q v H')→t σ H Q
def XM (X:Cx) (e:Expr) (f:FM):Prop:=∃ t,PE X e t∧SimM X.K t f
noncomputable def popD (k:Int) (i:Nat) (ω:WSt):Option (D×WSt):=match ω[i]? with
  | some (some (.ow ds))=>if -(2 ^ 63)≤k∧k < 2 ^ 63 then (seqIndex? k ds.length).bind fun n=>(ds[n]?).map fun d=>(d,ω.set i (some (.ow (ds.eraseIdx n)))) else none
  | _=>none
noncomputable def mPop (i:Nat) (fd:FD):FM:=fun ω=>(fd ω).bind fun d=>match d with
  | .int k=>popD k i ω
  | _=>none
theorem Reps.erase {K:PySem.W.Frag} {H:Hp}:∀ {ds:List D} {vs:List V} (n:Nat),Reps K H ds vs→Reps K H (ds.eraseIdx n) (vs.eraseIdx n)
  | [],_,_,h=>by cases (show _=_ from h);rfl
  | _::_,_,0,⟨v,r,h1,h2,h3⟩=>by rw [h1];exact h3
  | _::_,_,n+1,⟨v,r,h1,h2,h3⟩=>by rw [h1];exact ⟨v,_,rfl,h2,Reps.erase n h3⟩
section
variable {X:Cx} {pos:Pos} {o e:Expr} {apos cpos pos':Pos} {i:Nat} {fd:FD} {f:FM}
set_option tactic.hygienic true in
theorem xm_pop (ho:PE X o (tVar i)) (he:XD X e fd)
    (hbase:attributeBase o "pop" X.env (eval o X.env)=eval o X.env:=by rfl)
    (hfew:((backTo cpos (starEach [e] X.env)).all (fun x=>!x.1) && (backToKw cpos (keywordEach [] X.env)).all (fun x=>x.1.isSome)
      && decide (([e]:List Expr).length+([]:List Keyword).length+(if ([]:List Keyword).isEmpty then 0 else 1) < 30))=true:=by rfl)
    (hline:(apos.endLine == cpos.line)=true:=by rfl) (hs:starEach [e] X.env=(false,eval e X.env)::starEach [] X.env:=by rfl) (hplain:(backTo cpos (starEach [] X.env)).any (·.1)=false:=by rfl) :
    XM X (.Call (.Attribute o "pop" apos) [e] [] cpos) (mPop i fd):=by
  obtain ⟨t,h1,h2⟩:=he
  refine ⟨_,pe_bm PySem.F.plainAttrs_list PySem.F.slot_list_pop PySem.F.type_list_pop mt_popAt ho (pa_cons h1 pa_nil hs) hbase hfew hline hs hplain,fun G0 H0 G ω σ H d ω' Q ow e k=>?_⟩
  obtain ⟨d0,q,e⟩:=bnd e
  cases d0 with
  | int m =>
    have e:popD m i ω=some (d,ω'):=e
    unfold popD at e
    split at e
    · rename_i ds q2
      by_cases z:-(2 ^ 63)≤m∧m < 2 ^ 63
      · rw [if_pos z] at e
        obtain ⟨n,hn,e⟩:=bnd e
        cases hd:ds[n]? with
        | none=>rw [hd] at e;cases e
        | some d1 =>
          rw [hd] at e
          cases e
          obtain ⟨l,vs,r1,r2,r3,r4,r5⟩:=ow.ow i ds q2
          refine ⟨.ref l,r1,.inl ⟨rfl,vs,SqL.of r2⟩,h2 G0 H0 G ω σ H _ _ ow q fun v G1 H1 x1 y1=>?_⟩
          cases (show v=.int m from y1)
          have o1:=ow.keep x1
          obtain ⟨y,hy,ry⟩:=r5.get hd
          exact ⟨l,vs,m,n,y,rfl,rfl,x1.hh _ _ r2,z.1,z.2,by rw [←r5.len];exact hn,hy,k y G1 _ (o1.mut q2 r1 (x1.hh _ _ r2) (x1.new l r3 (by rw [r2];exact fun z=>by cases z)) r4 ((r5.mono x1.gg).erase n)) x1.gg (ry.mono x1.gg)⟩
      · rw [if_neg z] at e;cases e
    · cases e
  | _=>cases e
noncomputable def sSetM (i:Nat) (f:FM):FS:=fun ω=>(f ω).map fun p=>(.nx,p.2.set i (some (.sh p.1)))
theorem xs_setM {x:Str} (hN:X.N.Nodup) (hi:X.N[i]?=some x) (hx:Loc X.env.scope x) (he:XM X e f) (hs:swapsWith e (some (.Name x pos')) pos.line X.env=pure false:=by rfl) (hf:X.fn x=true∨X.env.scope.names.lookup x=some .local:=by first|exact .inl rfl|exact .inr rfl|assumption) :
    XS X (.Assign [.Name x pos'] e pos) (sSetM i f):=by
  obtain ⟨t,h1,h2⟩:=he
  refine ⟨_,ps_set hN hi hx h1 hs hf,fun G0 H0 G ω σ H out ω' E o e k=>?_⟩
  unfold sSetM at e
  cases q:f ω with
  | none=>rw [q] at e;cases e
  | some p =>
    obtain ⟨d,ω1⟩:=p
    rw [q] at e
    cases e
    exact h2 G0 H0 G ω σ H d ω1 _ o q fun v G1 H1 o1 g1 r1=>k G1 _ H1 (o1.setSh r1) g1
end
end Hk
set_option maxRecDepth 100000
namespace Hk
open PySem L2
section
variable {X:Cx} {a b c:Expr} {pos:Pos} {fa fb fc:FD} {op op':CmpOp} {p p':Int→Int→Bool}
end
end Hk
set_option maxRecDepth 100000
namespace Hk
open PySem L2
noncomputable def insZ (x:Int):List Int→List Int
  | []=>[x]
  | y::r=>if x≤y then x::y::r else y::insZ x r
noncomputable def sortZ (ns:List Int):List Int:=ns.foldr insZ []
theorem insZ_perm {x:Int}:∀ {l:List Int},(insZ x l).Perm (x::l)
  | []=>.refl _
  | y::r=>by
    unfold insZ
    by_cases h:x≤y
    · rw [if_pos h]
    · rw [if_neg h];exact (insZ_perm.cons y).trans (.swap x y r)
theorem sortZ_perm:∀ {l:List Int},(sortZ l).Perm l
  | []=>.refl _
  | y::r=>insZ_perm.trans ((sortZ_perm (l:=r)).cons y)
theorem insZ_le {x:Int}:∀ {l:List Int},l.Pairwise (·≤·)→(insZ x l).Pairwise (·≤·)
  | [],_=>List.pairwise_singleton _ _
  | y::r,h=>by
    obtain ⟨h1,h2⟩:=List.pairwise_cons.mp h
    unfold insZ
    by_cases z:x≤y
    · rw [if_pos z]
      refine List.pairwise_cons.mpr ⟨fun a ha=>?_,h⟩
      cases ha with
      | head=>exact z
      | tail _ ha=>exact Int.le_trans z (h1 a ha)
    · rw [if_neg z]
      refine List.pairwise_cons.mpr ⟨fun a ha=>?_,insZ_le h2⟩
      cases (insZ_perm.mem_iff.mp ha:a∈x::r) with
      | head=>omega
      | tail _ ha=>exact h1 a ha
theorem sortZ_le:∀ {l:List Int},(sortZ l).Pairwise (·≤·)
  | []=>.nil
  | y::r=>insZ_le (sortZ_le (l:=r))
theorem le_perm_eq:∀ {l m:List Int},l.Pairwise (·≤·)→m.Pairwise (·≤·)→l.Perm m→l=m
  | [],m,_,_,p=>(List.Perm.nil_eq p)
  | a::l,m,h,h',p=>by
    cases m with
    | nil=>exact absurd p.length_eq (by simp)
    | cons b m =>
      obtain ⟨h1,h2⟩:=List.pairwise_cons.mp h
      obtain ⟨h3,h4⟩:=List.pairwise_cons.mp h'
      have hab:a=b:=by
        have x1:a∈b::m:=p.mem_iff.mp (.head _)
        have x2:b∈a::l:=p.mem_iff.mpr (.head _)
        cases x1 with
        | head=>rfl
        | tail _ x1 =>
          cases x2 with
          | head=>rfl
          | tail _ x2=>have:=h3 a x1;have:=h1 b x2;omega
      subst hab
      rw [le_perm_eq h2 h4 p.cons_inv]
theorem sortZ_len (l:List Int):(sortZ l).length=l.length:=sortZ_perm.length_eq
def rSortL:List V→Hp→VK→Prop:=fun xs H Q=>∃ p ns,xs=[.ref p]∧H p=some (.lst (ns.map V.int))∧ns.length < 64∧∀ l,H l=none→Q (.ref l) (upd H l (.lst ((sortZ ns).map V.int)))
noncomputable def oSortL:D→Option R
  | .lst ds=>(intsOf ds).bind fun ns=>if ns.length < 64 then some (.fr ((sortZ ns).map D.int)) else none
  | _=>none
noncomputable def fSortL (f:FD):FE:=fun ω=>(f ω).bind oSortL
section
variable {X:Cx}
theorem call_sortL:CallR X (.builtin "sorted") rSortL:=by
  intro pins s σ H xs us Q I r h
  obtain ⟨p,ns,rfl,hp,hz,q⟩:=h
  obtain ⟨u,rfl,rx⟩:=vals1 r
  cases rx
  obtain ⟨its,n,rv,e,_⟩:=I.lst hp
  have hlen:its.length=ns.length:=by rw [←rv.length,List.length_map]
  refine PyProof.Rows.sorted_ints ⟨_,e,rfl,n,rfl⟩ (intsAre_of rv) (by omega) fun out ns' a1 a2 a3=>?_
  obtain ⟨m,hm⟩:=PyProof.Rows.sortedAll_at s.heap its out
  have en:ns'=sortZ ns:=le_perm_eq a3 sortZ_le (a2.trans sortZ_perm.symm)
  subst en
  have hsl:(sortZ ns).length≤sizeLine:=by rw [sortZ_len];exact Nat.le_trans (Nat.le_of_lt hz) (by decide)
  have I2:=I.laid (a:=s.heap.objs.size+1) (o:=.lst ((sortZ ns).map V.int)) (t':=s.toks) (fun b o e=>PyProof.Rows.sortedAll_old e) (Nat.le_succ _)
    (show ObjOk X.prog X.w _ (PyProof.Rows.sortedAll s.heap its out) _ (.lst _) from ⟨by rw [List.length_map];exact hsl,out.toList,m,vals_ints a1,by rw [Array.toArray_toList];exact hm⟩)
  exact ⟨.ref _,_,I2,rfl,q _ (I.hok.fresh (Nat.le_succ _))⟩
theorem xe_sort {a:Expr} {f:FD} {p q:Pos} (hg:Gl X "sorted") (hm:X.mg "sorted" = none) (ha:XV X a f)
    (he:starEach [a] X.env=(false,eval a X.env)::starEach [] X.env:=by rfl) (hpl:(backTo q (starEach [] X.env)).any (·.1)=false:=by rfl):XE X (.Call (.Name "sorted" p) [a] [] q) (fSortL f):=by
  obtain ⟨t,h1,h2⟩:=ha
  refine ⟨_,pe_callB call_sortL hg hm bt_sorted (pa_cons h1 pa_nil he) (by decide) (by decide) he hpl,fun G0 H0 G ω σ H r Q o e k=>?_⟩
  obtain ⟨d,z,e⟩:=bnd e
  refine h2 G0 H0 G ω σ H d _ o z fun v G1 H1 x1 y1=>?_
  cases d with
  | lst ds =>
    obtain ⟨ns,e1,e2⟩:=bnd (show (intsOf ds).bind _=some r from e)
    have hds:=intsOf_of e1
    subst hds
    by_cases hz:ns.length < 64
    · rw [if_pos hz] at e2
      cases e2
      obtain ⟨p,vs,rfl,g1,g2⟩:=y1.lst x1.gh
      have hv:=g2.of_ints
      subst hv
      refine ⟨p,ns,rfl,g1,hz,fun l hl=>?_⟩
      have x2:=Ext.hide x1.gh hl (.lst ((sortZ ns).map V.int))
      exact k _ G1 _ (x1.trans x2) ⟨l,_,rfl,x1.hh.free hl,x1.gh.free hl,upd_same,Reps.ints _⟩
    · rw [if_neg hz] at e2;cases e2
  | _=>cases e
end
end Hk
set_option maxRecDepth 100000
namespace Hk
open PySem PySem.Spec PyProof.Rows
theorem nolenRev:typeLookup (.type "list_reverseiterator") "__len__" = pure none:=by rw [typeLookup_type,builtinLookup_eq_fast];kernel_rfl
theorem hintRev:typeLookup (.type "list_reverseiterator") "__length_hint__" = pure (some (.builtin "list_reverseiterator.__length_hint__")):=by rw [typeLookup_type,builtinLookup_eq_fast];kernel_rfl
section
variable {prog:Program} {w:World} {A:Around} {E:Value→Shared→Prop} {s:Shared}
theorem hint_rev {r:Addr} {Q:Bool→Shared→Prop} (hT:s.TypeIs (.ref r) "list_reverseiterator") (h:Q false s):wpAny (model prog w) A (Builtin.List.listLengthHint (.ref r)) Q E s:=by
  unfold Builtin.List.listLengthHint
  refine wpAny_bind (wpAny_specialOf hT nolenRev ?_)
  show wpAny _ A (specialOf (Value.ref r) (Str.ofString "__length_hint__") >>= _) _ _ _
  refine wpAny_bind (wpAny_specialOf hT hintRev ?_)
  generalize hid:("list_reverseiterator.__length_hint__" : String)=id0
  wp_delta
  rw [show splitId id0=some ("list_reverseiterator", "__length_hint__") from by subst hid;decide +kernel]
  subst hid
  refine wpAny_bind (wpAny_isInstance (T := "list_reverseiterator") (b:=true) hT (by rw [isSubtype_type];kernel_rfl) ?_)
  refine wpAny_ite_split (fun hab=>absurd hab (by decide)) (fun _=>?_)
  refine wpAny_ite_split (fun _=>?_) (fun hab=>absurd (by decide +kernel) hab)
  refine wpAny_ite_split (fun hab=>absurd hab (by decide +kernel)) (fun _=>?_)
  exact wpAny_pure h
theorem extend_rev {R:Result→Shared→Prop} {S I l:Addr} {items:Array Value} {res:Value} {c₀:Nat} (hh:A.handled=none) (hn:items.size≤sizeLine) (hSI:S≠I) (hSl:S≠l) (hne:l≠I) (hit:s.heap.IsRevIter I l ((items.size:Int) - 1)) (hl:s.heap.IsList l items)
    (hS:lstAt s.heap S #[] c₀) (hR:∀ (h':Heap) (tk:Nat) (c:Nat),(∀ b o,b≠S→b≠I→s.heap.get? b=some o→h'.get? b=some o)→lstAt h' S items.reverse c→R (.ok (.ret res)) { s with heap:=h',toks:=tk }) :
    wpAny (model prog w) A.in1 (Builtin.List.listExtendWith (.ref S) (.ref I) res)
      (fun fin s'=>match fin with|.done f=>R (.ok f) s'|.again c'=>c'.quiet=true∧codeAny (model prog w) A c' R s') (fun e s'=>R (.error e) s') s:=by
  have W:=Walks.listRev (prog:=prog) (w:=w) (A:=A.in1) hh I l hne items
  have hT:=hit.typeIs
  have hSf:S∉[I,l]:=by simp [hSI,hSl]
  unfold Builtin.List.listExtendWith
  refine wpAny_bind (wpAny_typeOf (T := "list_reverseiterator") hT ?_)
  rw [show Builtin.List.listSameRef (.ref S) (.ref I)=false by simp [Builtin.List.listSameRef,hSI],show (Value.type "list_reverseiterator" == Value.type "list")=false by decide,show (Value.type "list_reverseiterator" == Value.type "tuple")=false by decide]
  refine wpAny_ite_split (fun hab=>absurd hab (by decide)) (fun _=>?_)
  refine wpAny_bind (wpAny_pyIter_revIter hit ?_)
  refine wpAny_bind (wpAny_holding (hint_rev hT ?_))
  refine wpAny_ite_split (fun hab=>absurd hab (by decide)) (fun _=>?_)
  have st:0≤items.size∧s.heap.IsRevIter I l ((items.size:Int) - 1 - ((0:Nat):Int))∧s.heap.IsList l items:=⟨Nat.zero_le _,by simpa using hit,hl⟩
  refine wpAny_pure ⟨plainId_quiet PySem.F.plain_extend_loop _,codeAny_extend_loopS W.toS hn S hSf res items.size 0 _ #[] c₀ rfl (Nat.zero_le _) st hS (ItemsOf.nil _) fun s' acc' c' hm hS' hacc=>?_⟩
  rw [Moved.eq_with hm]
  have e:acc'=items.reverse:=by
    apply Array.ext_getElem?
    intro j
    rcases Nat.lt_or_ge j items.size with z|z
    · have hz:j < acc'.size:=by rw [hacc.1];exact z
      have q:acc'[j]?=some acc'[j]:=Array.getElem?_eq_getElem hz
      rw [q,Array.getElem?_reverse z]
      exact (hacc.2 j _ q).symm
    · rw [Array.getElem?_eq_none (by rw [hacc.1];exact z),Array.getElem?_eq_none (by rw [Array.size_reverse];exact z)]
  subst e
  exact hR s'.heap s'.toks c' (fun b o b1 b2 e=>hm.heap b o (by simp [b1,b2]) e) hS'
theorem list_rev {l:Addr} {items:Array Value} {Q:Value→Shared→Prop} (hh:A.handled=none) (hn:items.size≤sizeLine) (hl:s.heap.IsList l items)
    (hQ:∀ (h':Heap) (tk:Nat) (S:Addr) (c:Nat),s.heap.objs.size≤S→(∀ b o,s.heap.get? b=some o→h'.get? b=some o)→lstAt h' S items.reverse c→Q (.ref S) { s with heap:=h',toks:=tk }) :
    wpAny (model prog w) A (call (.type "list") [.ref s.heap.objs.size]) Q E { s with heap:=s.heap.push (revObj l ((items.size:Int) - 1)) }:=by
  have hll:l < s.heap.objs.size:=by obtain ⟨_,e,_⟩:=hl;exact Heap.lt_size e
  have gI:(s.heap.push (revObj l ((items.size:Int) - 1))).get? s.heap.objs.size=some (revObj l ((items.size:Int) - 1)):=Heap.get?_push_size _ rfl
  have k1:∀ b o,s.heap.get? b=some o→(s.heap.push (revObj l ((items.size:Int) - 1))).get? b=some o:=fun b o e=>Heap.get?_push_of_some _ e
  generalize hI:s.heap.objs.size=I at *
  generalize hp:s.heap.push (revObj l ((items.size:Int) - 1))=h1 at *
  have hI1:I < h1.objs.size:=Heap.lt_size gI
  have hS:(h1.push { cls:=.type "list", data:=.seq #[] }).get? h1.objs.size=some { cls:=.type "list", data:=.seq #[] }:=Heap.get?_push_size _ rfl
  refine callType_codes (s:={ s with heap:=h1 }) (Q₁:=fun obj s₁=>obj=.ref h1.objs.size∧s₁={ s with heap:=h1.push { cls:=.type "list", data:=.seq #[] } }) PySem.F.called_list (PySem.F.typeCall_list_1 _) PySem.F.entry_list_init
    (code_list_new _ ⟨rfl,rfl⟩) fun obj s₁ z=>?_
  obtain ⟨rfl,rfl⟩:=z
  refine ⟨⟨_,hS,rfl⟩,PySem.F.args_list_init_2 _ _,?_⟩
  generalize hS0:h1.objs.size=S at *
  show wpAny _ _ (do let old ←Builtin.List.listItems (.ref S);Builtin.List.listUpdate (.ref S) (fun _=>#[]);letGo old.toList.reverse;Builtin.List.listExtendWith (.ref S) (.ref I) .none) _ _ _
  apply wpAny_bind
  unfold Builtin.List.listItems
  refine wpAny_bind (wpAny_seqItems hS rfl (wpAny_pure ?_))
  show wpAny _ _ (updateSeq S (fun _=>#[]) >>= fun _=>letGo (#[]:Array Value).toList.reverse >>= fun _=>Builtin.List.listExtendWith (.ref S) (.ref I) .none) _ _ _
  refine wpAny_bind (wpAny_updateSeq hS rfl ?_)
  have hS2:=get?_update_seq hS (fun _=>(#[]:Array Value))
  have oth:∀ b o,b≠S→h1.get? b=some o→((h1.push { cls:=.type "list", data:=.seq #[] }).update S (Obj.mapSeq (fun _=>(#[]:Array Value)))).get? b=some o :=
    fun b o hb e=>(Heap.get?_update_other _ _ (Ne.symm hb)).trans (Heap.get?_push_of_some _ e)
  refine wpAny_bind (wpAny_letGo ?_)
  have n1:S≠I:=by simp only [Addr] at *;omega
  have n2:S≠l:=by simp only [Addr] at *;omega
  have n3:l≠I:=by simp only [Addr] at *;omega
  refine extend_rev (A:=A.in1) (items:=items) (I:=I) (l:=l) hh hn n1 n2 n3 ⟨_,oth _ _ (Ne.symm n1) gI,rfl,rfl⟩ (hl.at fun o e=>oth l o (Ne.symm n2) (k1 l o e)) hS2 fun h' tk c kp e=>?_
  refine ⟨rfl,hQ h' tk S c (by simp only [Addr] at *;omega) (fun b o z=>?_) e⟩
  have hb:b < I:=hI▸Heap.lt_size z
  exact kp b o (by simp only [Addr] at *;omega) (by simp only [Addr] at *;omega) (oth b o (by simp only [Addr] at *;omega) (k1 b o z))
end
open L2
def rLR:List V→Hp→VK→Prop:=fun vs H Q=>∃ p xs,vs=[.ref p]∧H p=some (.lst xs)∧∀ S,H S=none→Q (.ref S) (upd H S (.lst xs.reverse))
section
variable {X:Cx}
theorem pe_listrev {a:Expr} {t:TA} {p1 p2 q1 q2:Pos} (hg1:Gl X "list") (hm1:X.mg "list" = none) (hg2:Gl X "reversed") (hm2:X.mg "reversed" = none) (ha:PA X [a] t) (hc:X.calm=true)
    (he1:starEach [a] X.env=(false,eval a X.env)::starEach [] X.env) (hpl1:(backTo q2 (starEach [] X.env)).any (·.1)=false)
    (he2:starEach [.Call (.Name "reversed" p2) [a] [] q2] X.env=(false,eval (.Call (.Name "reversed" p2) [a] [] q2) X.env)::starEach [] X.env) (hpl2:(backTo q1 (starEach [] X.env)).any (·.1)=false) :
    PE X (.Call (.Name "list" p1) [.Call (.Name "reversed" p2) [a] [] q2] [] q1) (tCB rLR t):=by
  intro pins s σ H Q I h
  refine wpAny_Call_Name_kw (ld_blt I hg1 hm1 bt_list ?_ (by decide) (by decide))
  refine PyProof.Rows.callWith_type1 ?_ he2 hpl2
  rw [he2]
  show wpAny _ _ (spliced ((false,eval _ X.env)::backTo q1 (starEach [] X.env))) _ _ s
  refine Calls.spliced_cons ?_
  refine wpAny_Call_Name_kw (ld_blt I hg2 hm2 PyProof.Rows.boot_reversed ?_ (by decide) (by decide))
  refine PyProof.Rows.callWith_type1 (thn (ha q2 pins s σ H _ I h) fun us s1 ⟨vs,H1,I1,r1,z1⟩=>?_) he1 hpl1
  obtain ⟨p,xs,rfl,hp,k⟩:=z1
  obtain ⟨u,rfl,e1⟩:=vals1 r1
  cases e1
  obtain ⟨its,n,rv,g1,sz⟩:=I1.lst hp
  have il:s1.heap.IsList p its.toArray:=⟨_,g1,rfl,n,rfl⟩
  refine call_reversed_list il (Calls.spliced_nil ?_)
  refine list_rev (I1.ok.hd hc) (by rw [List.size_toArray,←rv.length];exact sz) il fun h2 tk S c b1 b2 b3=>?_
  refine ⟨.ref S,_,I1.laid (t':=tk) b2 b1 (show ObjOk X.prog X.w _ h2 S (.lst xs.reverse) from ⟨by rw [List.length_reverse];exact sz,its.reverse,c,rv.reverse,by rw [b3];simp⟩),rfl,k S (I1.hok.fresh b1)⟩
noncomputable def oRev:D→Option R
  | .lst ds=>some (.fr ds.reverse)
  | _=>none
noncomputable def fRev (f:FD):FE:=fun ω=>(f ω).bind oRev
theorem xe_listrev {a:Expr} {f:FD} {p1 p2 q1 q2:Pos} (hg1:Gl X "list") (hm1:X.mg "list" = none) (hg2:Gl X "reversed") (hm2:X.mg "reversed" = none) (ha:XV X a f) (hc:X.calm=true:=by rfl)
    (he1:starEach [a] X.env=(false,eval a X.env)::starEach [] X.env:=by rfl) (hpl1:(backTo q2 (starEach [] X.env)).any (·.1)=false:=by rfl)
    (he2:starEach [.Call (.Name "reversed" p2) [a] [] q2] X.env=(false,eval (.Call (.Name "reversed" p2) [a] [] q2) X.env)::starEach [] X.env:=by rfl) (hpl2:(backTo q1 (starEach [] X.env)).any (·.1)=false:=by rfl) :
    XE X (.Call (.Name "list" p1) [.Call (.Name "reversed" p2) [a] [] q2] [] q1) (fRev f):=by
  obtain ⟨t,h1,h2⟩:=ha
  refine ⟨_,pe_listrev hg1 hm1 hg2 hm2 (pa_cons h1 pa_nil he1) hc he1 hpl1 he2 hpl2,fun G0 H0 G ω σ H r Q o e k=>?_⟩
  obtain ⟨d,q,e⟩:=bnd e
  refine h2 G0 H0 G ω σ H d _ o q fun v G1 H1 x1 y1=>?_
  cases d with
  | lst ds =>
    cases e
    obtain ⟨p,vs,rfl,g1,g2⟩:=y1.lst x1.gh
    refine ⟨p,vs,rfl,g1,fun S hS=>?_⟩
    have x2:=Ext.hide x1.gh hS (.lst vs.reverse)
    exact k _ G1 _ (x1.trans x2) ⟨S,_,rfl,x1.hh.free hS,x1.gh.free hS,upd_same,g2.rev⟩
  | _=>cases e
end
end Hk
set_option maxRecDepth 100000
namespace L2
open PySem PySem.Spec PyProof.Rows
theorem Inv.turnedL {X:Cx} {pins:List (Addr×Obj)} {σ:List (Option V)} {H:Hp} {s:Shared} {h':Heap} {t':Nat} {fp:List Addr} (I:Inv X pins σ H s) (k:∀ b o,b∉fp→s.heap.get? b=some o→h'.get? b=some o) (hf:∀ b∈fp,FpOk X pins H b) :
    Inv X pins σ H { s with heap:=h',toks:=t' }:=by
  have nit:∀ b u,H b=some u→b∉fp:=fun b u e z=>by have:=(hf b z).1;rw [e] at this;cases this
  refine I.step (g':=s.gens) (d':=s.drawn) (ch:=fp) (fun b hb=>?_) (fun b o _ _ hc e _=>k b o hc e) (fun b o _ _ hc e _=>⟨o.slots,k b o hc e⟩) (fun _ _ _ _ n=>n)
    (fun b o hc e=>⟨o,k b o hc e⟩) (fun _ _ e=>e) (fun _ _ _ e=>e) (fun b ps e=>⟨#[],by rw [e];simp⟩) (fun m hm=>?_) (fun b u e=>?_) I.bare
  · obtain ⟨f0,f1,f2,f3,f4,f5⟩:=hf b hb
    exact ⟨f3,f1,f4,f5⟩
  · obtain ⟨o,es,ep,ho,r⟩:=hm
    exact ⟨o,es,ep,k _ o (fun z=>(hf _ z).2.1 rfl) ho,r⟩
  · refine (I.hok b u e).stay (fun c v hc q=>k c v ?_ q) (fun _ q=>q) fun _ _ q=>q
    rcases hc with z|z
    · rw [z];exact nit b u e
    · exact nit c _ z
noncomputable def Itz (K:PySem.W.Frag) (a b:Addr):It :=
  ⟨fun i H=>∃ xs ys x y,SqL K H a xs∧SqL K H b ys∧xs[i]?=some x∧ys[i]?=some y,
   fun i H x H'=>∃ t x1 y1,H t=none∧x=.ref t∧H'=upd H t (.tup [x1,y1])∧∀ xs ys,SqL K H a xs→SqL K H b ys→xs[i]?=some x1∧ys[i]?=some y1,
   fun i H=>∃ xs ys,SqL K H a xs∧SqL K H b ys∧(xs[i]?=none∨ys[i]?=none)⟩
theorem turn_zip {P:Program} {w:World} {K:PySem.W.Frag} {elts:List Expr} {kx} {tpos:Pos} (a b z TI TO i1 i2:Addr) (D:ZipApart z TI TO i1 i2 a b) :
    Turn P w K (.Tuple elts kx tpos) (Itz K a b) [z,TI,TO,i1,i2] z (fun i h=>IsZip h z TI TO .none∧IsPair h TI (.ref i1) (.ref i2)∧(∃ x y,IsPair h TO x y)∧h.IsListIter i1 a i∧h.IsListIter i2 b i) where
  mem:=by simp
  obj:=fun i h st c hc=>by
    obtain ⟨s1,s2,⟨_,_,s3⟩,⟨o4,e4,c4,d4⟩,⟨o5,e5,c5,d5⟩⟩:=st
    simp only [List.mem_cons,List.not_mem_nil,or_false] at hc
    rcases hc with rfl|rfl|rfl|rfl|rfl
    · exact ⟨_,s1,fun v y=>by cases (show Data.fields _=Data.cell v from y)⟩
    · exact ⟨_,s2,fun v y=>by cases (show Data.seq _ _=Data.cell v from y)⟩
    · exact ⟨_,s3,fun v y=>by cases (show Data.seq _ _=Data.cell v from y)⟩
    · exact ⟨_,e4,fun v y=>by rw [d4] at y;cases y⟩
    · exact ⟨_,e5,fun v y=>by rw [d5] at y;cases y⟩
  keep:=fun i h h' st k=>by
    obtain ⟨s1,s2,⟨x,y,s3⟩,s4,s5⟩:=st
    exact ⟨k _ (by simp) _ s1,k _ (by simp) _ s2,⟨x,y,k _ (by simp) _ s3⟩,s4.at fun o e=>k _ (by simp) o e,s5.at fun o e=>k _ (by simp) o e⟩
  item:=by
    intro X hP hw hK hc i pins s σ H E I hf st hg
    subst hP hw hK
    obtain ⟨xs,ys,x,y,hq1,hq2,hx,hy⟩:=hg
    obtain ⟨its1,rv1,p1,hz1⟩:=I.list hq1
    obtain ⟨its2,rv2,p2,hz2⟩:=I.list hq2
    obtain ⟨u1,hu1,ru1⟩:=rv1.get hx
    obtain ⟨u2,hu2,ru2⟩:=rv2.get hy
    obtain ⟨s1,s2,⟨_,_,s3⟩,s4,s5⟩:=st
    have ex:∀ c∈[z,TI,TO,i1,i2],∃ o,s.heap.get? c=some o:=fun c hc=>by
      simp only [List.mem_cons,List.not_mem_nil,or_false] at hc
      rcases hc with rfl|rfl|rfl|rfl|rfl
      · exact ⟨_,s1⟩
      · exact ⟨_,s2⟩
      · exact ⟨_,s3⟩
      · obtain ⟨o,e,_⟩:=s4;exact ⟨o,e⟩
      · obtain ⟨o,e,_⟩:=s5;exact ⟨o,e⟩
    have nt:∀ c∈[z,TI,TO,i1,i2],c≠s.heap.objs.size:=fun c hc=>by
      obtain ⟨o,e⟩:=ex c hc
      exact Nat.ne_of_lt (Heap.lt_size e)
    refine wpAny_pyNext_zip_item D s1 s2 s3 s4 s5 p1.isList p2.isList (x:=u1) (y:=u2) (by simpa using hu1) (by simpa using hu2) fun h' a1 a2 a3 a4 a5 a6 hk=>?_
    have hn:H s.heap.objs.size=none:=I.hok.fresh (Nat.le_refl _)
    have I1:Inv X pins σ (upd H s.heap.objs.size (.tup [x,y])) { s with heap:=s.heap.push { cls:=.type "tuple", data:=.seq #[u1,u2] },toks:=s.toks } :=
      I.laid (fun b o e=>Heap.get?_push_of_some _ e) (Nat.le_refl _) (show ObjOk X.prog X.w _ _ _ (.tup [x,y]) from ⟨by show 2≤sizeLine;decide,[u1,u2],.cons ru1 (.cons ru2 .nil),⟨_,Heap.get?_push_size _ rfl,rfl,_,rfl⟩⟩)
    have hf':∀ c∈[z,TI,TO,i1,i2],FpOk X pins (upd H s.heap.objs.size (.tup [x,y])) c:=fun c hc=>by
      obtain ⟨f0,f⟩:=hf c hc
      exact ⟨by rw [upd_ne (nt c hc)];exact f0,f⟩
    have I2:Inv X pins σ (upd H s.heap.objs.size (.tup [x,y])) { s with heap:=h',toks:=s.toks }:=I1.turnedL (fun b o hb e=>by
      simp only [List.mem_cons,List.not_mem_nil,or_false,not_or] at hb
      by_cases q:b=s.heap.objs.size
      · subst q
        rw [Heap.get?_push_size _ rfl] at e
        cases e
        exact a5
      · have e':s.heap.get? b=some o:=by
          rcases Nat.lt_or_ge b s.heap.objs.size with l|l
          · obtain ⟨z1,z2⟩:=Heap.get?_some_iff.mp e
            refine Heap.get?_some_iff.mpr ⟨?_,z2⟩
            rw [←z1]
            show s.heap.objs[b]?=(s.heap.objs.push _)[b]?
            rw [Array.getElem?_push,if_neg q]
          · have:=Heap.lt_size e
            rw [Heap.size_push] at this
            exact absurd (by simp only [Addr] at *;omega) q
        exact hk b o hb.1 hb.2.2.1 hb.2.2.2.1 hb.2.2.2.2 e') hf'
    refine ⟨_,rfl,wpAny_letOwnedTupleGo_zip a1 fun h2 b1 sb=>?_⟩
    have I3:Inv X pins σ (upd H s.heap.objs.size (.tup [x,y])) { s with heap:=h2,toks:=s.toks }:=I2.turnedL (fun b o hb e=>(sb.2 b (fun q=>hb (by simp [q]))).trans e) hf'
    refine ⟨.ref s.heap.objs.size,_,I3,rfl,⟨_,x,y,hn,rfl,rfl,fun xs' ys' q1 q2=>⟨by rw [I.list_inj q1 hq1];exact hx,by rw [I.list_inj q2 hq2];exact hy⟩⟩,⟨b1,?_,⟨u1,u2,sb.extBut _ _ D.TOz a2⟩,a3.extBut sb.extBut D.i1z,a4.extBut sb.extBut D.i2z⟩,fun c hc=>(hf' c hc).1⟩
    exact sb.extBut _ _ D.TIz (hk _ _ D.TIz D.TITO D.TIi1 D.TIi2 s2)
  done:=by
    intro X hP hw hK hc i pins s σ H E I hf st hg
    subst hP hw hK
    obtain ⟨xs,ys,hq1,hq2,hx⟩:=hg
    obtain ⟨its1,rv1,p1,hz1⟩:=I.list hq1
    obtain ⟨its2,rv2,p2,hz2⟩:=I.list hq2
    obtain ⟨s1,s2,⟨_,_,s3⟩,s4,s5⟩:=st
    have l1:=rv1.length
    have l2:=rv2.length
    refine wpAny_pyNext_zip_end (I.ok.hd hc) D s1 s2 s3 s4 s5 p1.isList p2.isList ?_ fun h' hk=>⟨rfl,I.turnedL (t':=s.toks) (fun b o hb e=>?_) hf⟩
    · rcases hx with hx|hx
      · exact .inl (by rw [List.getElem?_eq_none_iff] at hx;simp;omega)
      · exact .inr (by rw [List.getElem?_eq_none_iff] at hx;simp;omega)
    · simp only [List.mem_cons,List.not_mem_nil,or_false,not_or] at hb
      exact hk b o hb.1 hb.2.2.1 hb.2.2.2.1 hb.2.2.2.2 e
  self:=fun _ _ _ _ _ st h=>wpAny_pyIter_zip st.1 h
noncomputable def iZip (K:PySem.W.Frag) (ta:TA):TI:=fun σ H R=>ta σ H fun vs H1=>∃ a b xs ys,vs=[.ref a,.ref b]∧SqL K H1 a xs∧SqL K H1 b ys∧R (Itz K a b) H1
theorem pi_zip {X:Cx} {a b:Expr} {ta:TA} {p pos tpos:Pos} {elts:List Expr} {kx} (hg:Gl X "zip") (hm:X.mg "zip" = none) (ha:PA X [a,b] ta) (hs:starEach [a,b] X.env=[(false,eval a X.env),(false,eval b X.env)]:=by rfl) (hs2:starEach [b] X.env=[(false,eval b X.env)]:=by rfl) :
    PI X (.Tuple elts kx tpos) (.Call (.Name "zip" p) [a,b] [] pos) (iZip X.K ta):=by
  intro pins s σ H R I h
  refine Call_ (ld_blt I hg hm PyProof.Rows.boot_zip (PyProof.Rows.callWith_type1 (thn (ha pos pins s σ H _ I h) fun us s1 ⟨vs,H1,I1,r1,q1⟩=>?_) (by rw [hs,hs2]) (by rw [hs2];rfl)))
  obtain ⟨l1,l2,xs,ys,e,hq1,hq2,q⟩:=q1
  subst e
  cases r1 with
  | cons r rr =>
    cases rr with
    | cons r' rr =>
      cases rr
      cases r
      cases r'
      obtain ⟨its1,rv1,p1,hz1⟩:=I1.list hq1
      obtain ⟨its2,rv2,p2,hz2⟩:=I1.list hq2
      have e1:l1 < s1.heap.objs.size:=by obtain ⟨_,_,e,_⟩:=p1;exact Heap.lt_size e
      have e2:l2 < s1.heap.objs.size:=by obtain ⟨_,_,e,_⟩:=p2;exact Heap.lt_size e
      refine call_zip_2 p1.isList p2.isList fun h' a1 a2 a3 a4 a5 a6 hk=>?_
      refine wpAny_pyIter_zip a1 ?_
      have D:ZipApart (s1.heap.objs.size+4) (s1.heap.objs.size+2) (s1.heap.objs.size+3) s1.heap.objs.size (s1.heap.objs.size+1) l1 l2:=by
        generalize s1.heap.objs.size=n at *
        constructor <;> (intro q;simp only [Addr] at *;omega)
      refine ⟨s1.heap.objs.size+4,[s1.heap.objs.size+4,s1.heap.objs.size+2,s1.heap.objs.size+3,s1.heap.objs.size,s1.heap.objs.size+1],_,_,H1,rfl,I1.kept (t':=s1.toks) hk,turn_zip l1 l2 _ _ _ _ _ D,⟨a1,a2,⟨_,_,a3⟩,a4,a5⟩,fun c hc=>?_,q⟩
      have hle:s1.heap.objs.size≤c:=by
        simp only [List.mem_cons,List.not_mem_nil,or_false] at hc
        simp only [Addr] at *
        omega
      have I2:=I1.kept (t':=s1.toks) hk
      exact I1.fpOk hle (I1.hok.fresh hle)
end L2
namespace Hk
open PySem L2
noncomputable def tupL:List D→List D→List D
  | a::as,b::bs=>.tup [a,b]::tupL as bs
  | _,_=>[]
theorem tupL_len:∀ (as bs:List D),(tupL as bs).length=min as.length bs.length
  | a::as,b::bs=>by show (tupL as bs).length+1=_;rw [tupL_len as bs,List.length_cons,List.length_cons];omega
  | [],bs=>by cases bs <;> simp [tupL]
  | a::as,[]=>by simp [tupL]
theorem tupL_get:∀ (as bs:List D) (i:Nat) (d:D),(tupL as bs)[i]?=some d→∃ a b,as[i]?=some a∧bs[i]?=some b∧d=.tup [a,b]
  | a::as,b::bs,0,d,h=>by cases h;exact ⟨a,b,rfl,rfl,rfl⟩
  | a::as,b::bs,i+1,d,h=>tupL_get as bs i d h
  | [],bs,i,d,h=>by cases bs <;> cases h
  | a::as,[],i,d,h=>by cases h
theorem iter_zip {K:PySem.W.Frag} {G:Hp} {a b:Addr} {ds es:List D} {vs us:List V} (h1:G a=some (.lst vs)) (h2:Reps K G ds vs) (h3:G b=some (.lst us)) (h4:Reps K G es us):IterOf K (Itz K a b) G (tupL ds es):=by
  have l1:=h2.len
  have l2:=h4.len
  refine ⟨fun H i s hi=>?_,fun G2 H i x H' d s0 s1 hd hy=>?_,fun H s=>⟨vs,us,SqL.of (s _ _ h1),SqL.of (s _ _ h3),?_⟩⟩
  · rw [tupL_len] at hi
    exact ⟨vs,us,vs[i]'(by omega),us[i]'(by omega),SqL.of (s _ _ h1),SqL.of (s _ _ h3),List.getElem?_eq_getElem _,List.getElem?_eq_getElem _⟩
  · obtain ⟨t,x1,y1,ht,rfl,rfl,y⟩:=hy
    obtain ⟨e1,e2⟩:=y vs us (SqL.of (s1 _ _ (s0 _ _ h1))) (SqL.of (s1 _ _ (s0 _ _ h3)))
    obtain ⟨p,q,f1,f2,rfl⟩:=tupL_get ds es i d hd
    obtain ⟨v,q1,q2⟩:=h2.get f1
    obtain ⟨u,q3,q4⟩:=h4.get f2
    rw [e1] at q1
    cases q1
    rw [e2] at q3
    cases q3
    have x2:=Ext.lay s1 ht (.tup [x1,y1])
    exact ⟨_,x2,⟨t,_,rfl,upd_same,Reps.cons (q2.mono (s0.trans x2.gg)) (Reps.cons (q4.mono (s0.trans x2.gg)) Reps.nil)⟩⟩
  · rw [tupL_len]
    rcases Nat.le_total ds.length es.length with h|h
    · exact .inl (List.getElem?_eq_none (by omega))
    · exact .inr (List.getElem?_eq_none (by omega))
noncomputable def iZp (g:FA):FI:=fun ω=>(g ω).bind fun ds=>match ds with
  | [.lst a,.lst b]=>some (tupL a b)
  | _=>none
theorem xi_zip {X:Cx} {a b:Expr} {g:FA} {p pos tpos:Pos} {elts:List Expr} {kx} (hg:Gl X "zip") (hm:X.mg "zip" = none) (ha:XA X [a,b] g) (hs:starEach [a,b] X.env=[(false,eval a X.env),(false,eval b X.env)]:=by rfl) (hs2:starEach [b] X.env=[(false,eval b X.env)]:=by rfl) :
    XI X (.Tuple elts kx tpos) (.Call (.Name "zip" p) [a,b] [] pos) (iZp g):=by
  obtain ⟨⟨t,h1,h2⟩,_⟩:=ha
  refine ⟨_,pi_zip hg hm h1 hs hs2,fun G0 H0 G ω σ H ds R o e k=>?_⟩
  obtain ⟨vs,q,e⟩:=bnd e
  refine h2 G0 H0 G ω σ H vs _ o q fun us G1 H1 x1 y1=>?_
  match vs,e with
  | [.lst as,.lst bs],e =>
    cases e
    obtain ⟨v1,r1,rfl,z1,z2⟩:=y1
    obtain ⟨v2,r2,rfl,z3,z4⟩:=z2
    cases (show r2=[] from z4)
    obtain ⟨a1,ws1,rfl,f1,f2⟩:=z1
    obtain ⟨a2,ws2,rfl,f3,f4⟩:=z3
    exact ⟨a1,a2,ws1,ws2,rfl,SqL.of (x1.gh _ _ f1),SqL.of (x1.gh _ _ f3),k _ G1 H1 x1 (iter_zip f1 f2 f3 f4)⟩
noncomputable def rngZ (lo:Int) (n:Nat):List Int:=(List.range n).map fun (i:Nat)=>lo+(i:Int)
theorem rngZ_len (lo:Int) (n:Nat):(rngZ lo n).length=n:=by unfold rngZ;rw [List.length_map,List.length_range]
theorem vals_of:∀ (vs:List V) (us:List Value),vs.length=us.length→(∀ (j:Nat) v u,vs[j]?=some v→us[j]?=some u→RelV v u)→Vals vs us
  | [],[],_,_=>.nil
  | [],_::_,h,_=>by simp at h
  | _::_,[],h,_=>by simp at h
  | v::vs,u::us,h,f=>.cons (f 0 v u rfl rfl) (vals_of vs us (by simpa using h) fun j a b e1 e2=>f (j+1) a b (by simpa using e1) (by simpa using e2))
def rLG (lo:List V→Option (Int×Int)):List V→Hp→VK→Prop:=fun vs H Q=>∃ i j:Int,lo vs=some (i,j)∧(-(2 ^ 62)≤i∧i < 2 ^ 62)∧(-(2 ^ 62)≤j∧j < 2 ^ 62)∧(j - i).toNat≤1000000∧∀ S,H S=none→Q (.ref S) (upd H S (.lst ((rngZ i (j - i).toNat).map V.int)))
noncomputable def lo1:List V→Option (Int×Int)
  | [.int j]=>some (0,j)
  | _=>none
section
open PySem.Spec PyProof.Rows
variable {X:Cx}
theorem list_rng {pins:List (Addr×Obj)} {σ:L2.St} {H:Hp} {s:Shared} {Q:VK} {E:Value→Shared→Prop} {lo hi:Int} {t u v:Tok} {tk:Nat} (I:Inv X pins σ H s) (hc:X.calm=true) (h1:-(2 ^ 62)≤lo∧lo < 2 ^ 62) (h2:-(2 ^ 62)≤hi∧hi < 2 ^ 62) (h3:(hi - lo).toNat≤1000000)
    (q:∀ S,H S=none→Q (.ref S) (upd H S (.lst ((rngZ lo (hi - lo).toNat).map V.int)))) :
    wpAny (model X.prog X.w) X.A (call (.type "list") [.ref s.heap.objs.size]) (EP X pins σ Q) E { s with heap:=s.heap.push { cls:=.type "range", data:=.fields #[.int lo t,.int hi u,.int 1 v] },toks:=tk }:=by
  refine call_list_range (I.ok.hd hc) (IsRange.new ..) (small_one h1.1 h1.2 h2.1 h2.2) (n:=(hi - lo).toNat) (by rw [rangeSize_one];split <;> omega) (by omega) fun h' tk' acc c b1 b2 b3=>?_
  have b1':∀ b o,s.heap.get? b=some o→h'.get? b=some o:=fun b o e=>b1 b o (Heap.get?_push_of_some _ e)
  have hle:s.heap.objs.size≤(s.heap.push { cls:=.type "range", data:=.fields #[.int lo t,.int hi u,.int 1 v] }).objs.size:=by rw [Heap.size_push];omega
  have hv:Vals ((rngZ lo (hi - lo).toNat).map V.int) acc.toList:=by
    refine vals_of _ _ (by rw [List.length_map,rngZ_len,Array.length_toList,b3.1]) fun j x y e1 e2=>?_
    obtain ⟨t',rfl⟩:=b3.2 j y (by simpa using e2)
    have hj:j < (hi - lo).toNat:=by
      have:=(List.getElem?_eq_some_iff.mp e1).1
      rw [List.length_map,rngZ_len] at this
      exact this
    unfold rngZ at e1
    rw [List.map_map,List.getElem?_map,List.getElem?_range hj] at e1
    cases e1
    exact ⟨t',by simp⟩
  refine ⟨.ref _,_,I.laid (t':=tk') b1' hle (show ObjOk X.prog X.w _ h' _ (.lst ((rngZ lo (hi - lo).toNat).map V.int)) from ⟨by rw [List.length_map,rngZ_len,sizeLine_eq];omega,acc.toList,c,hv,by rw [Array.toArray_toList];exact b2⟩),rfl,q _ (I.hok.fresh hle)⟩
theorem pe_listrng1 {a:Expr} {t:TA} {p1 p2 q1 q2:Pos} (hg1:Gl X "list") (hm1:X.mg "list" = none) (hg2:Gl X "range") (hm2:X.mg "range" = none) (ha:PA X [a] t) (hc:X.calm=true)
    (he1:starEach [a] X.env=(false,eval a X.env)::starEach [] X.env) (hpl1:(backTo q2 (starEach [] X.env)).any (·.1)=false)
    (he2:starEach [.Call (.Name "range" p2) [a] [] q2] X.env=(false,eval (.Call (.Name "range" p2) [a] [] q2) X.env)::starEach [] X.env) (hpl2:(backTo q1 (starEach [] X.env)).any (·.1)=false) :
    PE X (.Call (.Name "list" p1) [.Call (.Name "range" p2) [a] [] q2] [] q1) (tCB (rLG lo1) t):=by
  intro pins s σ H Q I h
  refine wpAny_Call_Name_kw (ld_blt I hg1 hm1 bt_list ?_ (by decide) (by decide))
  refine PyProof.Rows.callWith_type1 ?_ he2 hpl2
  rw [he2]
  show wpAny _ _ (spliced ((false,eval _ X.env)::backTo q1 (starEach [] X.env))) _ _ s
  refine Calls.spliced_cons ?_
  refine wpAny_Call_Name_kw (ld_blt I hg2 hm2 boot_range ?_ (by decide) (by decide))
  refine PyProof.Rows.callWith_type1 (thn (ha q2 pins s σ H _ I h) fun us s1 ⟨vs,H1,I1,r1,z1⟩=>?_) he1 hpl1
  obtain ⟨i,j,e,b1,b2,b3,k⟩:=z1
  match vs,e,r1 with
  | [.int j'],e,r1 =>
    cases e
    obtain ⟨u,rfl,e1⟩:=vals1 r1
    obtain ⟨t',rfl⟩:=e1
    exact call_range_1 (Calls.spliced_nil (list_rng I1 hc b1 b2 b3 k))
end
noncomputable def oRngL (i j:Int):Option R:=if ((-(2 ^ 62)≤i∧i < 2 ^ 62)∧-(2 ^ 62)≤j∧j < 2 ^ 62)∧(j - i).toNat≤1000000 then some (.fr ((rngZ i (j - i).toNat).map D.int)) else none
noncomputable def bRng1:List D→Option R
  | [.int j]=>oRngL 0 j
  | _=>none
theorem rng_fin {K:PySem.W.Frag} {G H:Hp} {i j:Int} {r:R} {Q:VK} (s:Same G H) (e:oRngL i j=some r) (k:∀ v G' H',Ext G H G' H'→RepR K H G' H' r v→Q v H') :
    (-(2 ^ 62)≤i∧i < 2 ^ 62)∧(-(2 ^ 62)≤j∧j < 2 ^ 62)∧(j - i).toNat≤1000000∧∀ S,H S=none→Q (.ref S) (upd H S (.lst ((rngZ i (j - i).toNat).map V.int))):=by
  unfold oRngL at e
  by_cases z:((-(2 ^ 62)≤i∧i < 2 ^ 62)∧-(2 ^ 62)≤j∧j < 2 ^ 62)∧(j - i).toNat≤1000000
  · rw [if_pos z] at e
    cases e
    refine ⟨z.1.1,z.1.2,z.2,fun S hS=>?_⟩
    have x2:=Ext.hide s hS (.lst ((rngZ i (j - i).toNat).map V.int))
    exact k _ G _ x2 ⟨S,_,rfl,hS,s.free hS,upd_same,Reps.ints _⟩
  · rw [if_neg z] at e;cases e
theorem cd_rng1 {K:PySem.W.Frag}:CallD K (rLG lo1) bRng1:=by
  intro G H ds vs d Q s e hv k
  match ds,e with
  | [.int j],e =>
    obtain ⟨v,rfl,h⟩:=hv.one
    cases h.int
    obtain ⟨a1,a2,a3,a4⟩:=rng_fin s e k
    exact ⟨0,j,rfl,a1,a2,a3,a4⟩
theorem xe_listrng1 {X:Cx} {a:Expr} {g:FA} {p1 p2 q1 q2:Pos} (hg1:Gl X "list") (hm1:X.mg "list" = none) (hg2:Gl X "range") (hm2:X.mg "range" = none) (ha:XVA X [a] g) (hc:X.calm=true:=by rfl)
    (he1:starEach [a] X.env=(false,eval a X.env)::starEach [] X.env:=by rfl) (hpl1:(backTo q2 (starEach [] X.env)).any (·.1)=false:=by rfl)
    (he2:starEach [.Call (.Name "range" p2) [a] [] q2] X.env=(false,eval (.Call (.Name "range" p2) [a] [] q2) X.env)::starEach [] X.env:=by rfl) (hpl2:(backTo q1 (starEach [] X.env)).any (·.1)=false:=by rfl) :
    XE X (.Call (.Name "list" p1) [.Call (.Name "range" p2) [a] [] q2] [] q1) (fBlt bRng1 g):=by
  obtain ⟨t,h1,h2⟩:=ha
  exact ⟨_,pe_listrng1 hg1 hm1 hg2 hm2 h1 hc he1 hpl1 he2 hpl2,sim_blt cd_rng1 h2⟩
end Hk
set_option maxRecDepth 100000
namespace Hk
open PySem L2 PyProof.Rows
section
variable {X:Cx} {pos:Pos} {o e:Expr} {apos cpos:Pos} {i:Nat} {fd:FD}
theorem map_erase {α β:Type} (f:α→β):∀ (l:List α) (j:Nat),(l.map f).eraseIdx j=(l.eraseIdx j).map f
  | [],_=>rfl
  | _::_,0=>rfl
  | a::l,j+1=>by simp [map_erase f l j]
end
end Hk
set_option maxRecDepth 100000
namespace Hk
open PySem L2
section
variable {X:Cx} {o c:Expr} {body:List Stmt} {pos ipos npos:Pos} {i j:Nat} {fc:FT} {fb:FS}
end
end Hk
set_option maxRecDepth 100000
namespace Hk
open PySem L2
noncomputable def dropW (o:Option R) (ω:WSt):Option (Out×WSt):=o.map fun _=>(.nx,ω)
noncomputable def zipI (o:Option (List D)):Option (List D):=o.bind fun ds=>match ds with
  | [.lst a,.lst b]=>some (tupL a b)
  | _=>none
noncomputable def popW (i j:Nat) (ω:WSt) (o:Option D) (l:Option (Option W)):Option (Out×WSt):=(o.bind fun d=>match d with
  | .int k=>match l with
    | some (some (.ow ds))=>if -(2 ^ 63)≤k∧k < 2 ^ 63 then (seqIndex? k ds.length).bind fun n=>(ds[n]?).map fun d=>(d,ω.set j (some (.ow (ds.eraseIdx n)))) else none
    | _=>none
  | _=>none).map fun p=>(.nx,p.2.set i (some (.sh p.1)))
noncomputable def sortR (o:Option D):Option R:=o.bind oSortL
section
variable {ω:WSt} {fe:FE} {fd:FD} {fa:FA} {r:R} {ds as bs:List D} {i j:Nat} {f:FS} {ft:FT} {m:List D→List D}
theorem e_wdrop:sDrop fe ω=dropW (fe ω) ω:=rfl
theorem e_wd:dropW (some r) ω=some (.nx,ω):=rfl
theorem e_wzip:iZp fa ω=zipI (fa ω):=rfl
theorem e_wz:zipI (some [.lst as,.lst bs])=some (tupL as bs):=rfl
theorem e_wpop:sSetM i (mPop j fd) ω=popW i j ω (fd ω) ω[j]?:=by
  unfold sSetM mPop popD popW
  cases fd ω with
  | none=>rfl
  | some d=>cases d <;> rfl
theorem e_wsort:fSortL fd ω=sortR (fd ω):=rfl
end
theorem sort_ok {ns:List Int} (h:ns.length < 64):sortR (some (.lst (ns.map D.int)))=some (.fr ((sortZ ns).map D.int)):=by
  show (intsOf (ns.map D.int)).bind _=_
  rw [intsOf_map]
  exact if_pos h
theorem rng1_ok {n:Int} (h:-(2 ^ 62)≤n∧n≤1000000):bRng1 [.int n]=some (.fr ((rngZ 0 n.toNat).map D.int)):=by
  show oRngL 0 n=_
  unfold oRngL
  rw [if_pos ⟨⟨⟨by decide,by decide⟩,h.1,by omega⟩,by omega⟩,Int.sub_zero]
theorem pop_ok {i j:Nat} {ω:WSt} {k:Int} {ds:List D} (h0:0≤k) (h1:k < ds.length) (h2:ds.length≤1000000):popW i j ω (some (.int k)) (some (some (.ow ds)))=some (.nx,(ω.set j (some (.ow (ds.eraseIdx k.toNat)))).set i (some (.sh (ds[k.toNat]'(by omega))))):=by
  have e1:seqIndex? k ds.length=some k.toNat:=by
    show (if (decide (0≤(if k < 0 then k+(ds.length:Int) else k)) && decide ((if k < 0 then k+(ds.length:Int) else k) < (ds.length:Int)))=true then some (if k < 0 then k+(ds.length:Int) else k).toNat else none)=_
    rw [if_neg (show ¬k < 0 by omega)]
    exact if_pos (by simp;omega)
  show Option.map _ (if -(2 ^ 63)≤k∧k < 2 ^ 63 then _ else none)=_
  rw [if_pos ⟨by omega,by omega⟩,e1]
  show Option.map _ ((ds[k.toNat]?).map _)=_
  rw [List.getElem?_eq_getElem (show k.toNat < ds.length by omega)]
  rfl
end Hk
set_option maxRecDepth 100000
namespace L2
open PySem PySem.Spec PyProof.Rows
section
variable {κ:Type} [DecidableEq κ]
noncomputable def valV (kvs:List (κ×V)) (k:κ):Option V:=(kvs.find? fun kv=>decide (kv.1=k)).map (·.2)
noncomputable def putK (kvs:List (κ×V)) (k:κ) (v:V):List (κ×V) :=
  if (kvs.any fun kv=>decide (kv.1=k))=true then kvs.map (fun kv=>if kv.1=k then (kv.1,v) else kv) else kvs++[(k,v)]
theorem valV_pos {p:κ×V} {r:List (κ×V)} {k:κ} (e:p.1=k):valV (p::r) k=some p.2:=by simp [valV,List.find?_cons,e]
theorem valV_neg {p:κ×V} {r:List (κ×V)} {k:κ} (e:¬p.1=k):valV (p::r) k=valV r k:=by simp [valV,List.find?_cons,e]
theorem valV_any (k:κ):∀ kvs:List (κ×V),(kvs.any fun kv=>decide (kv.1=k))=(valV kvs k).isSome
  | []=>rfl
  | p::r=>by
    rw [List.any_cons]
    by_cases e:p.1=k
    · simp only [valV_pos e,decide_eq_true e,Bool.true_or,Option.isSome_some]
    · rw [valV_neg e,decide_eq_false e,Bool.false_or];exact valV_any k r
theorem length_putK (kvs:List (κ×V)) (k:κ) (v:V):(putK kvs k v).length≤kvs.length+1:=by
  unfold putK
  split
  · rw [List.length_map];omega
  · rw [List.length_append,List.length_cons,List.length_nil];omega
theorem RelO.isSome_eq {o:Option V} {u:Option Value} (r:RelO o u):o.isSome=u.isSome:=by
  cases o with
  | none=>cases u with
    | none=>rfl
    | some _=>exact (show False from r).elim
  | some _=>cases u with
    | none=>exact (show False from r).elim
    | some _=>rfl
theorem KV.val {kvs:List (κ×V)} {vs:List (κ×Value)} (r:KV kvs vs) (k:κ):RelO (valV kvs k) (valueAt vs k):=by
  unfold KV at r
  induction r with
  | nil=>exact True.intro
  | @cons p q ps qs h t ih =>
    obtain ⟨h1,h2⟩:=h
    by_cases e:p.1=k
    · have e':q.1=k:=h1.symm.trans e
      have b:valueAt (q::qs) k=some q.2:=by simp [valueAt,List.find?_cons,e']
      rw [valV_pos e,b];exact h2
    · have e':¬q.1=k:=fun z=>e (h1.trans z)
      have b:valueAt (q::qs) k=valueAt qs k:=by simp [valueAt,List.find?_cons,e']
      rw [valV_neg e,b];exact ih
theorem KV.any {kvs:List (κ×V)} {vs:List (κ×Value)} (r:KV kvs vs) (k:κ):(kvs.any fun kv=>decide (kv.1=k))=vs.any fun kv=>decide (kv.1=k):=by
  unfold KV at r
  induction r with
  | nil=>rfl
  | cons h t ih=>rw [List.any_cons,List.any_cons,ih,h.1]
theorem KV.repl {kvs:List (κ×V)} {vs:List (κ×Value)} (r:KV kvs vs) (k:κ) {y:V} {u:Value} (ry:RelV y u) :
    KV (kvs.map fun kv=>if kv.1=k then (kv.1,y) else kv) (vs.map fun kv=>if kv.1=k then (kv.1,u) else kv):=by
  unfold KV at r ⊢
  induction r with
  | nil=>exact .nil
  | @cons p q ps qs h t ih =>
    rw [List.map_cons,List.map_cons]
    refine .cons ?_ ih
    obtain ⟨h1,h2⟩:=h
    by_cases e:p.1=k
    · rw [if_pos e,if_pos (h1.symm.trans e)];exact ⟨h1,ry⟩
    · rw [if_neg e,if_neg (fun z=>e (h1.trans z))];exact ⟨h1,h2⟩
theorem KV.put {kvs:List (κ×V)} {vs:List (κ×Value)} (r:KV kvs vs) (k:κ) {y:V} {u:Value} (ry:RelV y u):KV (putK kvs k y) (stored vs k u):=by
  unfold putK stored
  rw [r.any k]
  by_cases e:(vs.any fun kv=>decide (kv.1=k))=true
  · rw [if_pos e,if_pos e];exact r.repl k ry
  · rw [if_neg e,if_neg e];exact Paired.snoc r ⟨rfl,ry⟩
theorem KV.keys {kvs:List (κ×V)} {vs:List (κ×Value)} (r:KV kvs vs):kvs.map (·.1)=vs.map (·.1):=by
  unfold KV at r
  induction r with
  | nil=>rfl
  | cons h t ih=>rw [List.map_cons,List.map_cons,ih,h.1]
theorem KV.length {kvs:List (κ×V)} {vs:List (κ×Value)} (r:KV kvs vs):kvs.length=vs.length:=Paired.length r
end
theorem kV_is {P:Program} {w:World} {k:Key} {u:Value} (r:RelV (kV k) u):(mixKind P w).is k u=true:=by
  cases k with
  | inl i=>obtain ⟨t,e⟩:=(show ∃ t,u=Value.int i t from r);subst e;exact mixKind_int P w i t
  | inr x=>obtain ⟨t,e⟩:=(show ∃ t,u=Value.str x t from r);subst e;exact mixKind_str P w x t
theorem items_are {P:Program} {w:World}:∀ {ks:List Key} {us:List Value},Vals (ks.map kV) us→ItemsAre (mixKind P w) ks us
  | [],_,r=>by rw [List.map_nil] at r;cases r;exact .nil
  | k::ks,_,r=>by
    rw [List.map_cons] at r
    cases r with
    | cons h t=>exact .cons (kV_is h) (items_are t)
abbrev KT (H:Hp):List (List Key×V)→List (List Key×Addr×Value)→Prop:=Paired fun p q=>p.1=q.1∧H q.2.1=some (.tup (p.1.map kV))∧RelV p.2 q.2.2
theorem KT.val {H:Hp} {kvs:List (List Key×V)} {xs:List (List Key×Addr×Value)} (r:KT H kvs xs) (k:List Key):RelO (valV kvs k) ((atKey xs k).map (·.2)):=by
  induction r with
  | nil=>exact True.intro
  | @cons p q ps qs h t ih =>
    obtain ⟨h1,_,h2⟩:=h
    by_cases e:p.1=k
    · have e':q.1=k:=h1.symm.trans e
      have b:atKey (q::qs) k=some q.2:=by simp [atKey,List.find?_cons,e']
      rw [valV_pos e,b];exact h2
    · have e':¬q.1=k:=fun z=>e (h1.trans z)
      have b:atKey (q::qs) k=atKey qs k:=by simp [atKey,List.find?_cons,e']
      rw [valV_neg e,b];exact ih
theorem KT.repl {H:Hp} {kvs:List (List Key×V)} {xs:List (List Key×Addr×Value)} (r:KT H kvs xs) (k:List Key) {y:V} {u:Value} (ry:RelV y u) :
    KT H (kvs.map fun kv=>if kv.1=k then (kv.1,y) else kv) (xs.map (putAt k u)):=by
  induction r with
  | nil=>exact .nil
  | @cons p q ps qs h t ih =>
    rw [List.map_cons,List.map_cons]
    refine .cons ?_ ih
    obtain ⟨h1,h2,h3⟩:=h
    unfold putAt
    by_cases e:p.1=k
    · rw [if_pos e,if_pos (h1.symm.trans e)];exact ⟨h1,h2,ry⟩
    · rw [if_neg e,if_neg (fun z=>e (h1.trans z))];exact ⟨h1,h2,h3⟩
theorem KT.put {H:Hp} {kvs:List (List Key×V)} {xs:List (List Key×Addr×Value)} (r:KT H kvs xs) (k:List Key) {b:Addr} {y:V} {u:Value} (hb:H b=some (.tup (k.map kV))) (ry:RelV y u) :
    KT H (putK kvs k y) (storedH xs k b u):=by
  have e:(kvs.any fun kv=>decide (kv.1=k))=(atKey xs k).isSome:=by
    rw [valV_any,(r.val k).isSome_eq,Option.isSome_map]
  unfold putK storedH
  rw [e]
  by_cases q:(atKey xs k).isSome=true
  · rw [if_pos q,if_pos q];exact r.repl k ry
  · rw [if_neg q,if_neg q];exact Paired.snoc r ⟨rfl,hb,ry⟩
theorem KT.keeps {H H':Hp} {kvs:List (List Key×V)} {xs:List (List Key×Addr×Value)} (r:KT H kvs xs) (ht:∀ b ys,H b=some (.tup ys)→H' b=some (.tup ys)):KT H' kvs xs :=
  Paired.mapP r fun _ _ z=>⟨z.1,ht _ _ z.2.1,z.2.2⟩
section
variable {P:Program} {w:World} {H:Hp} {h:Heap} {a:Addr}
theorem rd_of {u:HO} (ok:HOk P w H h) (e:Rd H a u):ObjOk P w H h a u:=e.ok ok
theorem dk_rd {kvs:List (Key×V)} (ok:HOk P w H h) (e:Rd H a (.dK kvs)):kvs.length≤sizeLine∧(a == sysModules)=false∧∃ vs,KV kvs vs∧h.DictOf (mixKind P w) a vs :=
  show ObjOk P w H h a (.dK kvs) from rd_of ok e
theorem dk_of {kvs:List (Key×V)} (ok:HOk P w H h) (e:H a=some (.dK kvs)):kvs.length≤sizeLine∧(a == sysModules)=false∧∃ vs,KV kvs vs∧h.DictOf (mixKind P w) a vs:=dk_rd ok (.inl e)
theorem key_of {ks:List Key} (ok:HOk P w H h) (e:H a=some (.tup (ks.map kV))):(tupleKind (mixKind P w)).is h ks a:=by
  obtain ⟨_,its,r,o,h1,h2,n,h3⟩:=(show ObjOk P w H h a (.tup (ks.map kV)) from ok a _ e)
  exact ⟨o,its.toArray,n,h1,h2,h3,by simpa using items_are r⟩
theorem dt_rd {kvs:List (List Key×V)} (ok:HOk P w H h) (e:Rd H a (.dT kvs)):kvs.length≤sizeLine∧(a == sysModules)=false ∧
    ∃ xs,KT H kvs xs∧h.DictOfH (tupleKind (mixKind P w)) a xs:=by
  obtain ⟨z,y,xs,r,o,es,ep,h1,h2,h3,h4,h5⟩:=(show ObjOk P w H h a (.dT kvs) from rd_of ok e)
  refine ⟨z,y,xs,r,o,es,ep,h1,h2,h3,h4,fun x hx=>?_,h5⟩
  have all:∀ {l:List (List Key×V)} {m:List (List Key×Addr×Value)},KT H l m→∀ x∈m,(tupleKind (mixKind P w)).is h x.1 x.2.1:=by
    intro l m q
    induction q with
    | nil=>intro x hx;exact nomatch hx
    | @cons p q ps qs hq t ih =>
      intro x hx
      rcases List.mem_cons.mp hx with e|hx
      · subst e
        exact key_of ok (by rw [←hq.1];exact hq.2.1)
      · exact ih x hx
  exact all r x hx
theorem dt_of {kvs:List (List Key×V)} (ok:HOk P w H h) (e:H a=some (.dT kvs)):kvs.length≤sizeLine∧(a == sysModules)=false ∧
    ∃ xs,KT H kvs xs∧h.DictOfH (tupleKind (mixKind P w)) a xs:=dt_rd ok (.inl e)
end
def DGet (H:Hp) (a:Addr) (y:V) (r:Option V):Prop :=
  (∃ kvs k,Rd H a (.dK kvs)∧y=kV k∧r=valV kvs k)∨∃ kvs k b,Rd H a (.dT kvs)∧y=.ref b∧H b=some (.tup (k.map kV))∧r=valV kvs k
def DPut (H:Hp) (a:Addr) (y v:V) (H':Hp):Prop :=
  (∃ kvs k,H a=some (.dK kvs)∧y=kV k∧kvs.length < sizeLine∧H'=upd H a (.dK (putK kvs k v))) ∨
  ∃ kvs k b,H a=some (.dT kvs)∧y=.ref b∧H b=some (.tup (k.map kV))∧kvs.length < sizeLine∧H'=upd H a (.dT (putK kvs k v))
theorem DGet.k {H:Hp} {a:Addr} {kvs:List (Key×V)} {k:Key} (e:H a=some (.dK kvs)):DGet H a (kV k) (valV kvs k):=.inl ⟨kvs,k,.inl e,rfl,rfl⟩
theorem DPut.k {H:Hp} {a:Addr} {kvs:List (Key×V)} {k:Key} {v:V} (e:H a=some (.dK kvs)) (hl:kvs.length < sizeLine):DPut H a (kV k) v (upd H a (.dK (putK kvs k v))):=.inl ⟨kvs,k,e,rfl,hl,rfl⟩
section
variable {X:Cx} {pins:List (Addr×Obj)} {σ:St} {H:Hp} {s:Shared} {a:Addr} {y v:V} {u r:Value} {o:Option V} {A:Around} {E:Value→Shared→Prop}
theorem Inv.big (I:Inv X pins σ H s):sysModules < s.heap.objs.size:=by
  have h:mainGlobals < s.heap.objs.size:=(I.mod.glob.keeps I.bk).lt
  exact Nat.lt_trans (by decide) h
theorem d_getItem {Q:Value→Shared→Prop} (hu:A.units+1 < cLine) (I:Inv X pins σ H s) (g:DGet H a y (some v)) (ry:RelV y u) (h:∀ w' s',Inv X pins σ H s'→RelV v w'→Q w' s') :
    wpAny (model X.prog X.w) A (getItem (.ref a) u) Q E s:=by
  rcases g with ⟨kvs,k,e,ey,l⟩|⟨kvs,k,b,e,ey,eb,l⟩
  · subst ey
    obtain ⟨z,hd,vs,rel,dd⟩:=dk_rd I.hok e
    obtain ⟨w',hw,rw'⟩:=RelO.some_of (v:=v) (o:=valueAt vs k) (by rw [l];exact rel.val k)
    exact wpAny_getItem_of (kV_is ry) dd.mapOf hw (h w' _ (I.tok _) rw')
  · subst ey
    cases (show u=Value.ref b from ry)
    obtain ⟨z,hd,xs,rel,dd⟩:=dt_rd I.hok e
    obtain ⟨w',hw,rw'⟩:=RelO.some_of (v:=v) (o:=(atKey xs k).map (·.2)) (by rw [l];exact rel.val k)
    obtain ⟨p,hp,hp2⟩:=Option.map_eq_some_iff.mp hw
    refine wpAny_getItem_heap (tupleKind_room_in1 hu) (key_of I.hok eb) dd hp ?_
    rw [hp2]
    exact h w' _ (I.tok _) rw'
theorem d_notIn {Q:Value→Shared→Prop} (hu:A.units+1 < cLine) (I:Inv X pins σ H s) (g:DGet H a y o) (ry:RelV y u) (h:∀ s',Inv X pins σ H s'→Q (.bool (!o.isSome)) s') :
    wpAny (model X.prog X.w) A (compareOp .NotIn u (.ref a)) Q E s:=by
  rcases g with ⟨kvs,k,e,ey,l⟩|⟨kvs,k,b,e,ey,eb,l⟩
  · subst ey
    obtain ⟨z,hd,vs,rel,dd⟩:=dk_rd I.hok e
    refine wpAny_notIn_of (kV_is ry) hd dd.mapOf ?_
    rw [←(rel.val k).isSome_eq,←l]
    exact h _ (I.tok _)
  · subst ey
    cases (show u=Value.ref b from ry)
    obtain ⟨z,hd,xs,rel,dd⟩:=dt_rd I.hok e
    refine wpAny_notIn_heap (tupleKind_room_in1 hu) (key_of I.hok eb) hd dd ?_
    have q:=(rel.val k).isSome_eq
    rw [Option.isSome_map] at q
    rw [←q,←l]
    exact h _ (I.tok _)
theorem d_write {h':Heap} {t':Nat} {ob:HO} (I:Inv X pins σ H s) (mu:Mut (H a)) (hs:Heap.SameBut a s.heap h') (he:∃ q,h'.get? a=some q) (new:ObjOk X.prog X.w (upd H a ob) h' a ob) :
    Inv X pins σ (upd H a ob) { s with heap:=h',toks:=t' } :=
  I.write (x:=a) (e:=a) mu (.inl rfl) (fun b q hb z=>(hs.2 b hb).trans z) he new
theorem dk_new {P:Program} {w:World} {H':Hp} {h':Heap} {kvs:List (Key×V)} {vs:List (Key×Value)} (z:kvs.length≤sizeLine) (hd:(a == sysModules)=false) (rel:KV kvs vs) (dd:h'.DictOf (mixKind P w) a vs) :
    ObjOk P w H' h' a (.dK kvs):=⟨z,hd,vs,rel,dd⟩
theorem d_setItem {H':Hp} {Q:Unit→Shared→Prop} (hu:A.units+1 < cLine) (I:Inv X pins σ H s) (g:DPut H a y v H') (ry:RelV y u) (rv:RelV v r) (h:∀ s',Inv X pins σ H' s'→Q () s') :
    wpAny (model X.prog X.w) A (setItem (.ref a) u r) Q E s:=by
  rcases g with ⟨kvs,k,e,ey,l,eH⟩|⟨kvs,k,b,e,ey,eb,l,eH⟩
  · subst ey eH
    obtain ⟨z,hd,vs,rel,dd⟩:=dk_of I.hok e
    have hz:vs.length≤sizeLine:=by rw [←rel.length];exact z
    have hl:(putK kvs k v).length≤sizeLine:=by have:=length_putK kvs k v;omega
    refine wpAny_setItem_pairs (hsz:=hz) (kV_is ry) dd fun h' dd' hs=>h _ ?_
    have he:∃ q,h'.get? a=some q:=let ⟨q,_,_,hq,_⟩:=dd';⟨q,hq⟩
    exact d_write I (by rw [e];exact True.intro) hs he (dk_new hl hd (rel.put k rv) dd')
  · subst ey eH
    cases (show u=Value.ref b from ry)
    obtain ⟨z,hd,xs,rel,dd⟩:=dt_of I.hok e
    have hz:xs.length≤sizeLine:=by rw [←Paired.length rel];exact z
    have hl:(putK kvs k v).length≤sizeLine:=by have:=length_putK kvs k v;omega
    refine wpAny_setItem_heap (hsz:=hz) (tupleKind_room_in1 hu) (key_of I.hok eb) dd fun h' dd' hs=>h _ ?_
    obtain ⟨q,es,ep,hq,h2,h3,h4,_,h5⟩:=dd'
    refine d_write I (by rw [e];exact True.intro) hs ⟨q,hq⟩ ⟨hl,hd,_,(rel.put k eb rv).keeps fun c ys ec=>?_,q,es,ep,hq,h2,h3,h4,h5⟩
    rw [upd_ne (ne_of ec e (fun z=>nomatch z))]
    exact ec
end
section
variable {X:Cx} {pins:List (Addr×Obj)} {σ:St} {H:Hp} {s:Shared} {a:Addr} {kvs:List (Key×V)} {k:Key} {u:Value} {A:Around} {E:Value→Shared→Prop}
end
def NoSl (i:Expr):Prop:=∀ ov iv,subscripted i false ov iv=operate [ov,iv] (getItem ov iv)
theorem subD_of {prog:Program} {w:World} {A:Around} {E:Value→Shared→Prop} {s:Shared} {env:Env} {value slice:Expr} {pos:Pos} {T id:String} {Q:Value→Shared→Prop}
    (hl:typeLookup (.type T) "__getitem__" = pure (some (.builtin id))) (hs:NoSl slice)
    (h:wpAny (model prog w) A (eval value env) (fun o s₁=>wpAny (model prog w) A (eval slice env) (fun i s₂=>s₂.TypeIs o T∧wpAny (model prog w) A (getItem o i) Q E s₂) E s₁) E s) :
    wpAny (model prog w) A (eval (.Subscript value slice pos) env) Q E s:=by
  refine Subscript_ (wpAny_mono h (fun o s₁ h₁=>wpAny_mono h₁ (fun i s₂ h₂=>?_) fun _ _ x=>x) fun _ _ x=>x)
  obtain ⟨hT,h₂⟩:=h₂
  unfold subscriptTail
  refine wpAny_bind ?_
  rw [getitemInPython_of_ne hT.not_modules]
  refine wpAny_bind (wpAny_specialOf hT hl ?_)
  have fin:wpAny (model prog w) A (subscripted slice false o i) (fun r s₃=>wpAny (model prog w) A (letTemporaryGo value o r >>= fun _=>pure r) Q E s₃) E s₂:=by
    rw [hs o i]
    exact wpAny_operating (wpAny_mono h₂ (fun r s₃ h₃=>wpAny_bind (wpAny_letTemporaryGo (wpAny_pure h₃))) fun _ _ x=>x)
  first
    | exact wpAny_pure (wpAny_bind fin)
    | exact wpAny_bind (wpAny_pure (wpAny_bind fin))
    | exact wpAny_bind fin
theorem dict_typeIs {X:Cx} {pins:List (Addr×Obj)} {σ:St} {H:Hp} {s:Shared} {a:Addr} {y:V} {o:Option V} (I:Inv X pins σ H s) (g:DGet H a y o):s.TypeIs (.ref a) "dict" := by
  rcases g with ⟨kvs,k,e,_,_⟩|⟨kvs,k,b,e,_,_,_⟩
  · obtain ⟨_,_,vs,_,dd⟩:=dk_rd I.hok e
    exact dd.typeIs
  · obtain ⟨_,_,xs,_,dd⟩:=dt_rd I.hok e
    exact dd.typeIs
noncomputable def tDGet (td ty:TE):TE:=fun σ H Q=>td σ H fun x H1=>ty σ H1 fun y H2=>∃ a v,x=.ref a∧DGet H2 a y (some v)∧Q v H2
noncomputable def tDIn (ty td:TE):TE:=fun σ H Q=>ty σ H fun y H1=>td σ H1 fun x H2=>∃ a o,x=.ref a∧DGet H2 a y o∧Q (.bl o.isSome) H2
noncomputable def tDNotIn (ty td:TE):TE:=fun σ H Q=>ty σ H fun y H1=>td σ H1 fun x H2=>∃ a o,x=.ref a∧DGet H2 a y o∧Q (.bl (!o.isSome)) H2
noncomputable def sDPut (td ty tv:TE):TS:=fun D σ H=>tv σ H fun v H1=>td σ H1 fun x H2=>ty σ H2 fun y H3=>∃ a H4,x=.ref a∧DPut H3 a y v H4∧D.nx σ H4
section
variable {X:Cx} {o i e value:Expr} {pos pos' tpos:Pos} {td ty tv:TE}
theorem pe_dget (hu:X.A.units+1 < cLine) (ho:PE X o td) (hi:PE X i ty) (hs:NoSl i):PE X (.Subscript o i pos) (tDGet td ty):=by
  intro pins s σ H Q I h
  refine subD_of PySem.F.slot_dict_getitem.lookup hs (thn (ho pins s σ H _ I h) fun u s1 ⟨x,H1,I1,rx,q1⟩=>thn (hi pins s1 σ H1 _ I1 q1) fun iv s2 ⟨y,H2,I2,ry,a,v,ex,g,q2⟩=>?_)
  subst ex
  obtain rfl:u=Value.ref a:=rx
  exact ⟨dict_typeIs I2 g,d_getItem hu I2 g ry fun w' s3 I3 rw'=>⟨v,H2,I3,rw',q2⟩⟩
theorem pc_dnotin (hu:X.A.units+1 < cLine) (hi:PE X i ty) (ho:PE X o td):PC X .NotIn i o (tDNotIn ty td):=by
  intro pins s σ H Q I h
  refine thn (hi pins s σ H _ I h) fun iv s1 ⟨y,H1,I1,ry,q1⟩=>thn (ho pins s1 σ H1 _ I1 q1) fun u s2 ⟨x,H2,I2,rx,a,ov,ex,g,q2⟩=>?_
  subst ex
  obtain rfl:u=Value.ref a:=rx
  exact d_notIn hu I2 g ry fun s3 I3=>⟨.bl (!ov.isSome),H2,I3,rfl,q2⟩
theorem ps_dput (hu:X.A.units+1 < cLine) (ho:PE X o td) (hi:PE X i ty) (hv:PE X value tv) (hs:swapsWith value (some (.Subscript o i pos')) pos.line X.env=pure false) :
    PS X (.Assign [.Subscript o i pos'] value pos) (sDPut td ty tv):=by
  intro pins s σ H D I h
  refine wpAny_Assign_Subscript (thn (hv pins s σ H _ I h) fun r s1 ⟨v,H1,I1,rv,q1⟩=>thn (ho pins s1 σ H1 _ I1 q1) fun u s2 ⟨x,H2,I2,rx,q2⟩=>thn (hi pins s2 σ H2 _ I2 q2) fun iv s3 ⟨y,H3,I3,ry,a,H4,ex,g,q3⟩=>?_) hs
  subst ex
  obtain rfl:u=Value.ref a:=rx
  exact d_setItem hu I3 g ry rv fun s4 I4=>⟨σ,H4,I4,q3⟩
end
theorem dk_empty {P:Program} {w:World} {H:Hp} (h:Heap) (hb:sysModules < h.objs.size):ObjOk P w H (h.push { cls:=.type "dict", data:=.dict #[] }) h.objs.size (.dK []) :=
  ⟨Nat.zero_le _,beq_eq_false_iff_ne.mpr (Ne.symm (Nat.ne_of_lt hb)),[],.nil,Heap.DictOf.new h⟩
noncomputable def tDNewK:TE:=fun _ H Q=>∀ p,H p=none→Q (.ref p) (upd H p (.dK []))
section
variable {X:Cx} {pos:Pos}
theorem pe_dnewK:PE X (.Dict [] [] pos) tDNewK:=fun pins s σ H Q I h =>
  wpAny_Dict_empty ⟨.ref s.heap.objs.size,_,I.laid (a:=s.heap.objs.size) (o:=.dK []) (t':=s.toks) (fun _ _ q=>Heap.get?_push_of_some _ q) (Nat.le_refl _) (dk_empty s.heap I.big),rfl,h _ (I.hok.fresh (Nat.le_refl _))⟩
end
def tPairs:List (TE×TE)→St→Hp→(List (V×V)→Hp→Prop)→Prop
  | [],_,H,Q=>Q [] H
  | (tk,tv)::r,σ,H,Q=>tk σ H fun x H1=>tv σ H1 fun y H2=>tPairs r σ H2 fun ps H3=>Q ((x,y)::ps) H3
abbrev VV:List (V×V)→List (Value×Value)→Prop:=Paired fun p q=>RelV p.1 q.1∧RelV p.2 q.2
def PPs (X:Cx) (pos:Pos) (keys:List (Option Expr)) (values:List Expr) (trs:List (TE×TE)):Prop :=
  ∀ (pins:List (Addr×Obj)) (s:Shared) (σ:St) (H:Hp) (Q:List (V×V)→Hp→Prop),Inv X pins σ H s→tPairs trs σ H Q →
    wpAny (model X.prog X.w) X.A (evalPairs (pairTrees keys values X.env pos)) (fun vs s'=>∃ ps H',Inv X pins σ H' s'∧VV ps vs∧Q ps H') X.xe s
theorem pps_nil {X:Cx} {pos:Pos}:PPs X pos [] [] []:=fun pins s σ H Q I h=>pairTrees_nil_walk ⟨[],H,I,.nil,h⟩
theorem pps_cons {X:Cx} {pos:Pos} {k v:Expr} {ks:List (Option Expr)} {vs:List Expr} {tk tv:TE} {trs:List (TE×TE)} (hk:PE X k tk) (hv:PE X v tv) (hr:PPs X pos ks vs trs) :
    PPs X pos (some k::ks) (v::vs) ((tk,tv)::trs):=fun pins s σ H Q I h =>
  pairTrees_cons_walk (thn (hk pins s σ H _ I h) fun u s1 ⟨x,H1,I1,rx,q1⟩=>thn (hv pins s1 σ H1 _ I1 q1) fun w2 s2 ⟨y,H2,I2,ry,q2⟩ =>
    thn (hr pins s2 σ H2 _ I2 q2) fun ws s3 ⟨ps,H3,I3,rel,q3⟩=>⟨(x,y)::ps,H3,I3,.cons ⟨rx,ry⟩ rel,q3⟩)
noncomputable def mergeK (kvs more:List (Key×V)):List (Key×V):=more.foldl (fun acc kv=>putK acc kv.1 kv.2) kvs
theorem KV.merge:∀ {more:List (Key×V)} {rs:List (Key×Value)} {kvs:List (Key×V)} {vs:List (Key×Value)},KV more rs→KV kvs vs→KV (mergeK kvs more) (merged vs rs):=by
  intro more rs kvs vs r
  unfold KV at r
  induction r generalizing kvs vs with
  | nil=>intro q;exact q
  | @cons p q ps qs h t ih =>
    intro r0
    have e:KV (putK kvs p.1 p.2) (stored vs q.1 q.2):=by
      have:=r0.put p.1 h.2
      rw [←h.1];exact this
    exact ih e
theorem length_mergeK:∀ (more kvs:List (Key×V)),(mergeK kvs more).length≤kvs.length+more.length
  | [],kvs=>by show kvs.length≤kvs.length+0;omega
  | p::r,kvs=>by
    have h1:=length_mergeK r (putK kvs p.1 p.2)
    have h2:=length_putK kvs p.1 p.2
    show (mergeK (putK kvs p.1 p.2) r).length≤_
    rw [List.length_cons];omega
theorem carries_of {P:Program} {w:World}:∀ {kvs:List (Key×V)} {ws:List (Value×Value)},VV (kvs.map fun kv=>(kV kv.1,kv.2)) ws→∃ rs,Carries (mixKind P w) ws rs∧KV kvs rs
  | [],_,r=>by rw [List.map_nil] at r;cases r;exact ⟨[],True.intro,.nil⟩
  | p::kvs,_,r=>by
    rw [List.map_cons] at r
    cases r with
    | @cons a b as bs h t =>
      obtain ⟨rs,c,q⟩:=carries_of (P:=P) (w:=w) t
      obtain ⟨b1,b2⟩:=b
      exact ⟨(p.1,b2)::rs,⟨kV_is h.1,rfl,c⟩,.cons ⟨rfl,h.2⟩ q⟩
noncomputable def tDisp (trs:List (TE×TE)):TE:=fun σ H Q=>∀ p,H p=none→tPairs trs σ (upd H p (.dK [])) fun ps H2=>H2 p=some (.dK [])∧∃ kvs:List (Key×V),ps=kvs.map (fun kv=>(kV kv.1,kv.2))∧kvs.length≤15∧Q (.ref p) (upd H2 p (.dK (mergeK [] kvs)))
theorem pe_disp {X:Cx} {pos:Pos} {keys:List (Option Expr)} {values:List Expr} {trs:List (TE×TE)} (h:PPs X pos keys values trs) (hall:keys.all (·.isSome)=true) (hl:keys.length=values.length) (h0:keys≠[])
    (h15:keys.length≤15):PE X (.Dict keys values pos) (tDisp trs):=by
  intro pins s σ H Q I q
  have hn:=I.hok.fresh (Nat.le_refl s.heap.objs.size)
  have I1:=I.laid (a:=s.heap.objs.size) (o:=.dK []) (h':=s.heap.push { cls:=.type "dict", data:=.dict #[] }) (t':=s.toks) (fun _ _ q=>Heap.get?_push_of_some _ q) (Nat.le_refl _) (dk_empty s.heap I.big)
  refine wpAny_Dict_walk (knd:=mixKind X.prog X.w) hall hl h0 h15 (thn (h pins _ σ _ _ I1 (q _ hn)) fun ws s2 ⟨ps,H2,I2,rel,e,kvs,ep,lk,q2⟩=>?_)
  subst ep
  obtain ⟨rs,c,rk⟩:=carries_of (P:=X.prog) (w:=X.w) rel
  obtain ⟨z,hd,vs0,r0,dd⟩:=dk_of I2.hok e
  cases r0
  refine ⟨rs,c,dd,fun h' dd' hs=>⟨.ref s.heap.objs.size,_,?_,rfl,q2⟩⟩
  have hz:(mergeK [] kvs).length≤sizeLine:=by
    have h1:=length_mergeK kvs []
    rw [List.length_nil] at h1
    rw [sizeLine_eq];omega
  have he:∃ q,h'.get? s.heap.objs.size=some q:=let ⟨q,_,_,hq,_⟩:=dd';⟨q,hq⟩
  exact d_write I2 (by rw [e];exact True.intro) hs he (dk_new hz hd (rk.merge .nil) dd')
section
variable {X:Cx} {pins:List (Addr×Obj)} {σ:St} {H:Hp} {s:Shared} {a:Addr} {y d:V} {u r:Value} {o:Option V} {A:Around} {E:Value→Shared→Prop}
end
section
variable {X:Cx} {o e f:Expr} {apos cpos:Pos} {td ty tx:TE}
end
section
variable {X:Cx} {pins:List (Addr×Obj)} {σ:St} {H:Hp} {s:Shared} {a:Addr} {kvs:List (Key×V)} {A:Around} {E:Value→Shared→Prop}
end
section
variable {X:Cx} {pins:List (Addr×Obj)} {σ:St} {H:Hp} {s:Shared} {a:Addr} {y:V} {u:Value} {A:Around} {E:Value→Shared→Prop}
end
end L2
set_option maxRecDepth 100000
namespace Hk
open PySem L2
noncomputable def valD {α:Type}:List Int→List α→Int→Option α
  | k'::ks,x::xs,k=>if k'=k then some x else valD ks xs k
  | _,_,_=>none
noncomputable def repA {α:Type}:List Int→List α→Int→α→List α
  | k'::ks,x::xs,k,y=>(if k'=k then y else x)::repA ks xs k y
  | _,xs,_,_=>xs
noncomputable def putKs (ks:List Int) (k:Int):List Int:=if k∈ks then ks else ks++[k]
noncomputable def putA {α:Type} (ks:List Int) (xs:List α) (k:Int) (y:α):List α:=if k∈ks then repA ks xs k y else xs++[y]
theorem repA_len {α:Type}:∀ (ks:List Int) (xs:List α) (k:Int) (y:α),(repA ks xs k y).length=xs.length
  | [],xs,_,_=>rfl
  | _::_,[],_,_=>rfl
  | k'::ks,x::xs,k,y=>by show (repA ks xs k y).length+1=xs.length+1;rw [repA_len ks xs k y]
theorem put_len {α:Type} {ks:List Int} {xs:List α} (k:Int) (y:α) (h:ks.length=xs.length):(putKs ks k).length=(putA ks xs k y).length:=by
  unfold putKs putA
  by_cases z:k∈ks
  · rw [if_pos z,if_pos z,repA_len];exact h
  · rw [if_neg z,if_neg z,List.length_append,List.length_append,h];rfl
theorem kvsOf_val:∀ {ks:List Int} {vs:List V},ks.length=vs.length→∀ k,valV (kvsOf ks vs) (Sum.inl k)=valD ks vs k
  | [],[],_,k=>rfl
  | [],_::_,h,_=>by simp at h
  | _::_,[],h,_=>by simp at h
  | k'::ks,v::vs,h,k=>by
    show valV ((Sum.inl k',v)::kvsOf ks vs) (Sum.inl k)=if k'=k then some v else valD ks vs k
    by_cases z:k'=k
    · rw [if_pos z,valV_pos (p:=((Sum.inl k':Key),v)) (by rw [z])]
    · rw [if_neg z,valV_neg (p:=((Sum.inl k':Key),v)) (fun e=>z (Sum.inl.inj e))]
      exact kvsOf_val (by simpa using h) k
theorem kvsOf_len:∀ {ks:List Int} {vs:List V},ks.length=vs.length→(kvsOf ks vs).length=ks.length
  | [],[],_=>rfl
  | [],_::_,h=>by simp at h
  | _::_,[],h=>by simp at h
  | k'::ks,v::vs,h=>by show (kvsOf ks vs).length+1=_;rw [kvsOf_len (by simpa using h)];rfl
theorem kvsOf_keys:∀ {ks:List Int} {vs:List V},ks.length=vs.length→(kvsOf ks vs).map (·.1)=ks.map (Sum.inl:Int→Key)
  | [],[],_=>rfl
  | [],_::_,h=>by simp at h
  | _::_,[],h=>by simp at h
  | k'::ks,v::vs,h=>by show (Sum.inl k':Key)::(kvsOf ks vs).map (·.1)=_;rw [kvsOf_keys (by simpa using h)];rfl
theorem kvsOf_any:∀ {ks:List Int} {vs:List V},ks.length=vs.length→∀ k,(kvsOf ks vs).any (fun kv=>decide (kv.1=(Sum.inl k:Key)))=decide (k∈ks)
  | [],[],_,_=>rfl
  | [],_::_,h,_=>by simp at h
  | _::_,[],h,_=>by simp at h
  | k'::ks,v::vs,h,k=>by
    show (decide ((Sum.inl k':Key)=Sum.inl k) || (kvsOf ks vs).any _)=_
    rw [kvsOf_any (by simpa using h) k]
    have e:decide ((Sum.inl k':Key)=Sum.inl k)=decide (k'=k):=by
      by_cases z:k'=k
      · rw [z];simp
      · rw [decide_eq_false z,decide_eq_false (fun e=>z (Sum.inl.inj e))]
    rw [e]
    simp only [List.mem_cons]
    by_cases z:k'=k
    · simp [z]
    · have:¬k=k':=fun y=>z y.symm
      simp [z,this]
theorem kvsOf_map:∀ {ks:List Int} {vs:List V},ks.length=vs.length→∀ (k:Int) (v:V),(kvsOf ks vs).map (fun kv=>if kv.1=(Sum.inl k:Key) then (kv.1,v) else kv)=kvsOf ks (repA ks vs k v)
  | [],[],_,_,_=>rfl
  | [],_::_,h,_,_=>by simp at h
  | _::_,[],h,_,_=>by simp at h
  | k'::ks,u::vs,h,k,v=>by
    show (if (Sum.inl k':Key)=Sum.inl k then ((Sum.inl k':Key),v) else (Sum.inl k',u))::(kvsOf ks vs).map _=(Sum.inl k',if k'=k then v else u)::kvsOf ks (repA ks vs k v)
    rw [kvsOf_map (by simpa using h) k v]
    by_cases z:k'=k
    · rw [if_pos (by rw [z]),if_pos z]
    · rw [if_neg (fun e=>z (Sum.inl.inj e)),if_neg z]
theorem kvsOf_snoc:∀ {ks:List Int} {vs:List V},ks.length=vs.length→∀ (k:Int) (v:V),kvsOf ks vs++[(Sum.inl k,v)]=kvsOf (ks++[k]) (vs++[v])
  | [],[],_,_,_=>rfl
  | [],_::_,h,_,_=>by simp at h
  | _::_,[],h,_,_=>by simp at h
  | k'::ks,u::vs,h,k,v=>by show _::(kvsOf ks vs++[(Sum.inl k,v)])=_;rw [kvsOf_snoc (by simpa using h) k v];rfl
theorem kvsOf_put {ks:List Int} {vs:List V} (h:ks.length=vs.length) (k:Int) (v:V):putK (kvsOf ks vs) (Sum.inl k) v=kvsOf (putKs ks k) (putA ks vs k v):=by
  unfold putK putKs putA
  rw [kvsOf_any h]
  by_cases z:k∈ks
  · rw [if_pos (decide_eq_true z),if_pos z,if_pos z];exact kvsOf_map h k v
  · rw [if_neg (by rw [decide_eq_false z];decide),if_neg z,if_neg z];exact kvsOf_snoc h k v
section
variable {K:PySem.W.Frag} {G:Hp}
theorem Reps.val:∀ {ks:List Int} {ds:List D} {vs:List V} {k:Int} {d:D},Reps K G ds vs→valD ks ds k=some d→∃ v,valD ks vs k=some v∧Rep K G d v
  | [],_,_,_,_,_,e=>by cases e
  | _::_,[],_,_,_,_,e=>by cases e
  | k'::ks,d'::ds,_,k,d,⟨v,r,h1,h2,h3⟩,e=>by
    subst h1
    have e:(if k'=k then some d' else valD ks ds k)=some d:=e
    show ∃ u,(if k'=k then some v else valD ks r k)=some u∧_
    by_cases z:k'=k
    · rw [if_pos z] at e ⊢;cases e;exact ⟨v,rfl,h2⟩
    · rw [if_neg z] at e ⊢;exact Reps.val h3 e
theorem Reps.isVal:∀ {ks:List Int} {ds:List D} {vs:List V} (k:Int),Reps K G ds vs→(valD ks vs k).isSome=(valD ks ds k).isSome
  | [],_,_,_,_=>rfl
  | _::_,[],_,_,h=>by cases (show _=[] from h);rfl
  | k'::ks,d'::ds,_,k,⟨v,r,h1,h2,h3⟩=>by
    subst h1
    show (if k'=k then some v else valD ks r k).isSome=(if k'=k then some d' else valD ks ds k).isSome
    by_cases z:k'=k
    · rw [if_pos z,if_pos z];rfl
    · rw [if_neg z,if_neg z];exact Reps.isVal k h3
theorem Reps.repA:∀ {ks:List Int} {ds:List D} {vs:List V} (k:Int) {d:D} {v:V},Reps K G ds vs→Rep K G d v→Reps K G (Hk.repA ks ds k d) (Hk.repA ks vs k v)
  | [],_,_,_,_,_,h,_=>h
  | _::_,[],_,_,_,_,h,_=>by cases (show _=[] from h);rfl
  | k'::ks,d'::ds,_,k,d,v,⟨u,r,h1,h2,h3⟩,hv=>by
    subst h1
    refine ⟨_,_,rfl,?_,Reps.repA k h3 hv⟩
    by_cases z:k'=k
    · rw [if_pos z,if_pos z];exact hv
    · rw [if_neg z,if_neg z];exact h2
theorem Reps.putA {ks:List Int} {ds:List D} {vs:List V} (k:Int) {d:D} {v:V} (h:Reps K G ds vs) (hv:Rep K G d v):Reps K G (Hk.putA ks ds k d) (Hk.putA ks vs k v):=by
  unfold Hk.putA
  by_cases z:k∈ks
  · rw [if_pos z,if_pos z];exact h.repA k hv
  · rw [if_neg z,if_neg z];exact h.app (Reps.cons hv Reps.nil)
end
noncomputable def dicOf:Option (Option W)→Option (List Int×List D)
  | some (some (.od ks ds))=>some (ks,ds)
  | some (some (.sh (.dic ks ds)))=>some (ks,ds)
  | _=>none
theorem rd_mono {H H':Hp} {p:Addr} {u:HO} (e:Same H H') (h:Rd H p u):Rd H' p u:=by
  rcases h with h|⟨o,h⟩
  · exact .inl (e _ _ h)
  · exact .inr ⟨o,e _ _ h⟩
theorem dget_rd {H:Hp} {a:Addr} {kvs:List (Key×V)} {k:Key} (e:Rd H a (.dK kvs)):DGet H a (kV k) (valV kvs k):=.inl ⟨kvs,k,e,rfl,rfl⟩
set_option tactic.hygienic true in
theorem Own.dic {K:PySem.W.Frag} {G0:Hp} {H0:Fr} {G:Hp} {ω:WSt} {σ:St} {H:Hp} {i:Nat} {ks:List Int} {ds:List D} (o:Own K G0 H0 G ω σ H) (h:dicOf ω[i]?=some (ks,ds)) :
    ∃ p vs,σ[i]?=some (some (.ref p))∧Rd H p (.dK (kvsOf ks vs))∧ks.length=ds.length∧Reps K G ds vs:=by
  unfold dicOf at h
  split at h
  · rename_i q
    cases h
    obtain ⟨p,vs,h1,h2,_,_,h5,h6,_⟩:=o.od i _ _ q
    exact ⟨p,vs,h1,.inl h2,h5,h6⟩
  · rename_i q
    cases h
    obtain ⟨v,h1,p,vs,rfl,⟨ob,h2⟩,h3,h4⟩:=o.sh i _ q
    exact ⟨p,vs,h1,.inr ⟨ob,o.gh _ _ h2⟩,h3,h4⟩
  · cases h
section
variable {X:Cx} {o k e:Expr} {pos pos' dpos:Pos} {i:Nat} {fk fv:FD}
theorem hu1 (hu:X.A.units+64 < cLine):X.A.units+1 < cLine:=by omega
noncomputable def sDNew (i:Nat):FS:=fun ω=>some (.nx,ω.set i (some (.od [] [])))
theorem xs_dnew {x:Str} (hN:X.N.Nodup) (hi:X.N[i]?=some x) (hx:Loc X.env.scope x) (hs:swapsWith (.Dict [] [] dpos) (some (.Name x pos')) pos.line X.env=pure false:=by rfl) (hf:X.fn x=true∨X.env.scope.names.lookup x=some .local:=by first|exact .inl rfl|exact .inr rfl|assumption) :
    XS X (.Assign [.Name x pos'] (.Dict [] [] dpos) pos) (sDNew i):=by
  refine ⟨_,ps_set hN hi hx pe_dnewK hs hf,fun G0 H0 G ω σ H out ω' E ow e k=>?_⟩
  cases e
  intro p hp
  have o1:=ow.keep (Ext.hide ow.gh hp (.dK []))
  refine k G _ _ (o1.setOd (ks:=[]) (ds:=[]) (vs:=[]) upd_same (ow.gh.free hp) (ow.ext.hh.free hp) rfl Reps.nil fun j ks' es hj z=>?_) (Same.refl _)
  obtain ⟨q,us,h1,h2,_⟩:=ow.od j ks' es hj
  rw [h1] at z
  cases z
  rw [hp] at h2
  cases h2
noncomputable def sDSet (i:Nat) (fk fv:FD):FS:=fun ω=>(fv ω).bind fun d=>(fk ω).bind fun c=>match c,ω[i]? with
  | .int k,some (some (.od ks ds))=>if ks.length < 1000000 then some (.nx,ω.set i (some (.od (putKs ks k) (putA ks ds k d)))) else none
  | _,_=>none
set_option tactic.hygienic true in
theorem xs_dput (hu:X.A.units+64 < cLine) (ho:PE X o (tVar i)) (hk:XD X k fk) (hv:XD X e fv) (hs:swapsWith e (some (.Subscript o k pos')) pos.line X.env=pure false:=by rfl):XS X (.Assign [.Subscript o k pos'] e pos) (sDSet i fk fv):=by
  obtain ⟨tk,h1,h2⟩:=hk
  obtain ⟨tv,h3,h4⟩:=hv
  refine ⟨_,ps_dput (hu1 hu) ho h1 h3 hs,fun G0 H0 G ω σ H out ω' E ow e kk=>?_⟩
  obtain ⟨d,q1,e⟩:=bnd e
  obtain ⟨c,q2,e⟩:=bnd e
  refine h4 G0 H0 G ω σ H d _ ow q1 fun v G1 H1 x1 y1=>?_
  cases c with
  | int k =>
    split at e
    · rename_i _ _ _ k' ks ds ek q3
      cases ek
      by_cases z:ks.length < 1000000
      · rw [if_pos z] at e
        cases e
        have o1:=ow.keep x1
        obtain ⟨p,vs,r1,r2,r3,r4,r5,r6,r7⟩:=o1.od i ks ds q3
        refine ⟨.ref p,r1,h2 G0 H0 G1 ω σ H1 _ _ o1 q2 fun u G2 H2 x2 y2=>?_⟩
        cases (show u=.int k from y2)
        have o2:=o1.keep x2
        have hl:ks.length=vs.length:=by rw [r5];exact r6.len
        refine ⟨p,_,rfl,DPut.k (k:=Sum.inl k) (x2.hh _ _ r2) (by rw [kvsOf_len hl,sizeLine_eq];omega),?_⟩
        rw [kvsOf_put hl]
        exact kk G2 σ _ (o2.mutD q3 r1 (x2.hh _ _ r2) (x2.new p r3 (by rw [r2];exact fun z=>by cases z)) r4 (put_len k d r5) ((r6.mono x2.gg).putA k (y1.mono x2.gg))) (x1.gg.trans x2.gg)
      · rw [if_neg z] at e;cases e
    · cases e
  | _=>cases e
noncomputable def fDGet (i:Nat) (fk:FD):FE:=fun ω=>(dicOf ω[i]?).bind fun p=>(fk ω).bind fun c=>match c with
  | .int k=>(valD p.1 p.2 k).map R.sh
  | _=>none
theorem xe_dget (hu:X.A.units+64 < cLine) (ho:PE X o (tVar i)) (hk:XD X k fk) (hs:NoSl k:=by intro _ _;rfl):XE X (.Subscript o k pos) (fDGet i fk):=by
  obtain ⟨tk,h1,h2⟩:=hk
  refine ⟨_,pe_dget (hu1 hu) ho h1 hs,fun G0 H0 G ω σ H r Q ow e kk=>?_⟩
  obtain ⟨⟨ks,ds⟩,q1,e⟩:=bnd e
  obtain ⟨c,q2,e⟩:=bnd e
  obtain ⟨p,vs,r1,r2,r3,r4⟩:=ow.dic q1
  refine ⟨.ref p,r1,h2 G0 H0 G ω σ H c _ ow q2 fun u G1 H1 x1 y1=>?_⟩
  cases c with
  | int k =>
    cases (show u=.int k from y1)
    obtain ⟨d,q3,e⟩:=mpd e
    subst e
    obtain ⟨v,z1,z2⟩:=r4.val q3
    have hl:ks.length=vs.length:=by rw [r3];exact r4.len
    have g:=dget_rd (k:=(Sum.inl k:Key)) (rd_mono x1.hh r2)
    rw [kvsOf_val hl,z1] at g
    exact ⟨p,v,rfl,g,kk v G1 H1 x1 (z2.mono x1.gg)⟩
  | _=>cases e
noncomputable def tDHas (neg:Bool) (i:Nat) (fk:FD):FT:=fun ω=>(fk ω).bind fun c=>(dicOf ω[i]?).bind fun p=>match c with
  | .int k=>some (if neg then !(valD p.1 p.2 k).isSome else (valD p.1 p.2 k).isSome)
  | _=>none
theorem sim_din {tk:TE} {neg:Bool} (h2:SimD X.K tk fk):SimT X.K (tB (if neg then tDNotIn tk (tVar i) else L2.tDIn tk (tVar i))) (tDHas neg i fk):=by
  intro G0 H0 G ω σ H b Q ow e kk
  obtain ⟨c,q2,e⟩:=bnd e
  obtain ⟨⟨ks,ds⟩,q1,e⟩:=bnd e
  cases c with
  | int k =>
    have fin:∀ (u:V) G1 H1,Ext G H G1 H1→u=.int k→∃ p vs,σ[i]?=some (some (.ref p))∧DGet H1 p u (valD ks vs k)∧(valD ks vs k).isSome=(valD ks ds k).isSome:=fun u G1 H1 x1 hu=>by
      subst hu
      obtain ⟨p,vs,r1,r2,r3,r4⟩:=ow.dic q1
      have hl:ks.length=vs.length:=by rw [r3];exact r4.len
      have g:=dget_rd (k:=(Sum.inl k:Key)) (rd_mono x1.hh r2)
      rw [kvsOf_val hl] at g
      exact ⟨p,vs,r1,g,Reps.isVal k r4⟩
    cases neg with
    | true =>
      refine h2 G0 H0 G ω σ H _ _ ow q2 fun u G1 H1 x1 y1=>?_
      obtain ⟨p,vs,r1,g,hs⟩:=fin u G1 H1 x1 y1
      refine ⟨.ref p,r1,p,_,rfl,g,_,rfl,?_⟩
      cases e
      rw [hs]
      exact kk G1 H1 x1
    | false =>
      refine h2 G0 H0 G ω σ H _ _ ow q2 fun u G1 H1 x1 y1=>?_
      obtain ⟨p,vs,r1,g,hs⟩:=fin u G1 H1 x1 y1
      refine ⟨.ref p,r1,p,_,rfl,g,_,rfl,?_⟩
      cases e
      rw [hs]
      exact kk G1 H1 x1
  | _=>cases e
theorem xt_dnotin (hu:X.A.units+64 < cLine) (hk:XD X k fk) (ho:PE X o (tVar i)) (hb:behindInMarks .NotIn o=false:=by rfl):XT X (.Compare k [.NotIn] [o] pos) (tDHas true i fk):=by
  obtain ⟨tk,h1,h2⟩:=hk
  exact ⟨_,pt_cmp (pc_dnotin (hu1 hu) h1 ho) hb,sim_din (neg:=true) h2⟩
end
end Hk
set_option maxRecDepth 100000
namespace Hk
open PySem L2
section
variable {X:Cx} {o k e:Expr} {pos pos' dpos:Pos} {i:Nat} {fk fv:FD}
noncomputable def sDNew1 (i:Nat) (fk fv:FD):FS:=fun ω=>(fk ω).bind fun c=>(fv ω).bind fun d=>match c with
  | .int k=>some (.nx,ω.set i (some (.od [k] [d])))
  | _=>none
theorem xs_dnew1 {x:Str} (hN:X.N.Nodup) (hi:X.N[i]?=some x) (hx:Loc X.env.scope x) (hk:XD X k fk) (hv:XD X e fv) (hs:swapsWith (.Dict [some k] [e] dpos) (some (.Name x pos')) pos.line X.env=pure false:=by rfl) (hf:X.fn x=true∨X.env.scope.names.lookup x=some .local:=by first|exact .inl rfl|exact .inr rfl|assumption) :
    XS X (.Assign [.Name x pos'] (.Dict [some k] [e] dpos) pos) (sDNew1 i fk fv):=by
  obtain ⟨tk,h1,h2⟩:=hk
  obtain ⟨tv,h3,h4⟩:=hv
  refine ⟨_,ps_set hN hi hx (pe_disp (pps_cons h1 h3 pps_nil) rfl rfl (by simp) (by show 1≤15;decide)) hs hf,fun G0 H0 G ω σ H out ω' E ow e kk=>?_⟩
  obtain ⟨c,q1,e⟩:=bnd e
  obtain ⟨d,q2,e⟩:=bnd e
  cases c with
  | int k =>
    cases e
    intro p hp
    have x0:=Ext.hide ow.gh hp (.dK [])
    have o1:=ow.keep x0
    refine h2 G0 H0 G ω σ _ _ _ o1 q1 fun u G1 H1 x1 y1=>?_
    cases (show u=.int k from y1)
    have o2:=o1.keep x1
    refine h4 G0 H0 G1 ω σ H1 d _ o2 q2 fun v G2 H2 x2 y2=>?_
    have o3:=o2.keep x2
    have hp2:H2 p=some (.dK []):=x2.hh _ _ (x1.hh _ _ upd_same)
    have gp1:G1 p=none:=x1.new p (ow.gh.free hp) (by rw [upd_same];exact fun z=>by cases z)
    have gp2:G2 p=none:=x2.new p gp1 (by rw [x1.hh _ _ upd_same];exact fun z=>by cases z)
    have h0p:H0 p=none:=ow.ext.hh.free hp
    refine ⟨hp2,[(Sum.inl k,v)],rfl,by show 1≤15;decide,?_⟩
    have em:mergeK [] [((Sum.inl k:Key),v)]=kvsOf [k] [v]:=by
      show putK [] (Sum.inl k:Key) v=_
      unfold putK
      rw [if_neg (by simp)]
      rfl
    rw [em]
    have ext4:Ext G0 H0.hp G2 (upd H2 p (.dK (kvsOf [k] [v]))):=⟨o3.ext.gg,same_updR o3.ext.gh gp2 _,same_updR o3.ext.hh h0p _,o3.ext.new⟩
    have np:∀ (j:Nat) ds',ω[j]?=some (some (.ow ds'))→∀ l vs,σ[j]?=some (some (.ref l))→H2 l=some (.lst vs)→l≠p:=fun j ds' hj l vs _ h z=>by rw [z,hp2] at h;cases h
    have npd:∀ (j:Nat) ks' es,ω[j]?=some (some (.od ks' es))→σ[j]?≠some (some (.ref p)):=fun j ks' es hj z=>by
      obtain ⟨q,us,w1,w2,_⟩:=ow.od j ks' es hj
      rw [w1] at z
      cases z
      rw [hp] at w2
      cases w2
    have o4:Own X.K G0 H0 G2 ω σ (upd H2 p (.dK (kvsOf [k] [v]))):=by
      refine ⟨ext4,o3.len,o3.sh,fun j ds' hj=>?_,o3.nd,fun j ks' es hj=>?_,o3.pw.upd (o3.pw.ne_ob fun vs z=>by rw [hp2] at z;cases z)⟩
      · obtain ⟨l,vs,w1,w2,w3,w4,w5⟩:=o3.ow j ds' hj
        exact ⟨l,vs,w1,by rw [upd_ne (np j ds' hj l vs w1 w2)];exact w2,w3,w4,w5⟩
      · obtain ⟨q,us,w1,w2,w3,w4,w5,w6,w7⟩:=o3.od j ks' es hj
        have nq:q≠p:=fun z=>npd j ks' es hj (by rw [←z];exact w1)
        exact ⟨q,us,w1,by rw [upd_ne nq];exact w2,w3,w4,w5,w6,w7⟩
    exact kk G2 _ _ (o4.setOd (ks:=[k]) (ds:=[d]) (vs:=[v]) upd_same gp2 h0p rfl (Reps.cons y2 Reps.nil) npd) (x1.gg.trans x2.gg)
  | _=>cases e
end
section
open PySem.Spec PyProof.Rows PySem.W
theorem ints_ix:∀ (vs:List Value) (ns:List Int),vs.length=ns.length→(∀ (j:Nat) v n,vs[j]?=some v→ns[j]?=some n→∃ t,v=.int n t)→IntsAre vs ns
  | [],[],_,_=>.nil
  | [],_::_,h,_=>by simp at h
  | _::_,[],h,_=>by simp at h
  | v::vs,n::ns,h,f=>by
    obtain ⟨t,rfl⟩:=f 0 v n rfl rfl
    exact .cons _ _ (ints_ix vs ns (by simpa using h) fun j a b e1 e2=>f (j+1) a b (by simpa using e1) (by simpa using e2))
variable {prog:Program} {w:World} {A:Around} {E:Value→Shared→Prop} {s:Shared}
theorem sorted_dict {a:Addr} {kvs:List (Key×Value)} {ns:List Int} {Q:Value→Shared→Prop} (hh:A.handled=none) (lo:(a == sysModules)=false) (dd:s.heap.DictOf (mixKind prog w) a kvs) (hk:kvs.map (·.1)=ns.map (Sum.inl:Int→Key)) (h64:ns.length < 64)
    (h:∀ (h1 h':Heap) (tk:Nat) (vs:List Value) (ys:List Int) (n:Nat),(∀ b o,s.heap.get? b=some o→h1.get? b=some o)→(∀ b o,h1.get? b=some o→h'.get? b=some o)→h'.get? h1.objs.size=some (seqObj "list" vs.toArray n)→IntsAre vs ys→ys.Perm ns→ys.Pairwise (·≤·)→Q (.ref h1.objs.size) { s with heap:=h',toks:=tk }) :
    wpAny (model prog w) A (call (.builtin "sorted") [.ref a]) Q E s:=by
  obtain ⟨ep,hat⟩:=dd.dictAt
  have hkl:kvs.length=ns.length:=by have:=congrArg List.length hk;simpa using this
  refine Calls.call_function_entry kind_sorted plain_sorted entry_sorted (args_sorted1 _) ?_
  unfold Builtin.«sorted»
  refine wpAny_bind (m:=checkCount "sorted" 1 1 _) (wpAny_pure ?_)
  refine wpAny_bind (kdu_collect (A:=A.in1) (kdl_dict (knd:=mixKind prog w) (kvs:=kvs) (ep:=ep) lo) hh hat (by rw [hkl];exact Nat.le_trans (Nat.le_of_lt h64) (by decide)) fun h1 tk acc hk1 hacc=>?_)
  have y1:IntsAre acc.toList ns:=by
    refine ints_ix _ _ (by rw [Array.length_toList,hacc.1,hkl]) fun j v n e1 e2=>?_
    obtain ⟨k,x,hx,hi⟩:=hacc.2 j v (by rw [←Array.getElem?_toList];exact e1)
    have e3:(kvs.map (·.1))[j]?=some k:=by rw [List.getElem?_map,hx];rfl
    rw [hk,List.getElem?_map,e2] at e3
    cases e3
    rcases keyIs_shape (k:=(Sum.inl n:Key)) hi with ⟨i,t,e4,rfl⟩|⟨x,t,e4,_⟩
    · cases e4;exact ⟨t,rfl⟩
    · cases e4
  have hlen:acc.toList.length=ns.length:=IntsAre.length y1
  refine wpAny_bind (wpAny_newList ?_ (Nat.le_trans (by rw [hlen];exact Nat.le_of_lt h64) (by decide)))
  generalize acc.toList=vs at y1 hlen
  have hoL:(h1.push (seqObj "list" vs.toArray 0)).get? h1.objs.size=some (seqObj "list" vs.toArray 0):=Heap.get?_push_size _ rfl
  refine wpAny_bind (wpAny_holding (wpAny_call_entry slot_list_sort ⟨_,hoL,rfl⟩ entry_list_sort (list_sort_tree hoL y1 (by rw [hlen];exact h64) fun out ns' a1 a2 a3=>⟨_,rfl,?_⟩) (args_list_sort _)))
  obtain ⟨n,hn⟩:=sortedHeap_at (vs:=vs) (out:=out) hoL
  refine wpAny_pure ⟨_,rfl,h h1 _ tk out.toList ns' n hk1 (fun b o e1=>?_) ?_ a1 a2 a3⟩
  · rw [sortedHeap_old (Nat.ne_of_lt (Heap.lt_size e1)) (by rw [Heap.size_push];exact Nat.lt_succ_of_lt (Heap.lt_size e1))]
    exact Heap.get?_push_of_some _ e1
  · rw [Array.toArray_toList];exact hn
end
def rSortD:List V→Hp→VK→Prop:=fun xs H Q=>∃ p kvs ns,xs=[.ref p]∧Rd H p (.dK kvs)∧kvs.map (·.1)=ns.map (Sum.inl:Int→Key)∧ns.length < 64∧∀ l,H l=none→Q (.ref l) (upd H l (.lst ((sortZ ns).map V.int)))
section
variable {X:Cx} {o:Expr} {i:Nat}
theorem call_sortD (hc:X.calm=true):CallR X (.builtin "sorted") rSortD:=by
  intro pins s σ H xs us Q I r h
  obtain ⟨p,kvs,ns,rfl,hp,hk,hz,q⟩:=h
  obtain ⟨u,rfl,rx⟩:=vals1 r
  cases rx
  obtain ⟨_,lo,vs,rel,dd⟩:=dk_rd I.hok hp
  refine sorted_dict (I.ok.hd hc) lo dd (by rw [←rel.keys];exact hk) hz fun h1 h' tk us ys n k1 k2 g1 a1 a2 a3=>?_
  have en:ys=sortZ ns:=le_perm_eq a3 sortZ_le (a2.trans sortZ_perm.symm)
  subst en
  have I1:Inv X pins σ H { s with heap:=h1,toks:=tk }:=I.kept k1
  have hsl:(sortZ ns).length≤sizeLine:=by rw [sortZ_len];exact Nat.le_trans (Nat.le_of_lt hz) (by decide)
  have I2:=I1.laid (a:=h1.objs.size) (o:=.lst ((sortZ ns).map V.int)) (t':=tk) (h':=h') k2 (Nat.le_refl _)
    (show ObjOk X.prog X.w _ h' _ (.lst _) from ⟨by rw [List.length_map];exact hsl,us,n,vals_ints a1,g1⟩)
  exact ⟨.ref _,_,I2,rfl,q _ (I1.hok.fresh (Nat.le_refl _))⟩
noncomputable def fSortD (i:Nat):FE:=fun ω=>(dicOf ω[i]?).bind fun p=>if p.1.length < 64 then some (.fr ((sortZ p.1).map D.int)) else none
theorem xe_sortD {p q:Pos} (hc:X.calm=true) (hg:Gl X "sorted") (hm:X.mg "sorted" = none) (ho:PE X o (tVar i))
    (he:starEach [o] X.env=(false,eval o X.env)::starEach [] X.env:=by rfl) (hpl:(backTo q (starEach [] X.env)).any (·.1)=false:=by rfl):XE X (.Call (.Name "sorted" p) [o] [] q) (fSortD i):=by
  refine ⟨_,pe_callB (call_sortD hc) hg hm bt_sorted (pa_cons ho pa_nil he) (by decide) (by decide) he hpl,fun G0 H0 G ω σ H r Q ow e k=>?_⟩
  obtain ⟨⟨ks,ds⟩,q1,e⟩:=bnd e
  obtain ⟨p,vs,r1,r2,r3,r4⟩:=ow.dic q1
  by_cases hz:ks.length < 64
  · have e:(if ks.length < 64 then some (R.fr ((sortZ ks).map D.int)) else none)=some r:=e
    rw [if_pos hz] at e
    cases e
    refine ⟨.ref p,r1,p,_,ks,rfl,r2,kvsOf_keys (by rw [r3];exact r4.len),hz,fun l hl=>?_⟩
    have x2:=Ext.hide ow.gh hl (.lst ((sortZ ks).map V.int))
    exact k _ G _ x2 ⟨l,_,rfl,hl,ow.gh.free hl,upd_same,Reps.ints _⟩
  · have e:(if ks.length < 64 then some (R.fr ((sortZ ks).map D.int)) else none)=some r:=e
    rw [if_neg hz] at e;cases e
noncomputable def mPop0 (i:Nat):FM:=fun ω=>match ω[i]? with
  | some (some (.ow ds))=>(ds[ds.length - 1]?).map fun d=>(d,ω.set i (some (.ow ds.dropLast)))
  | _=>none
theorem Reps.dropLast {K:PySem.W.Frag} {H:Hp} {ds:List D} {vs:List V} (h:Reps K H ds vs):Reps K H ds.dropLast vs.dropLast:=by
  rw [List.dropLast_eq_take,List.dropLast_eq_take,h.len];exact h.take _
set_option tactic.hygienic true in
theorem xm_pop0 {apos cpos:Pos} (ho:PE X o (tVar i)) (hbase:attributeBase o "pop" X.env (eval o X.env)=eval o X.env:=by rfl) (hline:(apos.endLine == cpos.line)=true:=by rfl) :
    XM X (.Call (.Attribute o "pop" apos) [] [] cpos) (mPop0 i):=by
  refine ⟨_,pe_bm0 PySem.F.plainAttrs_list PySem.F.slot_list_pop PySem.F.type_list_pop mt_pop ho hbase hline,fun G0 H0 G ω σ H d ω' Q ow e k=>?_⟩
  unfold mPop0 at e
  split at e
  · rename_i ds q2
    obtain ⟨d1,hd,e⟩:=mpd e
    cases e
    obtain ⟨l,vs,r1,r2,r3,r4,r5⟩:=ow.ow i ds q2
    obtain ⟨y,hy,ry⟩:=r5.get hd
    refine ⟨.ref l,r1,.inl ⟨rfl,vs,SqL.of r2⟩,l,vs,y,rfl,rfl,r2,by rw [←r5.len];exact hy,k y G _ (ow.mut q2 r1 r2 r3 r4 r5.dropLast) (Same.refl _) ry⟩
  · cases e
end
end Hk
set_option maxRecDepth 100000
namespace Hk
open PySem L2
noncomputable def appA:List Int→List (List Int)→Int→Int→List (List Int)
  | k::ks,x::xs,a,b=>if k=a then (x++[b])::xs else x::appA ks xs a b
  | _,xs,_,_=>xs
structure Tab (G H0 H:Hp) (p:Addr) (ks:List Int) (ls:List Addr) (xss:List (List Int)):Prop where
  dict:H p=some (.dK (kvsOf ks (ls.map V.ref)))
  gp:G p=none
  hp:H0 p=none
  len:ks.length=ls.length
  len2:ls.length=xss.length
  lst:∀ (j:Nat) l xs,ls[j]?=some l→xss[j]?=some xs→H l=some (.lst (xs.map V.int))
  gl:∀ l∈ls,G l=none∧H0 l=none
  nd:ls.Nodup
theorem Tab.inn {G H0 H:Hp} {p:Addr} {ks:List Int} {ls:List Addr} {xss:List (List Int)} (T:Tab G H0 H p ks ls xss) {l:Addr} (h:l∈ls):∃ xs:List Int,H l=some (.lst (xs.map V.int)):=by
  obtain ⟨j,hj,rfl⟩:=List.mem_iff_getElem.mp h
  have hj2:j < xss.length:=by rw [←T.len2];exact hj
  exact ⟨xss[j],T.lst j _ _ (List.getElem?_eq_getElem hj) (List.getElem?_eq_getElem hj2)⟩
theorem Tab.pl {G H0 H:Hp} {p:Addr} {ks:List Int} {ls:List Addr} {xss:List (List Int)} (T:Tab G H0 H p ks ls xss):p∉ls:=fun h=>by
  obtain ⟨xs,e⟩:=T.inn h
  rw [T.dict] at e
  cases e
theorem Tab.keep {G G' H0 H H':Hp} {p:Addr} {ks:List Int} {ls:List Addr} {xss:List (List Int)} (T:Tab G H0 H p ks ls xss) (x:Ext G H G' H'):Tab G' H0 H' p ks ls xss :=
  ⟨x.hh _ _ T.dict,x.new p T.gp (by rw [T.dict];exact fun z=>by cases z),T.hp,T.len,T.len2,fun j l xs h1 h2=>x.hh _ _ (T.lst j l xs h1 h2),fun l h=>by
    obtain ⟨xs,e⟩:=T.inn h
    exact ⟨x.new l (T.gl l h).1 (by rw [e];exact fun z=>by cases z),(T.gl l h).2⟩,T.nd⟩
theorem val_ix:∀ {ks:List Int} {ls:List Addr} {a:Int},ks.length=ls.length→a∈ks→∃ (j:Nat) (l:Addr),ks[j]?=some a∧ls[j]?=some l∧valD ks (ls.map V.ref) a=some (.ref l)∧∀ (xss:List (List Int)) (b:Int),xss.length=ls.length→∃ xs,xss[j]?=some xs∧appA ks xss a b=xss.set j (xs++[b])
  | [],_,_,_,h=>by simp at h
  | _::_,[],_,h,_=>by simp at h
  | k::ks,l::ls,a,h,ha=>by
    by_cases z:k=a
    · refine ⟨0,l,by rw [z];rfl,rfl,if_pos z,fun xss b hx=>?_⟩
      cases xss with
      | nil=>simp at hx
      | cons x xs=>exact ⟨x,rfl,if_pos z⟩
    · have ha':a∈ks:=(List.mem_cons.mp ha).resolve_left fun e=>z e.symm
      obtain ⟨j,l',e1,e2,e3,e4⟩:=val_ix (ks:=ks) (ls:=ls) (by simpa using h) ha'
      refine ⟨j+1,l',e1,e2,?_,fun xss b hx=>?_⟩
      · show (if k=a then _ else _)=_
        rw [if_neg z];exact e3
      · cases xss with
        | nil=>simp at hx
        | cons x xs =>
          obtain ⟨y,h1,h2⟩:=e4 xs b (by simpa using hx)
          refine ⟨y,h1,?_⟩
          show (if k=a then _ else x::appA ks xs a b)=_
          rw [if_neg z,h2];rfl
theorem Tab.app {G H0 H:Hp} {p:Addr} {ks:List Int} {ls:List Addr} {xss:List (List Int)} (T:Tab G H0 H p ks ls xss) {a:Int} (b:Int) (ha:a∈ks) :
    ∃ (l:Addr) (xs:List Int),l∈ls∧xs∈xss∧valD ks (ls.map V.ref) a=some (.ref l)∧DGet H p (.int a) (some (.ref l))∧H l=some (.lst (xs.map V.int))∧Tab G H0 (upd H l (.lst ((xs++[b]).map V.int))) p ks ls (appA ks xss a b):=by
  obtain ⟨j,l,e1,e2,e3,e4⟩:=val_ix T.len ha
  obtain ⟨xs,e5,e6⟩:=e4 xss b T.len2.symm
  have hl:l∈ls:=List.mem_of_getElem? e2
  have hlp:p≠l:=fun z=>T.pl (z▸hl)
  have g:=DGet.k (k:=(Sum.inl a:Key)) T.dict
  rw [kvsOf_val (by rw [List.length_map];exact T.len),e3] at g
  refine ⟨l,xs,hl,List.mem_of_getElem? e5,e3,g,T.lst j l xs e2 e5,?_⟩
  rw [e6]
  refine ⟨by rw [upd_ne hlp];exact T.dict,T.gp,T.hp,T.len,by rw [List.length_set];exact T.len2,fun i m ys h1 h2=>?_,T.gl,T.nd⟩
  rcases get_set h2 with ⟨rfl,_,rfl⟩|⟨ne,h3⟩
  · rw [e2] at h1
    cases h1
    exact upd_same
  · have hm:m≠l:=fun z=>by
      subst z
      obtain ⟨i1,i2⟩:=List.getElem?_eq_some_iff.mp h1
      obtain ⟨j1,j2⟩:=List.getElem?_eq_some_iff.mp e2
      exact ne ((List.getElem_inj T.nd).mp (j2.trans i2.symm))
    rw [upd_ne hm]
    exact T.lst i m ys h1 h3
theorem Own.free {K:PySem.W.Frag} {G0:Hp} {H0:Fr} {G:Hp} {ω:WSt} {σ:St} {H:Hp} {q:Addr} {ob:HO} (o:Own K G0 H0 G ω σ H) (no:NoOw ω) (hG:G q=none) (h0:H0 q=none):Own K G0 H0 G ω σ (upd H q ob) :=
  ⟨⟨o.ext.gg,same_updR o.ext.gh hG _,same_updR o.ext.hh h0 _,o.ext.new⟩,o.len,o.sh,fun i ds h=>absurd h (no.ow i ds),o.nd,fun i ks ds h=>absurd h (no.od i ks ds),PwOk.no no.pw⟩
theorem Tab.put {G H0 H:Hp} {p:Addr} {ks:List Int} {ls:List Addr} {xss:List (List Int)} (T:Tab G H0 H p ks ls xss) {k:Int} {l:Addr} (hk:k∉ks) (hl:H l=none) (sg:Same G H) (s0:Same H0 H) (hz:ks.length < 1000000) :
    ∃ H4,DPut (upd H l (.lst [])) p (.int k) (.ref l) H4∧H4=upd (upd H l (.lst [])) p (.dK (kvsOf (ks++[k]) ((ls++[l]).map V.ref)))∧Tab G H0 H4 p (ks++[k]) (ls++[l]) (xss++[[]]):=by
  have hpl:p≠l:=fun z=>by rw [←z,T.dict] at hl;cases hl
  have hlen:ks.length=(ls.map V.ref).length:=by rw [List.length_map];exact T.len
  have e:putK (kvsOf ks (ls.map V.ref)) (Sum.inl k) (.ref l)=kvsOf (ks++[k]) ((ls++[l]).map V.ref):=by
    rw [kvsOf_put hlen]
    unfold putKs putA
    rw [if_neg hk,if_neg hk,List.map_append];rfl
  have d:=DPut.k (H:=upd H l (.lst [])) (a:=p) (kvs:=kvsOf ks (ls.map V.ref)) (k:=(Sum.inl k:Key)) (v:=.ref l) (by rw [upd_ne hpl];exact T.dict) (by rw [kvsOf_len hlen,sizeLine_eq];omega)
  rw [e] at d
  refine ⟨_,d,rfl,upd_same,T.gp,T.hp,by rw [List.length_append,List.length_append,T.len];rfl,by rw [List.length_append,List.length_append,T.len2];rfl,fun j m xs h1 h2=>?_,fun m hm=>?_,?_⟩
  · rcases Nat.lt_or_ge j ls.length with z|z
    · rw [List.getElem?_append_left z] at h1
      rw [List.getElem?_append_left (by rw [←T.len2];exact z)] at h2
      have e1:=T.lst j m xs h1 h2
      have n1:m≠p:=fun y=>T.pl (y▸List.mem_of_getElem? h1)
      have n2:m≠l:=fun y=>by rw [y,hl] at e1;cases e1
      rw [upd_ne n1,upd_ne n2];exact e1
    · rw [List.getElem?_append_right z] at h1
      rw [List.getElem?_append_right (by rw [←T.len2];exact z),←T.len2] at h2
      cases hj:j - ls.length with
      | zero =>
        rw [hj] at h1 h2
        cases h1
        cases h2
        rw [upd_ne (Ne.symm hpl)];exact upd_same
      | succ n=>rw [hj] at h1;cases h1
  · rcases List.mem_append.mp hm with h|h
    · exact T.gl m h
    · cases List.mem_singleton.mp h;exact ⟨sg.free hl,s0.free hl⟩
  · rw [List.nodup_append]
    refine ⟨T.nd,by simp,fun a ha b hb z=>?_⟩
    cases List.mem_singleton.mp hb
    obtain ⟨xs,e1⟩:=T.inn ha
    rw [z,hl] at e1
    cases e1
noncomputable def pairsOf:List D→Option (List (Int×Int))
  | []=>some []
  | .tup [.int a,.int b]::r=>(pairsOf r).map fun l=>(a,b)::l
  | _=>none
noncomputable def pairD2 (e:Int×Int):D:=.tup [.int e.1,.int e.2]
set_option tactic.hygienic true in
theorem pairsOf_of:∀ {ds:List D} {es:List (Int×Int)},pairsOf ds=some es→ds=es.map pairD2
  | [],_,h=>by cases h;rfl
  | d::r,es,h=>by
    unfold pairsOf at h
    split at h
    · rename_i e;cases e
    · rename_i e
      cases e
      obtain ⟨l,h1,h2⟩:=mpd h
      subst h2
      rw [pairsOf_of h1];rfl
    · cases h
theorem pairsOf_map:∀ es:List (Int×Int),pairsOf (es.map pairD2)=some es
  | []=>rfl
  | e::r=>by show (pairsOf (r.map pairD2)).map _=_;rw [pairsOf_map r];rfl
noncomputable def nbStep (ks:List Int) (xss:List (List Int)) (e:Int×Int):List (List Int):=appA ks (appA ks xss e.1 e.2) e.2 e.1
noncomputable def nbT (ts:List Int) (es:List (Int×Int)):List (List Int):=es.foldl (nbStep ts) (ts.map fun _=>[])
noncomputable def nbM (a b:List D):Option D:=(intsOf a).bind fun ts=>(pairsOf b).bind fun es=>if ts.Nodup∧(∀ e∈es,e.1∈ts∧e.2∈ts)∧ts.length≤1000∧es.length≤1000 then some (.dic ts ((nbT ts es).map fun xs=>.lst (xs.map D.int))) else none
noncomputable def sNb:FS:=fun ω=>match ω with
  | [some (.sh (.lst a)),some (.sh (.lst b)),none,none,none]=>(nbM a b).map fun d=>(.rt (.sh d),ω)
  | _=>none
theorem noOw5 {a b:D} {x:Option D}:NoOw [some (.sh a),some (.sh b),none,none,x.map W.sh]:=by
  intro i w e
  match i,e with
  | 0,e=>cases e;exact ⟨_,rfl⟩
  | 1,e=>cases e;exact ⟨_,rfl⟩
  | 2,e=>cases e
  | 3,e=>cases e
  | 4,e =>
    cases x with
    | none=>cases e
    | some d=>cases e;exact ⟨d,rfl⟩
  | i+5,e=>simp at e
theorem Own.other {K:PySem.W.Frag} {G0:Hp} {H0:Fr} {G:Hp} {ω:WSt} {σ:St} {H:Hp} {i:Nat} {v:Option V} (o:Own K G0 H0 G ω σ H) (no:NoOw ω) (hi:∀ w,ω[i]?≠some (some w)):Own K G0 H0 G ω (σ.set i v) H :=
  ⟨o.ext,by rw [List.length_set];exact o.len,fun j d h=>by
    obtain ⟨u,h1,h2⟩:=o.sh j d h
    exact ⟨u,by rw [List.getElem?_set_ne (fun z=>hi _ (z▸h))];exact h1,h2⟩,fun i ds h=>absurd h (no.ow i ds),fun i j ds es l h=>absurd h (no.ow i ds),fun i ks ds h=>absurd h (no.od i ks ds),PwOk.no no.pw⟩
theorem appA_bd (n:Nat):∀ (ks:List Int) (xss:List (List Int)) (a b:Int),(∀ x∈xss,x.length≤n)→∀ x∈appA ks xss a b,x.length≤n+1
  | [],xss,_,_,h,x,hx=>Nat.le_succ_of_le (h x hx)
  | _::_,[],_,_,h,x,hx=>by cases hx
  | k::ks,y::xss,a,b,h,x,hx=>by
    unfold appA at hx
    by_cases z:k=a
    · rw [if_pos z] at hx
      rcases List.mem_cons.mp hx with rfl|hx
      · have:=h y List.mem_cons_self
        rw [List.length_append,List.length_singleton];omega
      · exact Nat.le_succ_of_le (h x (List.mem_cons_of_mem _ hx))
    · rw [if_neg z] at hx
      rcases List.mem_cons.mp hx with rfl|hx
      · exact Nat.le_succ_of_le (h _ List.mem_cons_self)
      · exact appA_bd n ks xss a b (fun x h'=>h x (List.mem_cons_of_mem _ h')) x hx
theorem Tab.told {K:PySem.W.Frag} {G0 G:Hp} {H0:Fr} {H:Hp} {ω:WSt} {σ:St} {p:Addr} {ks:List Int} {ls:List Addr} {xss:List (List Int)} (T:Tab G H0 H p ks ls xss) (o:Own K G0 H0 G ω σ H) (no:NoOw ω) (ob:Obj) :
    ∃ G',Same G G'∧Own K G0 H0 G' ω σ (upd H p (.frz ob (.dK (kvsOf ks (ls.map V.ref)))))∧Rep K G' (.dic ks (xss.map fun xs=>.lst (xs.map D.int))) (.ref p):=by
  obtain ⟨H',hH⟩:∃ H':Hp,H'=upd H p (.frz ob (.dK (kvsOf ks (ls.map V.ref)))):=⟨_,rfl⟩
  rw [←hH]
  have hp':H' p=some (.frz ob (.dK (kvsOf ks (ls.map V.ref)))):=by rw [hH];exact upd_same
  have hn':∀ b,b≠p→H' b=H b:=fun b h=>by rw [hH];exact upd_ne h
  let G':Hp:=fun b=>if b=p∨b∈ls then H' b else G b
  have hin:∀ b,(b=p∨b∈ls)→G' b=H' b:=fun b h=>if_pos h
  have hout:∀ b,¬(b=p∨b∈ls)→G' b=G b:=fun b h=>if_neg h
  have gn:∀ b,(b=p∨b∈ls)→G b=none∧H0 b=none:=fun b h=>by
    rcases h with rfl|h
    · exact ⟨T.gp,T.hp⟩
    · exact T.gl b h
  have gg:Same G G':=fun b u z=>by
    by_cases y:b=p∨b∈ls
    · rw [(gn b y).1] at z;cases z
    · rw [hout b y];exact z
  have gh:Same G' H':=fun b u z=>by
    by_cases y:b=p∨b∈ls
    · rw [hin b y] at z;exact z
    · rw [hout b y] at z;rw [hn' b fun w=>y (.inl w)];exact o.gh b u z
  have hh:Same H0.hp H':=fun b u z=>by
    rw [hn' b fun w=>by rw [w,T.hp] at z;cases z];exact o.ext.hh b u z
  refine ⟨G',gg,⟨⟨o.ext.gg.trans gg,gh,hh,fun b z1 z2=>?_⟩,o.len,fun i d h=>?_,fun i ds h=>absurd h (no.ow i ds),o.nd,fun i ks ds h=>absurd h (no.od i ks ds),PwOk.no no.pw⟩,p,ls.map V.ref,rfl,⟨ob,by rw [hin p (.inl rfl)];exact hp'⟩,by rw [List.length_map,←T.len2];exact T.len,?_⟩
  · by_cases y:b=p∨b∈ls
    · exact absurd (gn b y).2 z2
    · rw [hout b y];exact o.ext.new b z1 z2
  · obtain ⟨v,h1,h2⟩:=o.sh i d h
    exact ⟨v,h1,h2.mono gg⟩
  · refine reps_refs (by rw [List.length_map];exact T.len2.symm) fun j d t h1 h2=>?_
    rw [List.getElem?_map] at h1
    cases q:xss[j]? with
    | none=>rw [q] at h1;cases h1
    | some xs =>
      rw [q] at h1
      cases h1
      have hl:=T.lst j t xs h2 q
      exact ⟨t,_,rfl,by rw [hin t (.inr (List.mem_of_getElem? h2)),hn' t fun w=>by rw [w,T.dict] at hl;cases hl];exact hl,Reps.ints xs⟩
theorem nb_app {K:PySem.W.Frag} {ta tb:TE} {g0 g1:FD} (k2:SimD K ta g0) (k4:SimD K tb g1) {G0:Hp} {H0:Fr} {G:Hp} {ω:WSt} {σ:St} {H:Hp} {p:Addr} {ks:List Int} {ls:List Addr} {xss:List (List Int)} {a b:Int} {Q:VK} (o:Own K G0 H0 G ω σ H) (no:NoOw ω) (hσ:σ[2]?=some (some (.ref p))) (T:Tab G H0 H p ks ls xss)
    (h0:g0 ω=some (.int a)) (h1:g1 ω=some (.int b)) (ha:a∈ks) (hz:∀ xs∈xss,xs.length < 1000000)
    (h:∀ G' H',Own K G0 H0 G' ω σ H'→Same G G'→Tab G' H0 H' p ks ls (appA ks xss a b)→Q .non H'):tBM K "list" rAppend (tDGet (tVar 2) ta) (tCons tb tNil) σ H Q:=by
  refine ⟨.ref p,hσ,k2 G0 H0 G ω σ H _ _ o h0 fun u G1 H1 x1 y1=>?_⟩
  cases (show u=.int a from y1)
  have o1:=o.keep x1
  have T1:=T.keep x1
  obtain ⟨l,xs,m1,m2,m3,m4,m5,_⟩:=T1.app b ha
  refine ⟨p,.ref l,rfl,m4,.inl ⟨rfl,_,SqL.of m5⟩,k4 G0 H0 G1 ω σ H1 _ _ o1 h1 fun u G2 H2 x2 y2=>?_⟩
  cases (show u=.int b from y2)
  have o2:=o1.keep x2
  have T2:=T1.keep x2
  obtain ⟨l',xs',n1,n2,n3,n4,n5,n6⟩:=T2.app b ha
  rw [m3] at n3
  cases n3
  refine ⟨l,_,.int b,rfl,rfl,n5,by rw [List.length_map,sizeLine_eq];have:=hz xs' n2;omega,?_⟩
  rw [show xs'.map V.int++[V.int b]=(xs'++[b]).map V.int by rw [List.map_append];rfl]
  exact h G2 _ (o2.free no (T2.gl l n1).1 (T2.gl l n1).2) (x1.gg.trans x2.gg) n6
theorem ab_sub {a b:Expr} {p:Pos} {n:Str} {env:Env} (m:Sem Value):attributeBase (.Subscript a b p) n env m=m:=rfl
section
variable {X:Cx}
set_option tactic.hygienic true in
theorem xss_nb {x2 x3 x4:Str} {o0 o1 o2 o3 o4 o4b e0 e1 e0b e1b e0':Expr} {q1 q2 q3 q4 q5 q6 q7 q8 q9 q10 q11 q12 q13 q14 q15 a1 a2 c1 c2:Pos} {g0 g1:FD} (hu:X.A.units+64 < cLine) (hp:PassesOwn (model X.prog X.w) X.A X.env X.xe) (hc:X.calm=true) (hN:X.N.Nodup)
    (i2:X.N[2]?=some x2) (i3:X.N[3]?=some x3) (i4:X.N[4]?=some x4) (l2:Loc X.env.scope x2) (l3:Loc X.env.scope x3) (l4:Loc X.env.scope x4)
    (f2:X.fn x2=true∨X.env.scope.names.lookup x2=some .local) (f3:X.fn x3=true∨X.env.scope.names.lookup x3=some .local) (f4:X.fn x4=true∨X.env.scope.names.lookup x4=some .local)
    (h0:PE X o0 (tVar 0)) (h1:PE X o1 (tVar 1)) (h2:PE X o2 (tVar 2)) (h2':PE X o4 (tVar 2)) (h2b:PE X o4b (tVar 2)) (h3:PE X o3 (tVar 3)) (h5:PE X e0' (tVar 2))
    (ha:XD X e0 g0) (hb:XD X e1 g1) (hab:XD X e0b g0) (hbb:XD X e1b g1) (hg0:∀ (ω:WSt) e,ω[4]?=some (some (.sh (pairD2 e)))→g0 ω=some (.int e.1)) (hg1:∀ (ω:WSt) e,ω[4]?=some (some (.sh (pairD2 e)))→g1 ω=some (.int e.2))
    (s1:swapsWith (.Dict [] [] q1) (some (.Name x2 q2)) q3.line X.env=pure false:=by rfl)
    (s2:swapsWith (.List [] q4) (some (.Subscript o2 o3 q5)) q6.line X.env=pure false:=by rfl)
    (n0:NoSl e0:=by intro _ _;rfl) (n1:NoSl e1b:=by intro _ _;rfl)
    (w1:((backTo c1 (starEach [e1] X.env)).all (fun x=>!x.1) && (backToKw c1 (keywordEach [] X.env)).all (fun x=>x.1.isSome) && decide (([e1]:List Expr).length+([]:List Keyword).length+(if ([]:List Keyword).isEmpty then 0 else 1) < 30))=true:=by rfl)
    (w2:((backTo c2 (starEach [e0b] X.env)).all (fun x=>!x.1) && (backToKw c2 (keywordEach [] X.env)).all (fun x=>x.1.isSome) && decide (([e0b]:List Expr).length+([]:List Keyword).length+(if ([]:List Keyword).isEmpty then 0 else 1) < 30))=true:=by rfl)
    (z1:(a1.endLine == c1.line)=true:=by rfl) (z2:(a2.endLine == c2.line)=true:=by rfl)
    (t1:starEach [e1] X.env=(false,eval e1 X.env)::starEach [] X.env:=by rfl) (t2:starEach [e0b] X.env=(false,eval e0b X.env)::starEach [] X.env:=by rfl)
    (p1:(backTo c1 (starEach [] X.env)).any (·.1)=false:=by rfl) (p2:(backTo c2 (starEach [] X.env)).any (·.1)=false:=by rfl)
    (v1:swapsWith (.Call (.Attribute (.Subscript o4 e0 q7) "append" a1) [e1] [] c1) none q9.line X.env=pure false:=by rfl)
    (v2:swapsWith (.Call (.Attribute (.Subscript o4b e1b q8) "append" a2) [e0b] [] c2) none q10.line X.env=pure false:=by rfl)
    (y1:∀ x,foldedSetIterable o0 X.env x=pure x:=by intro _;rfl) (y2:∀ x,foldedSetIterable o1 X.env x=pure x:=by intro _;rfl) :
    XSs X [.Assign [.Name x2 q2] (.Dict [] [] q1) q3,.For (.Name x3 q11) o0 [.Assign [.Subscript o2 o3 q5] (.List [] q4) q6] [] q12,
      .For (.Name x4 q13) o1 [.Expr (.Call (.Attribute (.Subscript o4 e0 q7) "append" a1) [e1] [] c1) q9,.Expr (.Call (.Attribute (.Subscript o4b e1b q8) "append" a2) [e0b] [] c2) q10] [] q14,.Return (some e0') q15] sNb:=by
  obtain ⟨ta,k1,k2⟩:=ha
  obtain ⟨tb,k3,k4⟩:=hb
  obtain ⟨ta',k1',k2'⟩:=hab
  obtain ⟨tb',k3',k4'⟩:=hbb
  have hu:=hu1 hu
  refine ⟨_,pss_cons (ps_set hN i2 l2 pe_dnewK s1 f2) (pss_cons (ps_for hp hc (pi_list h0) (pg_name hN i3 l3 f3) (pss_one (ps_dput hu h2 h3 (pe_lst pa_nil) s2)) y1)
    (pss_cons (ps_for hp hc (pi_list h1) (pg_name hN i4 l4 f4) (pss_cons (ps_expr (pe_bm PySem.F.plainAttrs_list PySem.F.slot_list_append PySem.F.type_list_append mt_append (pe_dget hu h2' k1 n0) (pa_cons k3 pa_nil t1) (ab_sub _) w1 z1 t1 p1) v1)
      (pss_one (ps_expr (pe_bm PySem.F.plainAttrs_list PySem.F.slot_list_append PySem.F.type_list_append mt_append (pe_dget hu h2b k3' n1) (pa_cons k1' pa_nil t2) (ab_sub _) w2 z2 t2 p2) v2))) y2) (pss_freeze 2 (pss_one (ps_ret h5))))),fun G0 H0 G ω σ H out ω' E ow e kk=>?_⟩
  unfold sNb at e
  split at e
  case h_2=>cases e
  case h_1 _ a b =>
  obtain ⟨d,e2,e3⟩:=mpd e
  clear e
  cases e3
  obtain ⟨ts,e4,e5⟩:=bnd e2
  obtain ⟨es,e6,e7⟩:=bnd e5
  clear e2 e5
  by_cases cond:ts.Nodup∧(∀ e∈es,e.1∈ts∧e.2∈ts)∧ts.length≤1000∧es.length≤1000
  case neg=>rw [if_neg cond] at e7;cases e7
  rw [if_pos cond] at e7
  cases e7
  obtain ⟨cd1,cd2,cd3,cd4⟩:=cond
  have ha':=intsOf_of e4
  have hb':=pairsOf_of e6
  subst ha' hb'
  clear e4 e6
  have no:NoOw [some (W.sh (.lst (ts.map D.int))),some (.sh (.lst (es.map pairD2))),none,none,none]:=noOw5 (x:=none)
  have hlen:σ.length=5:=ow.len.symm
  obtain ⟨v0,r0,A0,vs0,rfl,r1,r2⟩:=ow.sh 0 _ rfl
  obtain ⟨v1,r3,A1,vs1,rfl,r4,r5⟩:=ow.sh 1 _ rfl
  have hvs0:=r2.of_ints
  subst hvs0
  intro p hpn
  have o1:Own X.K G0 H0 G [some (W.sh (.lst (ts.map D.int))),some (.sh (.lst (es.map pairD2))),none,none,none] (σ.set 2 (some (.ref p))) (upd H p (.dK [])):=(ow.free no (ow.gh.free hpn) (ow.ext.hh.free hpn)).other no fun w z=>by cases z
  have T0:Tab G H0 (upd H p (.dK [])) p (ts.take 0) [] ((ts.take 0).map fun _=>[]):=⟨upd_same,ow.gh.free hpn,ow.ext.hh.free hpn,rfl,rfl,fun j l xs h=>(by simp at h),fun l h=>(by cases h),List.nodup_nil⟩
  refine ⟨.ref A0,by rw [List.getElem?_set_ne (by decide)];exact r0,A0,rfl,⟨_,SqL.of (o1.gh _ _ r1)⟩,fun n m σ2 H2=>∃ ls,Own X.K G0 H0 G [some (W.sh (.lst (ts.map D.int))),some (.sh (.lst (es.map pairD2))),none,none,none] σ2 H2∧σ2[2]?=some (some (.ref p))∧Tab G H0 H2 p (ts.take n) ls ((ts.take n).map fun _=>[])∧n≤ts.length∧m=ts.length - n,
    ⟨_,[],o1,List.getElem?_set_self (by rw [hlen];decide),T0,Nat.zero_le _,rfl⟩,?_⟩
  rintro n m σ2 H2 ⟨ls,o2,s22,T2,hn,rfl⟩
  by_cases hlt:n < ts.length
  · have hq:=o2.gh _ _ r1
    refine .inr ⟨⟨_,.int ts[n],SqL.of hq,by rw [List.getElem?_map,List.getElem?_eq_getElem hlt];rfl⟩,fun σ3 H3=>∃ ls,Own X.K G0 H0 G [some (W.sh (.lst (ts.map D.int))),some (.sh (.lst (es.map pairD2))),none,none,none] σ3 H3∧σ3[2]?=some (some (.ref p))∧Tab G H0 H3 p (ts.take (n+1)) ls ((ts.take (n+1)).map fun _=>[]),
      fun σ3 H3 ⟨ls,b1,b2,b3⟩=>⟨ts.length - (n+1),by omega,ls,b1,b2,b3,hlt,rfl⟩,fun y H3 hy=>?_⟩
    obtain ⟨rfl,hy⟩:=hy
    have hy:=hy _ (SqL.of hq)
    rw [List.getElem?_map,List.getElem?_eq_getElem hlt] at hy
    cases hy
    have hl2:σ2.length=5:=o2.len.symm
    refine ⟨by show 0≤sizeLine;exact Nat.zero_le _,fun l hl=>?_⟩
    refine ⟨.ref p,by rw [List.getElem?_set_ne (by decide)];exact s22,.int ts[n],List.getElem?_set_self (by rw [hl2];decide),?_⟩
    have nk:ts[n]∉ts.take n:=fun z=>by
      obtain ⟨j,hj,ej⟩:=List.mem_iff_getElem.mp z
      rw [List.getElem_take] at ej
      have hj':j < n:=by rw [List.length_take] at hj;omega
      have:=(List.getElem_inj cd1).mp ej
      omega
    obtain ⟨H4,d1,d2,T4⟩:=T2.put nk hl o2.gh o2.ext.hh (by rw [List.length_take];omega)
    refine ⟨p,H4,rfl,d1,ls++[l],?_,by rw [List.getElem?_set_ne (by decide)];exact s22,?_⟩
    · subst d2
      exact ((o2.free no (o2.gh.free hl) (o2.ext.hh.free hl)).free no T2.gp T2.hp).other no fun w z=>by cases z
    · rw [(List.take_append_getElem hlt).symm,List.map_append]
      exact T4
  · have en:n=ts.length:=by omega
    subst en
    rw [List.take_length] at T2
    refine .inl ⟨⟨_,SqL.of (o2.gh _ _ r1),by rw [List.length_map];exact Nat.le_refl _⟩,?_⟩
    obtain ⟨v1',r3',A1',vs1',rfl,r4',r5'⟩:=o2.sh 1 _ rfl
    have hl5:es.length=vs1'.length:=by have:=r5'.len;rw [List.length_map] at this;exact this
    refine ⟨.ref A1',r3',A1',rfl,⟨_,SqL.of (o2.gh _ _ r4')⟩,fun n m σ3 H3=>∃ G3 x4,Own X.K G0 H0 G3 [some (W.sh (.lst (ts.map D.int))),some (.sh (.lst (es.map pairD2))),none,none,x4.map W.sh] σ3 H3∧Same G G3∧σ3[2]?=some (some (.ref p))∧Tab G3 H0 H3 p ts ls ((es.take n).foldl (nbStep ts) (ts.map fun _=>[])) ∧
      (∀ xs∈(es.take n).foldl (nbStep ts) (ts.map fun _=>[]),xs.length≤2*n)∧n≤es.length∧m=es.length - n,
      ⟨_,G,none,o2,Same.refl _,s22,T2,fun xs hx=>by obtain ⟨_,_,rfl⟩:=List.mem_map.mp hx;exact Nat.le_refl _,Nat.zero_le _,rfl⟩,?_⟩
    rintro n m σ3 H3 ⟨G3,x4,o3,g3,s32,T3,b3,hn3,rfl⟩
    by_cases hlt3:n < es.length
    · have hq3:=o3.gh _ _ (g3 _ _ r4')
      have hlv:n < vs1'.length:=by rw [←hl5];exact hlt3
      refine .inr ⟨⟨_,vs1'[n],SqL.of hq3,List.getElem?_eq_getElem hlv⟩,fun σ4 H4=>∃ G4 x4,Own X.K G0 H0 G4 [some (W.sh (.lst (ts.map D.int))),some (.sh (.lst (es.map pairD2))),none,none,x4.map W.sh] σ4 H4∧Same G G4∧σ4[2]?=some (some (.ref p))∧Tab G4 H0 H4 p ts ls ((es.take (n+1)).foldl (nbStep ts) (ts.map fun _=>[])) ∧
        (∀ xs∈(es.take (n+1)).foldl (nbStep ts) (ts.map fun _=>[]),xs.length≤2*(n+1)),
        fun σ4 H4 ⟨G4,x4,b1,b2,b4,b5,b6⟩=>⟨es.length - (n+1),by omega,G4,x4,b1,b2,b4,b5,b6,hlt3,rfl⟩,fun y H4 hy=>?_⟩
      obtain ⟨rfl,hy⟩:=hy
      have hy:=hy _ (SqL.of hq3)
      rw [List.getElem?_eq_getElem hlv] at hy
      cases hy
      have hd:(es.map pairD2)[n]?=some (pairD2 es[n]):=by rw [List.getElem?_map,List.getElem?_eq_getElem hlt3];rfl
      obtain ⟨v,hv1,hv2⟩:=r5'.get hd
      rw [List.getElem?_eq_getElem hlv] at hv1
      cases hv1
      have hl3:σ3.length=5:=o3.len.symm
      have o4:Own X.K G0 H0 G3 [some (W.sh (.lst (ts.map D.int))),some (.sh (.lst (es.map pairD2))),none,none,some (.sh (pairD2 es[n]))] (σ3.set 4 (some vs1'[n])) H4:=o3.setSh (i:=4) (hv2.mono g3)
      have no4:NoOw [some (W.sh (.lst (ts.map D.int))),some (.sh (.lst (es.map pairD2))),none,none,some (.sh (pairD2 es[n]))]:=noOw5 (x:=some (pairD2 es[n]))
      have s42:(σ3.set 4 (some vs1'[n]))[2]?=some (some (.ref p)):=by rw [List.getElem?_set_ne (by decide)];exact s32
      obtain ⟨in1,in2⟩:=cd2 es[n] (List.getElem_mem hlt3)
      refine nb_app k2 k4 o4 no4 s42 T3 (hg0 _ es[n] rfl) (hg1 _ es[n] rfl) in1 (fun xs hx=>by have:=b3 xs hx;omega) fun G5 H5 o5 g5 T5=>?_
      have b5:=appA_bd (2*n) ts _ es[n].1 es[n].2 b3
      refine nb_app k4' k2' o5 no4 s42 T5 (hg1 _ es[n] rfl) (hg0 _ es[n] rfl) in2 (fun xs hx=>by have:=b5 xs hx;omega) fun G6 H6 o6 g6 T6=>?_
      have b6:=appA_bd (2*n+1) ts _ es[n].2 es[n].1 b5
      have et:es.take (n+1)=es.take n++[es[n]]:=(List.take_append_getElem hlt3).symm
      refine ⟨G6,some (pairD2 es[n]),o6,(g3.trans g5).trans g6,s42,?_,?_⟩
      · rw [et,List.foldl_append];exact T6
      · rw [et,List.foldl_append]
        intro xs hx
        have:=b6 xs hx
        omega
    · have en3:n=es.length:=by omega
      subst en3
      rw [List.take_length] at T3
      refine .inl ⟨⟨_,SqL.of (o3.gh _ _ (g3 _ _ r4')),by rw [hl5];exact Nat.le_refl _⟩,?_⟩
      have no3:NoOw [some (W.sh (.lst (ts.map D.int))),some (.sh (.lst (es.map pairD2))),none,none,x4.map W.sh]:=noOw5
      refine ⟨p,_,s32,T3.dict,fun ob=>?_⟩
      obtain ⟨G',g',o',rp⟩:=T3.told o3 no3 ob
      generalize upd H3 p (.frz ob _)=H4 at o' ⊢
      refine ⟨.ref p,s32,?_⟩
      have oF:Own X.K G0 H0 G' [some (W.sh (.lst (ts.map D.int))),some (.sh (.lst (es.map pairD2))),none,none,none] σ3 H4:=by
        refine ⟨o'.ext,o'.len,fun i d h=>?_,fun i ds h=>absurd h (no.ow i ds),fun i j ds es l h=>absurd h (no.ow i ds),fun i ks ds h=>absurd h (no.od i ks ds),PwOk.no no.pw⟩
        match i,h with
        | 0,h=>exact o'.sh 0 d h
        | 1,h=>exact o'.sh 1 d h
        | 2,h=>cases h
        | 3,h=>cases h
        | 4,h=>cases h
        | i+5,h=>simp at h
      exact kk G' σ3 H4 oF (g3.trans g') (.ref p) rp
end
theorem nb_it0 {ω:WSt} {e:Int×Int} (h:ω[4]?=some (some (.sh (pairD2 e)))):dOf (fOpE oIx (vOf (fVar 4)) (fC (.int 0))) ω=some (.int e.1):=by
  unfold dOf fOpE vOf fVar fC
  rw [h];rfl
theorem nb_it1 {ω:WSt} {e:Int×Int} (h:ω[4]?=some (some (.sh (pairD2 e)))):dOf (fOpE oIx (vOf (fVar 4)) (fC (.int 1))) ω=some (.int e.2):=by
  unfold dOf fOpE vOf fVar fC
  rw [h];rfl
end Hk
set_option maxRecDepth 100000
namespace Hk
open PySem L2
noncomputable def dnew1S (i:Nat) (ω:WSt) (c d:Option D):Option (Out×WSt):=c.bind fun c=>d.bind fun d=>match c with
  | .int k=>some (.nx,ω.set i (some (.od [k] [d])))
  | _=>none
noncomputable def dsetS (i:Nat) (ω:WSt) (v c:Option D) (w:Option (Option W)):Option (Out×WSt):=v.bind fun d=>c.bind fun c=>match c,w with
  | .int k,some (some (.od ks ds))=>if ks.length < 1000000 then some (.nx,ω.set i (some (.od (putKs ks k) (putA ks ds k d)))) else none
  | _,_=>none
noncomputable def dgetR (o:Option (List Int×List D)) (c:Option D):Option R:=o.bind fun p=>c.bind fun c=>match c with
  | .int k=>(valD p.1 p.2 k).map R.sh
  | _=>none
noncomputable def dhasT (neg:Bool) (c:Option D) (o:Option (List Int×List D)):Option Bool:=c.bind fun c=>o.bind fun p=>match c with
  | .int k=>some (if neg then !(valD p.1 p.2 k).isSome else (valD p.1 p.2 k).isSome)
  | _=>none
noncomputable def sortDR (o:Option (List Int×List D)):Option R:=o.bind fun p=>if p.1.length < 64 then some (.fr ((sortZ p.1).map D.int)) else none
noncomputable def pop0 (i:Nat) (ω:WSt) (w:Option (Option W)):Option (D×WSt):=match w with
  | some (some (.ow ds))=>(ds[ds.length - 1]?).map fun d=>(d,ω.set i (some (.ow ds.dropLast)))
  | _=>none
noncomputable def pop0W (j i:Nat) (ω:WSt) (w:Option (Option W)):Option (Out×WSt):=(pop0 i ω w).map fun p=>(.nx,p.2.set j (some (.sh p.1)))
section
variable {ω:WSt} {fk fv:FD} {i j:Nat} {ks:List Int} {ds:List D} {k:Int} {d:D} {neg:Bool}
theorem e_dnew:sDNew i ω=some (.nx,ω.set i (some (.od [] []))):=rfl
theorem e_dnew1:sDNew1 i fk fv ω=dnew1S i ω (fk ω) (fv ω):=rfl
theorem e_dn1:dnew1S i ω (some (.int k)) (some d)=some (.nx,ω.set i (some (.od [k] [d]))):=rfl
theorem e_dset:sDSet i fk fv ω=dsetS i ω (fv ω) (fk ω) ω[i]?:=rfl
theorem e_dget:fDGet i fk ω=dgetR (dicOf ω[i]?) (fk ω):=rfl
theorem e_dgr:dgetR (some (ks,ds)) (some (.int k))=(valD ks ds k).map R.sh:=rfl
theorem e_dco:dicOf (some (some (.od ks ds)))=some (ks,ds):=rfl
theorem e_dcs:dicOf (some (some (.sh (.dic ks ds))))=some (ks,ds):=rfl
theorem e_dhas:tDHas neg i fk ω=dhasT neg (fk ω) (dicOf ω[i]?):=rfl
theorem e_dhn:dhasT true (some (.int k)) (some (ks,ds))=some (!(valD ks ds k).isSome):=rfl
theorem e_dsort:fSortD i ω=sortDR (dicOf ω[i]?):=rfl
theorem e_dpop0:sSetM j (mPop0 i) ω=pop0W j i ω ω[i]?:=rfl
theorem e_dsh:shrS i ω (some (some (.od ks ds)))=ω.set i (some (.sh (.dic ks ds))):=rfl
end
theorem dset_ok {i:Nat} {ω:WSt} {ks:List Int} {ds:List D} {k:Int} {d:D} (h:ks.length < 1000000):dsetS i ω (some d) (some (.int k)) (some (some (.od ks ds)))=some (.nx,ω.set i (some (.od (putKs ks k) (putA ks ds k d)))):=if_pos h
theorem sortD_ok {ks:List Int} {ds:List D} (h:ks.length < 64):sortDR (some (ks,ds))=some (.fr ((sortZ ks).map D.int)):=if_pos h
theorem pop0_ok {j i:Nat} {ω:WSt} {ds:List D} {d:D}:pop0W j i ω (some (some (.ow (ds++[d]))))=some (.nx,(ω.set i (some (.ow ds))).set j (some (.sh d))):=by
  unfold pop0W pop0
  have e1:(ds++[d])[(ds++[d]).length - 1]?=some d:=by
    rw [List.length_append,List.length_singleton,Nat.add_sub_cancel,List.getElem?_append_right (Nat.le_refl _),Nat.sub_self];rfl
  have e2:(ds++[d]).dropLast=ds:=by simp
  show Option.map _ (((ds++[d])[(ds++[d]).length - 1]?).map _)=_
  rw [e1,e2];rfl
end Hk
set_option maxRecDepth 100000
namespace Hk
open PySem L2
section
variable {X:Cx} {o k e:Expr} {pos pos':Pos} {i:Nat} {fk fv:FD}
end
end Hk
set_option maxRecDepth 100000
namespace Hk
open PySem L2
section
variable {X:Cx} {e:Expr} {pos pos':Pos} {i:Nat} {fe:FD}
noncomputable def sAug (g:Int→Int→Int) (i:Nat) (fe:FD):FS:=fun ω=>(fe ω).bind fun d=>match d,ω[i]? with
  | .int b,some (some (.sh (.int a)))=>some (.nx,ω.set i (some (.sh (.int (g a b)))))
  | _,_=>none
set_option tactic.hygienic true in
theorem xs_aug {x:Str} {op:Operator} {g:Int→Int→Int} (hop:PIp X op (ipI g)) (hN:X.N.Nodup) (hi:X.N[i]?=some x) (hx:Loc X.env.scope x) (he:XV X e fe) (hf:X.fn x=true∨X.env.scope.names.lookup x=some .local:=by first|exact .inl rfl|exact .inr rfl|assumption) :
    XS X (.AugAssign (.Name x pos') op e pos) (sAug g i fe):=by
  obtain ⟨t,h1,h2⟩:=he
  refine ⟨_,ps_aug hN hi hx h1 hop hf,fun G0 H0 G ω σ H out ω' E ow e kk=>?_⟩
  obtain ⟨d,q1,e⟩:=bnd e
  cases d with
  | int b =>
    split at e
    · rename_i _ _ _ b' a ek q3
      cases ek
      cases e
      obtain ⟨v,r1,r2⟩:=ow.sh i _ q3
      cases (show v=.int a from r2)
      refine ⟨.int a,r1,h2 G0 H0 G ω σ H _ _ ow q1 fun u G1 H1 x1 y1=>?_⟩
      cases y1.int
      exact ⟨a,b,rfl,rfl,kk G1 _ H1 ((ow.keep x1).setSh (d:=.int (g a b)) (v:=.int (g a b)) rfl) x1.gg⟩
    · cases e
  | _=>cases e
end
section
open PySem.Spec PyProof.Rows
variable {X:Cx}
end
end Hk
namespace L2
open PySem PySem.Spec PyProof.Rows
noncomputable def Itv (K:PySem.W.Frag) (a:Addr) (n:Nat):It :=
  ⟨fun i H=>∃ xs x,SqL K H a xs∧xs.length=n∧xs.reverse[i]?=some x,fun i H x H'=>H'=H∧∀ xs,SqL K H a xs→xs.reverse[i]?=some x,fun i H=>∃ xs,SqL K H a xs∧xs.length=n∧i=n⟩
theorem turn_rev {P:Program} {w:World} {K:PySem.W.Frag} {tg:Expr} (a it:Addr) (n:Nat) (hne:a≠it):Turn P w K tg (Itv K a n) [it] it (fun i h=>i≤n∧h.IsRevIter it a ((n:Int) - 1 - (i:Int))) where
  mem:=by simp
  obj:=fun i h st b hb=>by
    have e:b=it:=by simpa using hb
    subst e
    obtain ⟨_,o,e,c,d⟩:=st
    exact ⟨o,e,fun v z=>by rw [d] at z;cases z⟩
  keep:=fun i h h' st k=>⟨st.1,st.2.at fun o e=>k it (by simp) o e⟩
  item:=by
    intro X hP hw hK hc i pins s σ H E I hf st hg
    subst hP hw hK
    obtain ⟨xs,x,hq,hn,hx⟩:=hg
    obtain ⟨its,rv,p,hz⟩:=I.list hq
    obtain ⟨u,hu,ru⟩:=rv.reverse.get hx
    obtain ⟨f0,f1,f2,f3,f4,f5⟩:=hf it (by simp)
    have hsz:its.toArray.size=n:=by rw [List.size_toArray,←rv.length];exact hn
    have hi:i < n:=by
      have:=(List.getElem?_eq_some_iff.mp hx).1
      rw [List.length_reverse] at this;omega
    have W:=Walks.listRev (prog:=X.prog) (w:=X.w) (A:=X.A) (I.ok.hd hc) it a hne its.toArray
    rw [hsz] at W
    refine W.item i s _ _ hi ⟨st.1,st.2,p.isList⟩ fun v h' tk hv st' kk=>?_
    have hl:its.length=n:=by rw [←List.size_toArray];exact hsz
    have ev:v=u:=by
      rw [List.getElem?_reverse (by rw [hl];exact hi),hl] at hu
      have hv':its[n - 1 - i]?=some v:=by simpa using hv
      rw [hu] at hv'
      exact (Option.some.inj hv').symm
    subst ev
    have I1:Inv X pins σ H { s with heap:=h',toks:=tk }:=I.turned (fun b o hb e=>kk b o (by simpa using hb) e) f0 f1 f3 f4 f5
    obtain ⟨o,e,c,d⟩:=id st'.2.1
    exact ⟨v,rfl,go_of (s:={ s with heap:=h',toks:=tk }) e c d (by decide) ⟨x,H,I1,ru,⟨rfl,fun ys hy=>by rw [I.list_inj hy hq];exact hx⟩,⟨st'.1,st'.2.1⟩,fun b hb=>(hf b hb).1⟩⟩
  done:=by
    intro X hP hw hK hc i pins s σ H E I hf st hg
    subst hP hw hK
    obtain ⟨xs,hq,hn,rfl⟩:=hg
    obtain ⟨its,rv,p,hz⟩:=I.list hq
    obtain ⟨f0,f1,f2,f3,f4,f5⟩:=hf it (by simp)
    have hsz:its.toArray.size=i:=by rw [List.size_toArray,←rv.length];exact hn
    have W:=Walks.listRev (prog:=X.prog) (w:=X.w) (A:=X.A) (I.ok.hd hc) it a hne its.toArray
    rw [hsz] at W
    exact W.done s _ _ ⟨st.1,st.2,p.isList⟩ fun h' tk kk=>⟨rfl,I.turned (fun b o hb e=>kk b o (by simpa using hb) e) f0 f1 f3 f4 f5⟩
  self:=fun _ _ _ _ _ st h=>wpAny_pyIter_revIter st.2 h
noncomputable def iRev (K:PySem.W.Frag) (ta:TA):TI:=fun σ H R=>ta σ H fun vs H1=>∃ a xs,vs=[.ref a]∧SqL K H1 a xs∧R (Itv K a xs.length) H1
theorem pi_rev {X:Cx} {tg a:Expr} {ta:TA} {p pos:Pos} (hg:Gl X "reversed") (hm:X.mg "reversed" = none) (ha:PA X [a] ta) (hs:starEach [a] X.env=[(false,eval a X.env)]:=by rfl):PI X tg (.Call (.Name "reversed" p) [a] [] pos) (iRev X.K ta):=by
  intro pins s σ H R I h
  refine Call_ (ld_blt I hg hm PyProof.Rows.boot_reversed (PyProof.Rows.callWith_type1 (thn (ha pos pins s σ H _ I h) fun us s1 ⟨vs,H1,I1,r1,q1⟩=>?_) hs rfl))
  obtain ⟨l,xs,e,hq,q⟩:=q1
  subst e
  cases r1 with
  | cons r rr =>
    cases rr
    cases r
    obtain ⟨its,rv,p1,hz⟩:=I1.list hq
    have hsz:its.toArray.size=xs.length:=by rw [List.size_toArray,←rv.length]
    have hlt:l < s1.heap.objs.size:=by obtain ⟨_,_,e,_⟩:=p1;exact Heap.lt_size e
    refine call_reversed_list p1.isList ?_
    have it0:(s1.heap.push (revObj l ((its.toArray.size:Int) - 1))).IsRevIter s1.heap.objs.size l ((xs.length:Int) - 1 - ((0:Nat):Int)):=⟨_,Heap.get?_push_size _ rfl,rfl,by rw [hsz];simp [revObj]⟩
    refine wpAny_pyIter_revIter it0 ?_
    refine ⟨s1.heap.objs.size,[s1.heap.objs.size],_,_,H1,rfl,I1.kept (t':=s1.toks) fun b o e=>Heap.get?_push_of_some _ e,turn_rev l _ xs.length (Nat.ne_of_lt hlt),⟨Nat.zero_le _,it0⟩,fun b hb=>?_,q⟩
    have e:b=s1.heap.objs.size:=by simpa using hb
    subst e
    exact I1.fpOk (Nat.le_refl _) (I1.hok.fresh (Nat.le_refl _))
end L2
namespace Hk
open PySem L2
theorem iter_rev {K:PySem.W.Frag} {G:Hp} {a:Addr} {ds:List D} {vs:List V} (h1:G a=some (.lst vs)) (h2:Reps K G ds vs):IterOf K (Itv K a vs.length) G ds.reverse:=by
  have hl:=h2.len
  have h2r:=h2.rev
  refine ⟨fun H i s hi=>?_,fun G2 H i x H' d s0 s1 hd hy=>?_,fun H s=>⟨vs,SqL.of (s _ _ h1),rfl,by rw [List.length_reverse];exact hl⟩⟩
  · have:i < vs.reverse.length:=by rw [List.length_reverse] at hi ⊢;omega
    exact ⟨vs,vs.reverse[i],SqL.of (s _ _ h1),rfl,List.getElem?_eq_getElem this⟩
  · obtain ⟨e,y⟩:=hy
    obtain ⟨v,q1,q2⟩:=h2r.get hd
    have:=y vs (SqL.of (s1 _ _ (s0 _ _ h1)))
    rw [q1] at this
    cases this
    subst e
    exact ⟨G2,Ext.refl s1,q2.mono s0⟩
noncomputable def iRv (g:FA):FI:=fun ω=>(g ω).bind fun ds=>match ds with
  | [.lst a]=>some a.reverse
  | _=>none
theorem xi_rev {X:Cx} {tg a:Expr} {g:FA} {p pos:Pos} (hg:Gl X "reversed") (hm:X.mg "reversed" = none) (ha:XA X [a] g) (hs:starEach [a] X.env=[(false,eval a X.env)]:=by rfl):XI X tg (.Call (.Name "reversed" p) [a] [] pos) (iRv g):=by
  obtain ⟨⟨t,h1,h2⟩,_⟩:=ha
  refine ⟨_,pi_rev hg hm h1 hs,fun G0 H0 G ω σ H ds R o e k=>?_⟩
  obtain ⟨vs,q,e⟩:=bnd e
  refine h2 G0 H0 G ω σ H vs _ o q fun us G1 H1 x1 y1=>?_
  match vs,e with
  | [.lst as],e =>
    cases e
    obtain ⟨v1,r1,rfl,z1,z2⟩:=y1
    cases (show r1=[] from z2)
    obtain ⟨a1,ws1,rfl,f1,f2⟩:=z1
    exact ⟨a1,ws1,rfl,SqL.of (x1.gh _ _ f1),k _ G1 H1 x1 (iter_rev f1 f2)⟩
end Hk
set_option maxRecDepth 100000
namespace Hk
open PySem L2
noncomputable def augS (g:Int→Int→Int) (i:Nat) (ω:WSt) (v:Option D) (w:Option (Option W)):Option (Out×WSt):=v.bind fun d=>match d,w with
  | .int b,some (some (.sh (.int a)))=>some (.nx,ω.set i (some (.sh (.int (g a b)))))
  | _,_=>none
noncomputable def rvI (o:Option (List D)):Option (List D):=o.bind fun ds=>match ds with
  | [.lst a]=>some a.reverse
  | _=>none
section
variable {ω:WSt} {fk fv:FD} {fa:FA} {i j:Nat} {ds:List D} {a b c:Int} {d:D} {g:Int→Int→Int}
theorem e_aug:sAug g i fv ω=augS g i ω (fv ω) ω[i]?:=rfl
theorem e_augi:augS g i ω (some (.int b)) (some (some (.sh (.int a))))=some (.nx,ω.set i (some (.sh (.int (g a b))))):=rfl
theorem e_irv:iRv fa ω=rvI (fa ω):=rfl
theorem e_irl:rvI (some [.lst ds])=some ds.reverse:=rfl
end
end Hk
set_option maxRecDepth 100000
namespace Hk
open PySem L2
end Hk
set_option maxRecDepth 100000
namespace L2
open PySem PySem.Spec PyProof.Rows
noncomputable def Ite (K:PySem.W.Frag) (a:Addr):It :=
  ⟨fun i H=>∃ xs x,SqL K H a xs∧xs[i]?=some x,
   fun i H x H'=>∃ t x1,H t=none∧x=.ref t∧H'=upd H t (.tup [.int i,x1])∧∀ xs,SqL K H a xs→xs[i]?=some x1,
   fun i H=>∃ xs,SqL K H a xs∧xs[i]?=none⟩
theorem turn_enum {P:Program} {w:World} {K:PySem.W.Frag} {elts:List Expr} {kx} {tpos:Pos} (a e it:Addr) (hne:e≠it) (hae:a≠e) (hai:a≠it) :
    Turn P w K (.Tuple elts kx tpos) (Ite K a) [e,it] e (fun i h=>(∃ old,IsEnum h e it (i:Int) old)∧h.IsListIter it a i) where
  mem:=by simp
  obj:=fun i h st c hc=>by
    obtain ⟨⟨old,s1⟩,⟨o4,e4,c4,d4⟩⟩:=st
    simp only [List.mem_cons,List.not_mem_nil,or_false] at hc
    rcases hc with rfl|rfl
    · exact ⟨_,s1,fun v y=>by cases (show Data.fields _=Data.cell v from y)⟩
    · exact ⟨_,e4,fun v y=>by rw [d4] at y;cases y⟩
  keep:=fun i h h' st k=>by
    obtain ⟨⟨old,s1⟩,s4⟩:=st
    exact ⟨⟨old,k _ (by simp) _ s1⟩,s4.at fun o e=>k _ (by simp) o e⟩
  item:=by
    intro X hP hw hK hc i pins s σ H E I hf st hg
    subst hP hw hK
    obtain ⟨xs,x,hq,hx⟩:=hg
    obtain ⟨its,rv,p,hz⟩:=I.list hq
    obtain ⟨u,hu,ru⟩:=rv.get hx
    obtain ⟨⟨old,s1⟩,s4⟩:=st
    have ex:∀ c∈[e,it],∃ o,s.heap.get? c=some o:=fun c hc=>by
      simp only [List.mem_cons,List.not_mem_nil,or_false] at hc
      rcases hc with rfl|rfl
      · exact ⟨_,s1⟩
      · obtain ⟨o,e,_⟩:=s4;exact ⟨o,e⟩
    have nt:∀ c∈[e,it],c≠s.heap.objs.size:=fun c hc=>by
      obtain ⟨o,e⟩:=ex c hc
      exact Nat.ne_of_lt (Heap.lt_size e)
    refine wpAny_pyNext_enum_item s1 s4 p.isList (x:=u) (by simpa using hu) hne fun h' a1 a2 a3 a4 hk=>?_
    have hn:H s.heap.objs.size=none:=I.hok.fresh (Nat.le_refl _)
    have I1:Inv X pins σ (upd H s.heap.objs.size (.tup [.int i,x])) { s with heap:=s.heap.push { cls:=.type "tuple", data:=.seq #[.int i s.toks,u] },toks:=s.toks+1 } :=
      I.laid (fun b o e=>Heap.get?_push_of_some _ e) (Nat.le_refl _) (show ObjOk X.prog X.w _ _ _ (.tup [.int i,x]) from ⟨by show 2≤sizeLine;decide,[.int i s.toks,u],.cons ⟨_,rfl⟩ (.cons ru .nil),⟨_,Heap.get?_push_size _ rfl,rfl,_,rfl⟩⟩)
    have hf':∀ c∈[e,it],FpOk X pins (upd H s.heap.objs.size (.tup [.int i,x])) c:=fun c hc=>by
      obtain ⟨f0,f⟩:=hf c hc
      exact ⟨by rw [upd_ne (nt c hc)];exact f0,f⟩
    have I2:Inv X pins σ (upd H s.heap.objs.size (.tup [.int i,x])) { s with heap:=h',toks:=s.toks+1 }:=I1.turnedL (fun b o hb e=>by
      simp only [List.mem_cons,List.not_mem_nil,or_false,not_or] at hb
      by_cases q:b=s.heap.objs.size
      · subst q
        rw [Heap.get?_push_size _ rfl] at e
        cases e
        exact a3
      · have e':s.heap.get? b=some o:=by
          rcases Nat.lt_or_ge b s.heap.objs.size with l|l
          · obtain ⟨z1,z2⟩:=Heap.get?_some_iff.mp e
            refine Heap.get?_some_iff.mpr ⟨?_,z2⟩
            rw [←z1]
            show s.heap.objs[b]?=(s.heap.objs.push _)[b]?
            rw [Array.getElem?_push,if_neg q]
          · have:=Heap.lt_size e
            rw [Heap.size_push] at this
            exact absurd (by simp only [Addr] at *;omega) q
        exact hk b o hb.1 hb.2 e') hf'
    refine ⟨_,rfl,wpAny_letOwnedTupleGo_enum a1 fun h2 b1 sb=>?_⟩
    have I3:Inv X pins σ (upd H s.heap.objs.size (.tup [.int i,x])) { s with heap:=h2,toks:=s.toks+1 }:=I2.turnedL (fun b o hb e=>(sb.2 b (fun q=>hb (by simp [q]))).trans e) hf'
    have hi:((i+1:Nat):Int)=(i:Int)+1:=by push_cast;rfl
    refine ⟨.ref s.heap.objs.size,_,I3,rfl,⟨_,x,hn,rfl,rfl,fun xs' q1=>by rw [I.list_inj q1 hq];exact hx⟩,⟨⟨u,by rw [hi];exact b1⟩,a2.extBut sb.extBut (Ne.symm hne)⟩,fun c hc=>(hf' c hc).1⟩
  done:=by
    intro X hP hw hK hc i pins s σ H E I hf st hg
    subst hP hw hK
    obtain ⟨xs,hq,hx⟩:=hg
    obtain ⟨its,rv,p,hz⟩:=I.list hq
    obtain ⟨⟨old,s1⟩,s4⟩:=st
    have l1:=rv.length
    refine wpAny_pyNext_enum_end (I.ok.hd hc) s1 s4 p.isList ?_ fun h' hk=>⟨rfl,I.turnedL (t':=s.toks) (fun b o hb e=>?_) hf⟩
    · rw [List.getElem?_eq_none_iff] at hx;simp;omega
    · simp only [List.mem_cons,List.not_mem_nil,or_false,not_or] at hb
      exact hk b o hb.2 e
  self:=fun _ _ _ _ _ st h=>by
    obtain ⟨⟨old,s1⟩,s4⟩:=st
    exact wpAny_pyIter_enum s1 h
noncomputable def iEnum (K:PySem.W.Frag) (ta:TA):TI:=fun σ H R=>ta σ H fun vs H1=>∃ a xs,vs=[.ref a]∧SqL K H1 a xs∧R (Ite K a) H1
theorem pi_enum {X:Cx} {a:Expr} {ta:TA} {p pos tpos:Pos} {elts:List Expr} {kx} (hg:Gl X "enumerate") (hm:X.mg "enumerate" = none) (ha:PA X [a] ta) (hs:starEach [a] X.env=[(false,eval a X.env)]:=by rfl) :
    PI X (.Tuple elts kx tpos) (.Call (.Name "enumerate" p) [a] [] pos) (iEnum X.K ta):=by
  intro pins s σ H R I h
  refine Call_ (ld_blt I hg hm PyProof.Rows.boot_enumerate (PyProof.Rows.callWith_type1 (thn (ha pos pins s σ H _ I h) fun us s1 ⟨vs,H1,I1,r1,q1⟩=>?_) hs rfl))
  obtain ⟨l,xs,e,hq,q⟩:=q1
  subst e
  cases r1 with
  | cons r rr =>
    cases rr
    cases r
    obtain ⟨its,rv,p1,hz⟩:=I1.list hq
    have hlt:l < s1.heap.objs.size:=by obtain ⟨_,_,e,_⟩:=p1;exact Heap.lt_size e
    refine call_enumerate_list p1.isList fun h' a1 a2 a3 hk=>?_
    refine wpAny_pyIter_enum a1 ?_
    refine ⟨s1.heap.objs.size+1,[s1.heap.objs.size+1,s1.heap.objs.size],_,_,H1,rfl,I1.kept (t':=s1.toks) hk,turn_enum l _ _ (Nat.succ_ne_self _) (Nat.ne_of_lt (Nat.lt_succ_of_lt hlt)) (Nat.ne_of_lt hlt),⟨⟨_,a1⟩,a2⟩,fun c hc=>?_,q⟩
    have hle:s1.heap.objs.size≤c:=by
      simp only [List.mem_cons,List.not_mem_nil,or_false] at hc
      simp only [Addr] at *
      omega
    exact I1.fpOk hle (I1.hok.fresh hle)
end L2
namespace Hk
open PySem L2
noncomputable def enumL:Nat→List D→List D
  | i,a::as=>.tup [.int i,a]::enumL (i+1) as
  | _,[]=>[]
theorem enumL_len:∀ (i:Nat) (as:List D),(enumL i as).length=as.length
  | i,a::as=>by show (enumL (i+1) as).length+1=_;rw [enumL_len];rfl
  | i,[]=>rfl
theorem enumL_get:∀ (k:Nat) (as:List D) (i:Nat) (d:D),(enumL k as)[i]?=some d→∃ a,as[i]?=some a∧d=.tup [.int ((k+i:Nat):Int),a]
  | k,a::as,0,d,h=>by cases h;exact ⟨a,rfl,rfl⟩
  | k,a::as,i+1,d,h=>by
    obtain ⟨b,h1,h2⟩:=enumL_get (k+1) as i d h
    exact ⟨b,h1,by rw [h2];congr 4;omega⟩
  | k,[],i,d,h=>by cases h
theorem iter_enum {K:PySem.W.Frag} {G:Hp} {a:Addr} {ds:List D} {vs:List V} (h1:G a=some (.lst vs)) (h2:Reps K G ds vs):IterOf K (Ite K a) G (enumL 0 ds):=by
  have l1:=h2.len
  refine ⟨fun H i s hi=>?_,fun G2 H i x H' d s0 s1 hd hy=>?_,fun H s=>⟨vs,SqL.of (s _ _ h1),?_⟩⟩
  · rw [enumL_len] at hi
    exact ⟨vs,vs[i]'(by omega),SqL.of (s _ _ h1),List.getElem?_eq_getElem _⟩
  · obtain ⟨t,x1,ht,rfl,rfl,y⟩:=hy
    have e1:=y vs (SqL.of (s1 _ _ (s0 _ _ h1)))
    obtain ⟨p,f1,rfl⟩:=enumL_get 0 ds i d hd
    obtain ⟨v,q1,q2⟩:=h2.get f1
    rw [e1] at q1
    cases q1
    have x2:=Ext.lay s1 ht (.tup [.int i,x1])
    exact ⟨_,x2,⟨t,_,rfl,upd_same,Reps.cons (by show (.int i:V)=.int ((0+i:Nat):Int);rw [Nat.zero_add]) (Reps.cons (q2.mono (s0.trans x2.gg)) Reps.nil)⟩⟩
  · rw [enumL_len];exact List.getElem?_eq_none (by omega)
noncomputable def iEn (g:FA):FI:=fun ω=>(g ω).bind fun ds=>match ds with
  | [.lst a]=>some (enumL 0 a)
  | _=>none
theorem xi_enum {X:Cx} {a:Expr} {g:FA} {p pos tpos:Pos} {elts:List Expr} {kx} (hg:Gl X "enumerate") (hm:X.mg "enumerate" = none) (ha:XA X [a] g) (hs:starEach [a] X.env=[(false,eval a X.env)]:=by rfl) :
    XI X (.Tuple elts kx tpos) (.Call (.Name "enumerate" p) [a] [] pos) (iEn g):=by
  obtain ⟨⟨t,h1,h2⟩,_⟩:=ha
  refine ⟨_,pi_enum hg hm h1 hs,fun G0 H0 G ω σ H ds R o e k=>?_⟩
  obtain ⟨vs,q,e⟩:=bnd e
  refine h2 G0 H0 G ω σ H vs _ o q fun us G1 H1 x1 y1=>?_
  match vs,e with
  | [.lst as],e =>
    cases e
    obtain ⟨v1,r1,rfl,z1,z2⟩:=y1
    cases (show r1=[] from z2)
    obtain ⟨a1,ws1,rfl,f1,f2⟩:=z1
    exact ⟨a1,ws1,rfl,SqL.of (x1.gh _ _ f1),k _ G1 H1 x1 (iter_enum f1 f2)⟩
end Hk
namespace Hk
open PySem L2
noncomputable def enI (o:Option (List D)):Option (List D):=o.bind fun ds=>match ds with
  | [.lst a]=>some (enumL 0 a)
  | _=>none
theorem e_ien {fa:FA} {ω:WSt}:iEn fa ω=enI (fa ω):=rfl
theorem e_enl {ds:List D}:enI (some [.lst ds])=some (enumL 0 ds):=rfl
end Hk
namespace Hk
open PySem L2
section
open PyProof.Rows PySem.Spec
variable {prog:Program} {w:World} {A:Around} {E:Value→Shared→Prop} {s:Shared} {l:Addr} {xs:Array (Int×Tok)}
end
section
variable {X:Cx}
open PyProof.Rows PySem.Spec
end
end Hk
set_option maxRecDepth 100000
namespace Hk
open PySem PySem.Spec PyProof.Rows L2
section
variable {prog:Program} {w:World} {A:Around} {E:Value→Shared→Prop} {s:Shared}
end
end Hk
namespace L2
open PySem PySem.Spec PyProof.Rows Hk
end L2
namespace Hk
open PySem L2
end Hk
set_option maxRecDepth 100000
namespace Hk
open PySem L2
abbrev Cal (P:Program) (w:World) (K:PySem.W.Frag) (mg:Str→Option Value) (base:Heap) (k:Nat) (f:Addr) (d:FuncData) (x:Str) (ps:List Str) (n:Nat) (m:List D→Option O):Prop :=
  FnOk P w K mg base CX0 k f d ps (spD K n m)∧mg x=some (.ref f)∧PySem.W.keepIn K (.ref f)=true∧Binds K d ps []
section
variable {X:Cx} {x:Str} {pos:Pos}
theorem xc {e:Expr} {es:List Expr} {k k0:Nat} {f:Addr} {fd:FuncData} {ps:List Str} {m:List D→Option O} {p:Pos} {g:FA} (c:Cal X.prog X.w X.K X.mg X.base k f fd x ps (e::es).length m) (hr:Room k0 X.A) (ha:XA X (e::es) g)
    (hk:k≤k0:=by decide) (hg:Gl X x:=by exact rfl) (hdb:(x == ("__debug__" : Str))=false:=by decide) (he:starEach (e::es) X.env=(false,eval e X.env)::starEach es X.env:=by rfl) (hpl:(backTo pos (starEach es X.env)).any (·.1)=false:=by rfl) :
    XE X (.Call (.Name x p) (e::es) [] pos) (fCall m g):=xe_call c.1 (hr.mono hk) hg c.2.1 c.2.2.1 c.2.2.2 pass0 ha hdb he hpl
theorem vE (i:Nat) (hN:X.N[i]?=some x:=by rfl) (hv:Vis X.env.scope x:=by first|exact Or.inl rfl|exact Or.inr (Or.inl rfl)|exact Or.inr (Or.inr rfl)) (hd:(x == ("__debug__" : Str))=false:=by decide) (hcd:(x == ("__classdict__" : Str))=false:=by decide):XE X (.Name x pos) (fVar i):=xe_var i (pv i hN hv hd hcd)
theorem vV (i:Nat) (hN:X.N[i]?=some x:=by rfl) (hv:Vis X.env.scope x:=by first|exact Or.inl rfl|exact Or.inr (Or.inl rfl)|exact Or.inr (Or.inr rfl)) (hd:(x == ("__debug__" : Str))=false:=by decide) (hcd:(x == ("__classdict__" : Str))=false:=by decide):XV X (.Name x pos) (vOf (fVar i)):=XE.toV (xe_var i (pv i hN hv hd hcd))
theorem vD (i:Nat) (hN:X.N[i]?=some x:=by rfl) (hv:Vis X.env.scope x:=by first|exact Or.inl rfl|exact Or.inr (Or.inl rfl)|exact Or.inr (Or.inr rfl)) (hd:(x == ("__debug__" : Str))=false:=by decide) (hcd:(x == ("__classdict__" : Str))=false:=by decide):XD X (.Name x pos) (dOf (fVar i)):=XE.toD (xe_var i (pv i hN hv hd hcd))
end
end Hk
set_option maxHeartbeats 4000000
namespace Kx
open PySem L2 Hk
def top (i:Nat):Stmt:=PySem.Challenge.pw_hookrail_k43_whole_reasons_weigh_no_more.main.body.getD i (.Pass ⟨0,0,0,0⟩)
section
variable {P:Program} {w:World} {K:PySem.W.Frag} {mg:Str→Option Value} {base:Heap} {f:Addr} {fd:FuncData}
noncomputable def B_is_whole:FS:=(sRet (eOf (vAnd (dOf (fIsi .int (vOf (fVar 0)))) (vNot (dOf (fIsi .bl (vOf (fVar 0))))))))
noncomputable def m_is_whole:List D→Option O:=mir 1 B_is_whole
abbrev s_is_whole:Stmt:=top 5
theorem S_is_whole:FnScope ["thing"] ["thing"] (defScope s_is_whole):=⟨rfl,rfl,rfl,by decide +kernel,rfl,by decide +kernel,by decide +kernel⟩
theorem ok_is_whole 
    (F:Fun K "is_whole" "is_whole" s_is_whole f fd)
    (z_isinstance:mg "isinstance" = none)
    (z_bool:mg "bool" = none)
    (z_int:mg "int" = none)
    (i_int:IsT K .int)
    (i_bool:IsT K .bl) :
    FnOk P w K mg base CX0 1 f fd ["thing"] (spD K 1 m_is_whole):=by
  have h:=fnD (P:=P) (w:=w) (mg:=mg) (base:=base) (k:=0) (body:=B_is_whole) F S_is_whole (fun cdv A outer s H E hr =>
      (xss_one (xs_ret (XD.toE (xd_and (XE.toD (xe_isi (vV 0) i_int rfl z_isinstance rfl z_int bt_int)) (xd_one (xd_not (XE.toD (xe_isi (vV 0) i_bool rfl z_isinstance rfl z_bool bt_bool)))))))))
  exact h
noncomputable def B_is_box:FS:=(sRet (eOf (vAnd (dOf (fIsi .tup (vOf (fVar 0)))) (vAnd (dOf (fOpE (oEq false) (vOf (fBlt bLen (aCons (vOf (fVar 0)) aNil))) (fC (.int 2)))) (vAnd (dOf (fCall m_is_whole (aCons (dOf (fOpE oIx (vOf (fVar 0)) (fC (.int 0)))) aNil))) (dOf (fCall m_is_whole (aCons (dOf (fOpE oIx (vOf (fVar 0)) (fC (.int 1)))) aNil))))))))
noncomputable def m_is_box:List D→Option O:=mir 1 B_is_box
abbrev s_is_box:Stmt:=top 6
theorem S_is_box:FnScope ["thing"] ["thing"] (defScope s_is_box):=⟨rfl,rfl,rfl,by decide +kernel,rfl,by decide +kernel,by decide +kernel⟩
theorem ok_is_box {f_is_whole:Addr} {d_is_whole:FuncData}
    (F:Fun K "is_box" "is_box" s_is_box f fd)
    (c_is_whole:Cal P w K mg base 1 f_is_whole d_is_whole "is_whole" ["thing"] 1 m_is_whole)
    (z_len:mg "len" = none)
    (z_isinstance:mg "isinstance" = none)
    (z_tuple:mg "tuple" = none)
    (i_tuple:IsT K .tup) :
    FnOk P w K mg base CX0 2 f fd ["thing"] (spD K 1 m_is_box):=by
  have h:=fnD (P:=P) (w:=w) (mg:=mg) (base:=base) (k:=1) (body:=B_is_box) F S_is_box (fun cdv A outer s H E hr =>
      (xss_one (xs_ret (XD.toE (xd_and (XE.toD (xe_isi (vV 0) i_tuple rfl z_isinstance rfl z_tuple bt_tuple)) (xd_and (XE.toD (xe_eq hr.units (XE.toV (xe_blt call_len_seq cd_len rfl z_len bt_len (xva_cons (vV 0) xva_nil))) (XD.toV xd_int))) (xd_and (XE.toD (xc c_is_whole hr (xa_cons (XE.toD (xe_item (vV 0) (XD.toV xd_int))) xa_nil))) (xd_one (XE.toD (xc c_is_whole hr (xa_cons (XE.toD (xe_item (vV 0) (XD.toV xd_int))) xa_nil)))))))))))
  exact h
noncomputable def E1_is_errand:FD:=(dOf (fCall m_is_box (aCons (dOf (fVar 0)) aNil)))
noncomputable def B_is_errand:FS:=(sSeq (sIf (tOrF (tNotF (tTru (vOf (fCall m_is_whole (aCons (dOf (fVar 0)) aNil))))) (tOrF (tNotF (tTru (vOf (fCall m_is_whole (aCons (dOf (fVar 1)) aNil))))) (tNotF (tTru (vOf (fIsi .lst (vOf (fVar 2)))))))) (sRet (eOf (fC (.bl false)))) sNil)
    (sRet (fBlt bAll (aCons (vOf (fComp 1 [] (iSeq (dOf (fVar 2))) (gN 0) tTrue E1_is_errand)) aNil))))
noncomputable def m_is_errand:List D→Option O:=mir 3 B_is_errand
abbrev s_is_errand:Stmt:=top 7
theorem S_is_errand:FnScope ["home", "last", "boxes"] ["home", "last", "boxes"] (defScope s_is_errand):=⟨rfl,rfl,rfl,by decide +kernel,rfl,by decide +kernel,by decide +kernel⟩
theorem ok_is_errand {f_is_whole:Addr} {d_is_whole:FuncData} {f_is_box:Addr} {d_is_box:FuncData}
    (F:Fun K "is_errand" "is_errand" s_is_errand f fd)
    (c_is_whole:Cal P w K mg base 1 f_is_whole d_is_whole "is_whole" ["thing"] 1 m_is_whole)
    (c_is_box:Cal P w K mg base 2 f_is_box d_is_box "is_box" ["thing"] 1 m_is_box)
    (z_isinstance:mg "isinstance" = none)
    (z_list:mg "list" = none)
    (z_all:mg "all" = none)
    (i_list:IsT K .lst) :
    FnOk P w K mg base CX0 3 f fd ["home", "last", "boxes"] (spD K 3 m_is_errand):=by
  have h:=fnD (P:=P) (w:=w) (mg:=mg) (base:=base) (k:=2) (body:=B_is_errand) F S_is_errand (fun cdv A outer s H E hr =>
      (xss_cons (xs_if (XW.toT (xw_or (xt_not (xt_val (XE.toV (xc c_is_whole hr (xa_cons (vD 0) xa_nil))))) (xw_or (xt_not (xt_val (XE.toV (xc c_is_whole hr (xa_cons (vD 1) xa_nil))))) (xw_or1 (xt_not (xt_val (XE.toV (xe_isi (vV 2) i_list rfl z_isinstance rfl z_list bt_list)))))))) (xss_one (xs_ret (XD.toE xd_bl))) xss_nil)
      (xss_one (xs_ret (xe_blt (call_allL rfl) cd_all rfl z_all bt_all (xva_cons (XE.toV (xe_comp rfl (blk ["box"] [] [] rfl (by decide +kernel) (by decide +kernel) rfl trivial) (xi_seq (vD 2)) (tame_n 0) (fun _ _ _ _=>⟨(xg_name (i:=0) (show ((["box"]:List Str)++([]:List Str):List Str).Nodup from by decide +kernel) rfl (Or.inl rfl)),xts_nil,(XE.toD (xc c_is_box hr (xa_cons (vD 0) xa_nil)))⟩))) xva_nil))))))
  exact h
noncomputable def B_check_errand:FS:=(sIf (tNotF (tTru (vOf (fCall m_is_errand (aCons (dOf (fVar 0)) (aCons (dOf (fVar 1)) (aCons (dOf (fVar 2)) aNil))))))) sNo sNil)
noncomputable def m_check_errand:List D→Option O:=mir 3 B_check_errand
abbrev s_check_errand:Stmt:=top 8
theorem S_check_errand:FnScope ["home", "last", "boxes"] ["home", "last", "boxes"] (defScope s_check_errand):=⟨rfl,rfl,rfl,by decide +kernel,rfl,by decide +kernel,by decide +kernel⟩
theorem ok_check_errand {f_is_errand:Addr} {d_is_errand:FuncData}
    (F:Fun K "check_errand" "check_errand" s_check_errand f fd)
    (c_is_errand:Cal P w K mg base 3 f_is_errand d_is_errand "is_errand" ["home", "last", "boxes"] 3 m_is_errand) :
    FnOk P w K mg base CX0 4 f fd ["home", "last", "boxes"] (spD K 3 m_check_errand):=by
  have h:=fnD (P:=P) (w:=w) (mg:=mg) (base:=base) (k:=3) (body:=B_check_errand) F S_check_errand (fun cdv A outer s H E hr =>
      (xss_one (xs_if (xt_not (xt_val (XE.toV (xc c_is_errand hr (xa_cons (vD 0) (xa_cons (vD 1) (xa_cons (vD 2) xa_nil))))))) (xss_one xs_no) xss_nil)))
  exact h
noncomputable def L1_stops:FS:=(sExt 3 (dOf (fVar 4)))
noncomputable def B_stops:FS:=(sSeq (sDrop (fCall m_check_errand (aCons (dOf (fVar 0)) (aCons (dOf (fVar 1)) (aCons (dOf (fVar 2)) aNil)))))
    (sSeq (sSet 3 (fLst (aCons (dOf (fVar 0)) (aCons (dOf (fVar 1)) aNil))))
    (sSeq (sFor (iSeq (dOf (fVar 2))) (gN 4) L1_stops)
    (sRet (fSortSet (vOf (fVar 3)))))))
noncomputable def m_stops:List D→Option O:=mir 5 B_stops
abbrev s_stops:Stmt:=top 9
theorem S_stops:FnScope ["home", "last", "boxes", "places", "box"] ["home", "last", "boxes"] (defScope s_stops):=⟨rfl,rfl,rfl,by decide +kernel,rfl,by decide +kernel,by decide +kernel⟩
theorem ok_stops {f_check_errand:Addr} {d_check_errand:FuncData}
    (F:Fun K "stops" "stops" s_stops f fd)
    (c_check_errand:Cal P w K mg base 4 f_check_errand d_check_errand "check_errand" ["home", "last", "boxes"] 3 m_check_errand)
    (z_sorted:mg "sorted" = none)
    (z_set:mg "set" = none) :
    FnOk P w K mg base CX0 5 f fd ["home", "last", "boxes"] (spD K 3 m_stops):=by
  have h:=fnD (P:=P) (w:=w) (mg:=mg) (base:=base) (k:=4) (body:=B_stops) F S_stops (fun cdv A outer s H E hr =>
      (xss_cons (xs_expr (xc c_check_errand hr (xa_cons (vD 0) (xa_cons (vD 1) (xa_cons (vD 2) xa_nil)))))
      (xss_cons (xs_set (i:=3) S_stops.nd rfl (Or.inl rfl) (xe_lst (xa_cons (vD 0) (xa_cons (vD 1) xa_nil))))
      (xss_cons (xs_for PassesOwn.never rfl (xi_seq (vD 2)) (xg_name (i:=4) S_stops.nd rfl (Or.inl rfl)) (xss_one (xs_ext (pv 3) (vD 4))))
      (xss_one (xs_ret (xe_sortset rfl z_sorted rfl z_set (vV 3))))))))
  exact h
noncomputable def B_gaps:FS:=(sSeq (sSet 3 (eOf (dOf (fCall m_stops (aCons (dOf (fVar 0)) (aCons (dOf (fVar 1)) (aCons (dOf (fVar 2)) aNil)))))))
    (sRet (fBlt bListZip (aCons (vOf (fVar 3)) (aCons (vOf (fSl (vOf (fVar 3)) (pAt (fC (.int 1))) pNo)) aNil)))))
noncomputable def m_gaps:List D→Option O:=mir 4 B_gaps
abbrev s_gaps:Stmt:=top 10
theorem S_gaps:FnScope ["home", "last", "boxes", "places"] ["home", "last", "boxes"] (defScope s_gaps):=⟨rfl,rfl,rfl,by decide +kernel,rfl,by decide +kernel,by decide +kernel⟩
theorem ok_gaps {f_stops:Addr} {d_stops:FuncData}
    (F:Fun K "gaps" "gaps" s_gaps f fd)
    (c_stops:Cal P w K mg base 5 f_stops d_stops "stops" ["home", "last", "boxes"] 3 m_stops)
    (z_list:mg "list" = none)
    (z_zip:mg "zip" = none) :
    FnOk P w K mg base CX0 6 f fd ["home", "last", "boxes"] (spD K 3 m_gaps):=by
  have h:=fnD (P:=P) (w:=w) (mg:=mg) (base:=base) (k:=5) (body:=B_gaps) F S_gaps (fun cdv A outer s H E hr =>
      (xss_cons (xs_set (i:=3) S_gaps.nd rfl (Or.inl rfl) (XD.toE (XE.toD (xc c_stops hr (xa_cons (vD 0) (xa_cons (vD 1) (xa_cons (vD 2) xa_nil)))))))
      (xss_one (xs_ret (xe_listzip rfl z_list rfl z_zip (xva_cons (vV 3) (xva_cons (XE.toV (xe_slice (vV 3) (xo_some (XD.toV xd_int)) xo_none)) xva_nil)))))))
  exact h
noncomputable def E1_gap_edges:FD:=(fTup (aCons (dOf (fOpE oIx (vOf (fVar 0)) (fC (.int 0)))) (aCons (dOf (fOpE oIx (vOf (fVar 0)) (fC (.int 1)))) (aCons (dOf (fOpE oSub (vOf (fOpE oIx (vOf (fVar 0)) (fC (.int 1)))) (vOf (fOpE oIx (vOf (fVar 0)) (fC (.int 0)))))) aNil))))
noncomputable def B_gap_edges:FS:=(sRet (fComp 1 [] (iSeq (dOf (fCall m_gaps (aCons (dOf (fVar 0)) (aCons (dOf (fVar 1)) (aCons (dOf (fVar 2)) aNil)))))) (gN 0) tTrue E1_gap_edges))
noncomputable def m_gap_edges:List D→Option O:=mir 3 B_gap_edges
abbrev s_gap_edges:Stmt:=top 11
theorem S_gap_edges:FnScope ["home", "last", "boxes"] ["home", "last", "boxes"] (defScope s_gap_edges):=⟨rfl,rfl,rfl,by decide +kernel,rfl,by decide +kernel,by decide +kernel⟩
theorem ok_gap_edges {f_gaps:Addr} {d_gaps:FuncData}
    (F:Fun K "gap_edges" "gap_edges" s_gap_edges f fd)
    (c_gaps:Cal P w K mg base 6 f_gaps d_gaps "gaps" ["home", "last", "boxes"] 3 m_gaps) :
    FnOk P w K mg base CX0 7 f fd ["home", "last", "boxes"] (spD K 3 m_gap_edges):=by
  have h:=fnD (P:=P) (w:=w) (mg:=mg) (base:=base) (k:=6) (body:=B_gap_edges) F S_gap_edges (fun cdv A outer s H E hr =>
      (xss_one (xs_ret (xe_comp rfl (blk ["gap"] [] [] rfl (by decide +kernel) (by decide +kernel) rfl trivial) (xi_seq (XE.toD (xc c_gaps hr (xa_cons (vD 0) (xa_cons (vD 1) (xa_cons (vD 2) xa_nil)))))) (tame_n 0) (fun _ _ _ _=>⟨(xg_name (i:=0) (show ((["gap"]:List Str)++([]:List Str):List Str).Nodup from by decide +kernel) rfl (Or.inl rfl)),xts_nil,(xd_tup (xa_cons (XE.toD (xe_item (vV 0) (XD.toV xd_int))) (xa_cons (XE.toD (xe_item (vV 0) (XD.toV xd_int))) (xa_cons (XE.toD (xe_sub (XE.toV (xe_item (vV 0) (XD.toV xd_int))) (XE.toV (xe_item (vV 0) (XD.toV xd_int))))) xa_nil))))⟩)))))
  exact h
noncomputable def B_leads_over:FS:=(sRet (eOf (vAnd (dOf (fOpE oLe (vOf (fVar 0)) (vOf (fOpE oIx (vOf (fVar 2)) (fC (.int 0)))))) (dOf (fOpE oLe (vOf (fOpE oIx (vOf (fVar 2)) (fC (.int 1)))) (vOf (fVar 1)))))))
noncomputable def m_leads_over:List D→Option O:=mir 3 B_leads_over
abbrev s_leads_over:Stmt:=top 13
theorem S_leads_over:FnScope ["start", "goal", "gap"] ["start", "goal", "gap"] (defScope s_leads_over):=⟨rfl,rfl,rfl,by decide +kernel,rfl,by decide +kernel,by decide +kernel⟩
theorem ok_leads_over 
    (F:Fun K "leads_over" "leads_over" s_leads_over f fd) :
    FnOk P w K mg base CX0 1 f fd ["start", "goal", "gap"] (spD K 3 m_leads_over):=by
  have h:=fnD (P:=P) (w:=w) (mg:=mg) (base:=base) (k:=0) (body:=B_leads_over) F S_leads_over (fun cdv A outer s H E hr =>
      (xss_one (xs_ret (XD.toE (xd_and (XE.toD (xe_le (vV 0) (XE.toV (xe_item (vV 2) (XD.toV xd_int))))) (xd_one (XE.toD (xe_le (XE.toV (xe_item (vV 2) (XD.toV xd_int))) (vV 1)))))))))
  exact h
noncomputable def T1_crossed:FT:=(tTru (vOf (fCall m_leads_over (aCons (dOf (fOpE oIx (vOf (fVar 0)) (fC (.int 0)))) (aCons (dOf (fOpE oIx (vOf (fVar 0)) (fC (.int 1)))) (aCons (dOf (fVar 1)) aNil))))))
noncomputable def E1_crossed:FD:=(dOf (fVar 0))
noncomputable def T2_crossed:FT:=(tTru (vOf (fCall m_leads_over (aCons (dOf (fOpE oIx (vOf (fVar 0)) (fC (.int 1)))) (aCons (dOf (fOpE oIx (vOf (fVar 0)) (fC (.int 0)))) (aCons (dOf (fVar 1)) aNil))))))
noncomputable def E2_crossed:FD:=(dOf (fVar 0))
noncomputable def B_crossed:FS:=(sSeq (sSet 2 (fComp 1 [1] (iSeq (dOf (fVar 0))) (gN 0) T1_crossed E1_crossed))
    (sShare 2 (sSeq (sSet 3 (fComp 1 [1] (iSeq (dOf (fVar 0))) (gN 0) T2_crossed E2_crossed))
    (sShare 3 (sRet (eOf (fTup (aCons (dOf (fBlt bLen (aCons (vOf (fVar 2)) aNil))) (aCons (dOf (fBlt bLen (aCons (vOf (fVar 3)) aNil))) aNil)))))))))
noncomputable def m_crossed:List D→Option O:=mir 4 B_crossed
abbrev s_crossed:Stmt:=top 14
theorem S_crossed:FnScope ["boxes", "gap", "rights", "lefts"] ["boxes", "gap"] (defScope s_crossed):=⟨rfl,rfl,rfl,by decide +kernel,rfl,by decide +kernel,by decide +kernel⟩
theorem ok_crossed {f_leads_over:Addr} {d_leads_over:FuncData}
    (F:Fun K "crossed" "crossed" s_crossed f fd)
    (c_leads_over:Cal P w K mg base 1 f_leads_over d_leads_over "leads_over" ["start", "goal", "gap"] 3 m_leads_over)
    (z_len:mg "len" = none) :
    FnOk P w K mg base CX0 2 f fd ["boxes", "gap"] (spD K 2 m_crossed):=by
  have h:=fnD (P:=P) (w:=w) (mg:=mg) (base:=base) (k:=1) (body:=B_crossed) F S_crossed (fun cdv A outer s H E hr =>
      (xss_cons (xs_setc (i:=2) rfl S_crossed.nd rfl rfl (blk ["box"] ["gap"] [1] rfl (by decide +kernel) (by decide +kernel) rfl ⟨⟨rfl,(by first|exact Or.inl rfl|exact Or.inr rfl),rfl⟩,trivial⟩) (xi_seq (vD 0)) (tame_n 0) (fun _ _ _ _=>⟨(xg_name (i:=0) (show ((["box"]:List Str)++(["gap"]:List Str):List Str).Nodup from by decide +kernel) rfl (Or.inl rfl)),(xts_one (xt_val (XE.toV (xc c_leads_over hr (xa_cons (XE.toD (xe_item (vV 0) (XD.toV xd_int))) (xa_cons (XE.toD (xe_item (vV 0) (XD.toV xd_int))) (xa_cons (vD 1) xa_nil))))))),(vD 0)⟩))
      (xss_share 2 (xss_cons (xs_setc (i:=3) rfl S_crossed.nd rfl rfl (blk ["box"] ["gap"] [1] rfl (by decide +kernel) (by decide +kernel) rfl ⟨⟨rfl,(by first|exact Or.inl rfl|exact Or.inr rfl),rfl⟩,trivial⟩) (xi_seq (vD 0)) (tame_n 0) (fun _ _ _ _=>⟨(xg_name (i:=0) (show ((["box"]:List Str)++(["gap"]:List Str):List Str).Nodup from by decide +kernel) rfl (Or.inl rfl)),(xts_one (xt_val (XE.toV (xc c_leads_over hr (xa_cons (XE.toD (xe_item (vV 0) (XD.toV xd_int))) (xa_cons (XE.toD (xe_item (vV 0) (XD.toV xd_int))) (xa_cons (vD 1) xa_nil))))))),(vD 0)⟩))
      (xss_share 3 (xss_one (xs_ret (XD.toE (xd_tup (xa_cons (XE.toD (xe_blt call_len_seq cd_len rfl z_len bt_len (xva_cons (vV 2) xva_nil))) (xa_cons (XE.toD (xe_blt call_len_seq cd_len rfl z_len bt_len (xva_cons (vV 3) xva_nil))) xa_nil)))))))))))
  exact h
noncomputable def B_lack:FS:=(sSeq (sSet 4 (eOf (dOf (fCall m_crossed (aCons (dOf (fLst (aCons (fTup (aCons (dOf (fVar 0)) (aCons (dOf (fVar 1)) aNil))) aNil))) (aCons (dOf (fVar 3)) aNil))))))
    (sSeq (sSet 5 (eOf (dOf (fCall m_crossed (aCons (dOf (fVar 2)) (aCons (dOf (fVar 3)) aNil))))))
    (sRet (fOpE oAdd (vOf (fOpE oSub (vOf (fOpE oSub (vOf (fOpE oIx (vOf (fVar 4)) (fC (.int 0)))) (vOf (fOpE oIx (vOf (fVar 4)) (fC (.int 1)))))) (vOf (fOpE oIx (vOf (fVar 5)) (fC (.int 0)))))) (vOf (fOpE oIx (vOf (fVar 5)) (fC (.int 1))))))))
noncomputable def m_lack:List D→Option O:=mir 6 B_lack
abbrev s_lack:Stmt:=top 15
theorem S_lack:FnScope ["home", "last", "boxes", "gap", "own", "carried"] ["home", "last", "boxes", "gap"] (defScope s_lack):=⟨rfl,rfl,rfl,by decide +kernel,rfl,by decide +kernel,by decide +kernel⟩
theorem ok_lack {f_crossed:Addr} {d_crossed:FuncData}
    (F:Fun K "lack" "lack" s_lack f fd)
    (c_crossed:Cal P w K mg base 2 f_crossed d_crossed "crossed" ["boxes", "gap"] 2 m_crossed) :
    FnOk P w K mg base CX0 3 f fd ["home", "last", "boxes", "gap"] (spD K 4 m_lack):=by
  have h:=fnD (P:=P) (w:=w) (mg:=mg) (base:=base) (k:=2) (body:=B_lack) F S_lack (fun cdv A outer s H E hr =>
      (xss_cons (xs_set (i:=4) S_lack.nd rfl (Or.inl rfl) (XD.toE (XE.toD (xc c_crossed hr (xa_cons (XE.toD (xe_lst (xa_cons (xd_tup (xa_cons (vD 0) (xa_cons (vD 1) xa_nil))) xa_nil))) (xa_cons (vD 3) xa_nil))))))
      (xss_cons (xs_set (i:=5) S_lack.nd rfl (Or.inl rfl) (XD.toE (XE.toD (xc c_crossed hr (xa_cons (vD 2) (xa_cons (vD 3) xa_nil))))))
      (xss_one (xs_ret (xe_add (XE.toV (xe_sub (XE.toV (xe_sub (XE.toV (xe_item (vV 4) (XD.toV xd_int))) (XE.toV (xe_item (vV 4) (XD.toV xd_int))))) (XE.toV (xe_item (vV 5) (XD.toV xd_int))))) (XE.toV (xe_item (vV 5) (XD.toV xd_int)))))))))
  exact h
noncomputable def E1_lacks:FD:=(dOf (fCall m_lack (aCons (dOf (fVar 1)) (aCons (dOf (fVar 2)) (aCons (dOf (fVar 3)) (aCons (dOf (fVar 0)) aNil))))))
noncomputable def B_lacks:FS:=(sRet (fComp 1 [0,1,2] (iSeq (dOf (fCall m_gaps (aCons (dOf (fVar 0)) (aCons (dOf (fVar 1)) (aCons (dOf (fVar 2)) aNil)))))) (gN 0) tTrue E1_lacks))
noncomputable def m_lacks:List D→Option O:=mir 3 B_lacks
abbrev s_lacks:Stmt:=top 16
theorem S_lacks:FnScope ["home", "last", "boxes"] ["home", "last", "boxes"] (defScope s_lacks):=⟨rfl,rfl,rfl,by decide +kernel,rfl,by decide +kernel,by decide +kernel⟩
theorem ok_lacks {f_gaps:Addr} {d_gaps:FuncData} {f_lack:Addr} {d_lack:FuncData}
    (F:Fun K "lacks" "lacks" s_lacks f fd)
    (c_gaps:Cal P w K mg base 6 f_gaps d_gaps "gaps" ["home", "last", "boxes"] 3 m_gaps)
    (c_lack:Cal P w K mg base 3 f_lack d_lack "lack" ["home", "last", "boxes", "gap"] 4 m_lack) :
    FnOk P w K mg base CX0 7 f fd ["home", "last", "boxes"] (spD K 3 m_lacks):=by
  have h:=fnD (P:=P) (w:=w) (mg:=mg) (base:=base) (k:=6) (body:=B_lacks) F S_lacks (fun cdv A outer s H E hr =>
      (xss_one (xs_ret (xe_comp rfl (blk ["gap"] ["home", "last", "boxes"] [0,1,2] rfl (by decide +kernel) (by decide +kernel) rfl ⟨⟨rfl,(by first|exact Or.inl rfl|exact Or.inr rfl),rfl⟩,⟨⟨rfl,(by first|exact Or.inl rfl|exact Or.inr rfl),rfl⟩,⟨⟨rfl,(by first|exact Or.inl rfl|exact Or.inr rfl),rfl⟩,trivial⟩⟩⟩) (xi_seq (XE.toD (xc c_gaps hr (xa_cons (vD 0) (xa_cons (vD 1) (xa_cons (vD 2) xa_nil)))))) (tame_n 0) (fun _ _ _ _=>⟨(xg_name (i:=0) (show ((["gap"]:List Str)++(["home", "last", "boxes"]:List Str):List Str).Nodup from by decide +kernel) rfl (Or.inl rfl)),xts_nil,(XE.toD (xc c_lack hr (xa_cons (vD 1) (xa_cons (vD 2) (xa_cons (vD 3) (xa_cons (vD 0) xa_nil))))))⟩)))))
  exact h
noncomputable def B_neighbours:FS:=sNb
noncomputable def m_neighbours:List D→Option O:=mir 5 B_neighbours
abbrev s_neighbours:Stmt:=top 18
theorem S_neighbours:FnScope ["things", "ties", "beside", "thing", "tie"] ["things", "ties"] (defScope s_neighbours):=⟨rfl,rfl,rfl,by decide +kernel,rfl,by decide +kernel,by decide +kernel⟩
theorem ok_neighbours 
    (F:Fun K "neighbours" "neighbours" s_neighbours f fd) :
    FnOk P w K mg base CX0 1 f fd ["things", "ties"] (spD K 2 m_neighbours):=by
  have h:=fnD (P:=P) (w:=w) (mg:=mg) (base:=base) (k:=0) (body:=B_neighbours) F S_neighbours (fun cdv A outer s H E hr =>
      (xss_nb hr.units PassesOwn.never rfl S_neighbours.nd rfl rfl rfl (by first|exact Or.inl rfl|exact Or.inr rfl) (by first|exact Or.inl rfl|exact Or.inr rfl) (by first|exact Or.inl rfl|exact Or.inr rfl) (by first|exact .inl rfl|exact .inr rfl) (by first|exact .inl rfl|exact .inr rfl) (by first|exact .inl rfl|exact .inr rfl) (pv 0) (pv 1) (pv 2) (pv 2) (pv 2) (pv 3) (pv 2) (XE.toD (xe_item (vV 4) (XD.toV xd_int))) (XE.toD (xe_item (vV 4) (XD.toV xd_int))) (XE.toD (xe_item (vV 4) (XD.toV xd_int))) (XE.toD (xe_item (vV 4) (XD.toV xd_int))) (fun ω e h=>nb_it0 h) (fun ω e h=>nb_it1 h)))
  exact h
noncomputable def L1_group_of:FS:=(sIf (tDHas true 2 (dOf (fVar 5))) (sSeq (sDSet 2 (dOf (fVar 5)) (fC (.bl true)))
    (sApp 3 (dOf (fVar 5)))) sNil)
noncomputable def T1_group_of:FT:=(tTru (vOf (fVar 3)))
noncomputable def L2_group_of:FS:=(sSeq (sSetM 4 (mPop0 3))
    (sFor (iSeq (dOf (fDGet 1 (dOf (fVar 4))))) (gN 5) L1_group_of))
noncomputable def B_group_of:FS:=(sSeq (sDNew1 2 (dOf (fVar 0)) (fC (.bl true)))
    (sSeq (sSet 3 (fLst (aCons (dOf (fVar 0)) aNil)))
    (sSeq (sWh 1000000 T1_group_of L2_group_of)
    (sRet (fSortD 2)))))
noncomputable def m_group_of:List D→Option O:=mir 6 B_group_of
abbrev s_group_of:Stmt:=top 19
theorem S_group_of:FnScope ["thing", "beside", "found", "waiting", "here", "other"] ["thing", "beside"] (defScope s_group_of):=⟨rfl,rfl,rfl,by decide +kernel,rfl,by decide +kernel,by decide +kernel⟩
theorem ok_group_of 
    (F:Fun K "group_of" "group_of" s_group_of f fd)
    (z_sorted:mg "sorted" = none) :
    FnOk P w K mg base CX0 1 f fd ["thing", "beside"] (spD K 2 m_group_of):=by
  have h:=fnD (P:=P) (w:=w) (mg:=mg) (base:=base) (k:=0) (body:=B_group_of) F S_group_of (fun cdv A outer s H E hr =>
      (xss_cons (xs_dnew1 (i:=2) S_group_of.nd rfl (Or.inl rfl) (vD 0) xd_bl)
      (xss_cons (xs_set (i:=3) S_group_of.nd rfl (Or.inl rfl) (xe_lst (xa_cons (vD 0) xa_nil)))
      (xss_cons (xs_while PassesOwn.never (xt_val (vV 3)) (xss_cons (xs_setM (i:=4) S_group_of.nd rfl (Or.inl rfl) (xm_pop0 (pv 3)))
      (xss_one (xs_for PassesOwn.never rfl (xi_seq (XE.toD (xe_dget hr.units (pv 1) (vD 4)))) (xg_name (i:=5) S_group_of.nd rfl (Or.inl rfl)) (xss_one (xs_if (xt_dnotin hr.units (vD 5) (pv 2)) (xss_cons (xs_dput hr.units (pv 2) (vD 5) xd_bl)
      (xss_one (xs_app (pv 3) (vD 5)))) xss_nil))))))
      (xss_one (xs_ret (xe_sortD rfl rfl z_sorted (pv 2))))))))
  exact h
noncomputable def L1_groups:FS:=(sDSet 3 (dOf (fVar 7)) (fC (.bl true)))
noncomputable def L2_groups:FS:=(sIf (tDHas true 3 (dOf (fVar 5))) (sSeq (sSet 6 (eOf (dOf (fCall m_group_of (aCons (dOf (fVar 5)) (aCons (dOf (fVar 2)) aNil))))))
    (sSeq (sApp 4 (dOf (fVar 6)))
    (sFor (iSeq (dOf (fVar 6))) (gN 7) L1_groups))) sNil)
noncomputable def B_groups:FS:=(sSeq (sSet 2 (eOf (dOf (fCall m_neighbours (aCons (dOf (fVar 0)) (aCons (dOf (fVar 1)) aNil))))))
    (sSeq (sDNew 3)
    (sSeq (sSet 4 (fLst aNil))
    (sSeq (sFor (iSeq (dOf (fSortL (vOf (fVar 0))))) (gN 5) L2_groups)
    (sRetV 4)))))
noncomputable def m_groups:List D→Option O:=mir 8 B_groups
abbrev s_groups:Stmt:=top 20
theorem S_groups:FnScope ["things", "ties", "beside", "grouped", "told", "thing", "group", "member"] ["things", "ties"] (defScope s_groups):=⟨rfl,rfl,rfl,by decide +kernel,rfl,by decide +kernel,by decide +kernel⟩
theorem ok_groups {f_neighbours:Addr} {d_neighbours:FuncData} {f_group_of:Addr} {d_group_of:FuncData}
    (F:Fun K "groups" "groups" s_groups f fd)
    (c_neighbours:Cal P w K mg base 1 f_neighbours d_neighbours "neighbours" ["things", "ties"] 2 m_neighbours)
    (c_group_of:Cal P w K mg base 1 f_group_of d_group_of "group_of" ["thing", "beside"] 2 m_group_of)
    (z_sorted:mg "sorted" = none) :
    FnOk P w K mg base CX0 2 f fd ["things", "ties"] (spD K 2 m_groups):=by
  have h:=fnD (P:=P) (w:=w) (mg:=mg) (base:=base) (k:=1) (body:=B_groups) F S_groups (fun cdv A outer s H E hr =>
      (xss_cons (xs_set (i:=2) S_groups.nd rfl (Or.inl rfl) (XD.toE (XE.toD (xc c_neighbours hr (xa_cons (vD 0) (xa_cons (vD 1) xa_nil))))))
      (xss_cons (xs_dnew (i:=3) S_groups.nd rfl (Or.inl rfl))
      (xss_cons (xs_set (i:=4) S_groups.nd rfl (Or.inl rfl) (xe_lst xa_nil))
      (xss_cons (xs_for PassesOwn.never rfl (xi_seq (XE.toD (xe_sort rfl z_sorted (vV 0)))) (xg_name (i:=5) S_groups.nd rfl (Or.inl rfl)) (xss_one (xs_if (xt_dnotin hr.units (vD 5) (pv 3)) (xss_cons (xs_set (i:=6) S_groups.nd rfl (Or.inl rfl) (XD.toE (XE.toD (xc c_group_of hr (xa_cons (vD 5) (xa_cons (vD 2) xa_nil))))))
      (xss_cons (xs_app (pv 4) (vD 6))
      (xss_one (xs_for PassesOwn.never rfl (xi_seq (vD 6)) (xg_name (i:=7) S_groups.nd rfl (Or.inl rfl)) (xss_one (xs_dput hr.units (pv 3) (vD 7) xd_bl)))))) xss_nil)))
      (xss_one (xs_retv (pv 4))))))))
  exact h
noncomputable def T1_knots:FT:=(tOf (fOpE (oEq true) (vOf (fVar 1)) (fC (.int 0))))
noncomputable def E1_knots:FD:=(dOf (fVar 0))
noncomputable def B_knots:FS:=(sSeq (sSet 3 (fComp 2 [] (iZp (aCons (dOf (fCall m_gaps (aCons (dOf (fVar 0)) (aCons (dOf (fVar 1)) (aCons (dOf (fVar 2)) aNil))))) (aCons (dOf (fCall m_lacks (aCons (dOf (fVar 0)) (aCons (dOf (fVar 1)) (aCons (dOf (fVar 2)) aNil))))) aNil))) (gT 2 (gsCons (gN 0) (gsCons (gN 1) gsNil))) T1_knots E1_knots))
    (sShare 3 (sRet (fOpE oAdd (vOf (fOpE oAdd (vOf (fBlt bList (aCons (vOf (fVar 2)) aNil))) (vOf (fLst (aCons (fTup (aCons (dOf (fVar 0)) (aCons (dOf (fVar 1)) aNil))) aNil))))) (vOf (fVar 3))))))
noncomputable def m_knots:List D→Option O:=mir 4 B_knots
abbrev s_knots:Stmt:=top 21
theorem S_knots:FnScope ["home", "last", "boxes", "lacking"] ["home", "last", "boxes"] (defScope s_knots):=⟨rfl,rfl,rfl,by decide +kernel,rfl,by decide +kernel,by decide +kernel⟩
theorem ok_knots {f_lacks:Addr} {d_lacks:FuncData} {f_gaps:Addr} {d_gaps:FuncData}
    (F:Fun K "knots" "knots" s_knots f fd)
    (c_lacks:Cal P w K mg base 7 f_lacks d_lacks "lacks" ["home", "last", "boxes"] 3 m_lacks)
    (c_gaps:Cal P w K mg base 6 f_gaps d_gaps "gaps" ["home", "last", "boxes"] 3 m_gaps)
    (z_zip:mg "zip" = none)
    (z_list:mg "list" = none) :
    FnOk P w K mg base CX0 8 f fd ["home", "last", "boxes"] (spD K 3 m_knots):=by
  have h:=fnD (P:=P) (w:=w) (mg:=mg) (base:=base) (k:=7) (body:=B_knots) F S_knots (fun cdv A outer s H E hr =>
      (xss_cons (xs_setc (i:=3) rfl S_knots.nd rfl rfl (blk ["gap", "lack"] [] [] rfl (by decide +kernel) (by decide +kernel) rfl trivial) (xi_zip rfl z_zip (xa_cons (XE.toD (xc c_gaps hr (xa_cons (vD 0) (xa_cons (vD 1) (xa_cons (vD 2) xa_nil))))) (xa_cons (XE.toD (xc c_lacks hr (xa_cons (vD 0) (xa_cons (vD 1) (xa_cons (vD 2) xa_nil))))) xa_nil))) (tame_t (tames_cons (tame_n 0) (tames_cons (tame_n 1) tames_nil))) (fun _ _ _ _=>⟨(xg_tup rfl (xgs_cons (xg_name (i:=0) (show ((["gap", "lack"]:List Str)++([]:List Str):List Str).Nodup from by decide +kernel) rfl (Or.inl rfl)) (xgs_cons (xg_name (i:=1) (show ((["gap", "lack"]:List Str)++([]:List Str):List Str).Nodup from by decide +kernel) rfl (Or.inl rfl)) xgs_nil))),(xts_one (xt_ne hr.units (vV 1) (XD.toV xd_int))),(vD 0)⟩))
      (xss_share 3 (xss_one (xs_ret (xe_add (XE.toV (xe_add (XE.toV (xe_ty call_list_of cd_list rfl z_list bt_list (xva_cons (vV 2) xva_nil))) (XE.toV (xe_lst (xa_cons (xd_tup (xa_cons (vD 0) (xa_cons (vD 1) xa_nil))) xa_nil))))) (vV 3)))))))
  exact h
noncomputable def B_cost:FS:=(sRet (fOpE oIx (vOf (fVar 0)) (fC (.int 2))))
noncomputable def m_cost:List D→Option O:=mir 1 B_cost
abbrev s_cost:Stmt:=top 23
theorem S_cost:FnScope ["edge"] ["edge"] (defScope s_cost):=⟨rfl,rfl,rfl,by decide +kernel,rfl,by decide +kernel,by decide +kernel⟩
theorem ok_cost 
    (F:Fun K "cost" "cost" s_cost f fd) :
    FnOk P w K mg base CX0 1 f fd ["edge"] (spD K 1 m_cost):=by
  have h:=fnD (P:=P) (w:=w) (mg:=mg) (base:=base) (k:=0) (body:=B_cost) F S_cost (fun cdv A outer s H E hr =>
      (xss_one (xs_ret (xe_item (vV 0) (XD.toV xd_int)))))
  exact h
noncomputable def L1_group_numbers:FS:=(sDSet 1 (dOf (fVar 4)) (dOf (fVar 2)))
noncomputable def L2_group_numbers:FS:=(sFor (iSeq (dOf (fVar 3))) (gN 4) L1_group_numbers)
noncomputable def B_group_numbers:FS:=(sSeq (sDNew 1)
    (sSeq (sFor (iEn (aCons (dOf (fVar 0)) aNil)) (gT 2 (gsCons (gN 2) (gsCons (gN 3) gsNil))) L2_group_numbers)
    (sShare 1 (sRet (fVar 1)))))
noncomputable def m_group_numbers:List D→Option O:=mir 5 B_group_numbers
abbrev s_group_numbers:Stmt:=top 24
theorem S_group_numbers:FnScope ["parts", "numbers", "number", "part", "thing"] ["parts"] (defScope s_group_numbers):=⟨rfl,rfl,rfl,by decide +kernel,rfl,by decide +kernel,by decide +kernel⟩
theorem ok_group_numbers 
    (F:Fun K "group_numbers" "group_numbers" s_group_numbers f fd)
    (z_enumerate:mg "enumerate" = none) :
    FnOk P w K mg base CX0 1 f fd ["parts"] (spD K 1 m_group_numbers):=by
  have h:=fnD (P:=P) (w:=w) (mg:=mg) (base:=base) (k:=0) (body:=B_group_numbers) F S_group_numbers (fun cdv A outer s H E hr =>
      (xss_cons (xs_dnew (i:=1) S_group_numbers.nd rfl (Or.inl rfl))
      (xss_cons (xs_for PassesOwn.never rfl (xi_enum rfl z_enumerate (xa_cons (vD 0) xa_nil)) (xg_tup rfl (xgs_cons (xg_name (i:=2) S_group_numbers.nd rfl (Or.inl rfl)) (xgs_cons (xg_name (i:=3) S_group_numbers.nd rfl (Or.inl rfl)) xgs_nil))) (xss_one (xs_for PassesOwn.never rfl (xi_seq (vD 3)) (xg_name (i:=4) S_group_numbers.nd rfl (Or.inl rfl)) (xss_one (xs_dput hr.units (pv 1) (vD 4) (vD 2))))))
      (xss_share 1 (xss_one (xs_ret (vE 1)))))))
  exact h
noncomputable def L1_weighed:FS:=(sSeq (sAug (fun i j=>i+j) 2 (vOf (fOpE oMul (vOf (fOpE oSub (vOf (fVar 4)) (vOf (fVar 3)))) (vOf (fOpE oSub (vOf (fBlt bLen (aCons (vOf (fVar 5)) aNil))) (vOf (fVar 1)))))))
    (sSet 3 (eOf (dOf (fVar 4)))))
noncomputable def B_weighed:FS:=(sSeq (sSet 2 (eOf (fC (.int 0))))
    (sSeq (sSet 3 (eOf (fC (.int 0))))
    (sSeq (sFor (iSeq (dOf (fVar 0))) (gT 2 (gsCons (gN 4) (gsCons (gN 5) gsNil))) L1_weighed)
    (sRet (fVar 2)))))
noncomputable def m_weighed:List D→Option O:=mir 6 B_weighed
abbrev s_weighed:Stmt:=top 25
theorem S_weighed:FnScope ["levels", "rest", "total", "ahead", "bound", "parts"] ["levels", "rest"] (defScope s_weighed):=⟨rfl,rfl,rfl,by decide +kernel,rfl,by decide +kernel,by decide +kernel⟩
theorem ok_weighed 
    (F:Fun K "weighed" "weighed" s_weighed f fd)
    (z_len:mg "len" = none) :
    FnOk P w K mg base CX0 1 f fd ["levels", "rest"] (spD K 2 m_weighed):=by
  have h:=fnD (P:=P) (w:=w) (mg:=mg) (base:=base) (k:=0) (body:=B_weighed) F S_weighed (fun cdv A outer s H E hr =>
      (xss_cons (xs_set (i:=2) S_weighed.nd rfl (Or.inl rfl) (XD.toE xd_int))
      (xss_cons (xs_set (i:=3) S_weighed.nd rfl (Or.inl rfl) (XD.toE xd_int))
      (xss_cons (xs_for PassesOwn.never rfl (xi_seq (vD 0)) (xg_tup rfl (xgs_cons (xg_name (i:=4) S_weighed.nd rfl (Or.inl rfl)) (xgs_cons (xg_name (i:=5) S_weighed.nd rfl (Or.inl rfl)) xgs_nil))) (xss_cons (xs_aug (i:=2) ip_add S_weighed.nd rfl (Or.inl rfl) (XE.toV (xe_mul (XE.toV (xe_sub (vV 4) (vV 3))) (XE.toV (xe_sub (XE.toV (xe_blt call_len_seq cd_len rfl z_len bt_len (xva_cons (vV 5) xva_nil))) (vV 1))))))
      (xss_one (xs_set (i:=3) S_weighed.nd rfl (Or.inl rfl) (XD.toE (vD 4))))))
      (xss_one (xs_ret (vE 2)))))))
  exact h
noncomputable def E1_all_whole:FD:=(dOf (fCall m_is_whole (aCons (dOf (fVar 0)) aNil)))
noncomputable def B_all_whole:FS:=(sRet (fBlt bAll (aCons (vOf (fComp 1 [] (iSeq (dOf (fVar 0))) (gN 0) tTrue E1_all_whole)) aNil)))
noncomputable def m_all_whole:List D→Option O:=mir 1 B_all_whole
abbrev s_all_whole:Stmt:=top 27
theorem S_all_whole:FnScope ["parts"] ["parts"] (defScope s_all_whole):=⟨rfl,rfl,rfl,by decide +kernel,rfl,by decide +kernel,by decide +kernel⟩
theorem ok_all_whole {f_is_whole:Addr} {d_is_whole:FuncData}
    (F:Fun K "all_whole" "all_whole" s_all_whole f fd)
    (c_is_whole:Cal P w K mg base 1 f_is_whole d_is_whole "is_whole" ["thing"] 1 m_is_whole)
    (z_all:mg "all" = none) :
    FnOk P w K mg base CX0 2 f fd ["parts"] (spD K 1 m_all_whole):=by
  have h:=fnD (P:=P) (w:=w) (mg:=mg) (base:=base) (k:=1) (body:=B_all_whole) F S_all_whole (fun cdv A outer s H E hr =>
      (xss_one (xs_ret (xe_blt (call_allL rfl) cd_all rfl z_all bt_all (xva_cons (XE.toV (xe_comp rfl (blk ["part"] [] [] rfl (by decide +kernel) (by decide +kernel) rfl trivial) (xi_seq (vD 0)) (tame_n 0) (fun _ _ _ _=>⟨(xg_name (i:=0) (show ((["part"]:List Str)++([]:List Str):List Str).Nodup from by decide +kernel) rfl (Or.inl rfl)),xts_nil,(XE.toD (xc c_is_whole hr (xa_cons (vD 0) xa_nil)))⟩))) xva_nil)))))
  exact h
noncomputable def E1_counts_of:FD:=(dOf (fOpE oAdd (vOf (fVar 0)) (vOf (fCall m_crossed (aCons (dOf (fVar 1)) (aCons (dOf (fVar 0)) aNil))))))
noncomputable def B_counts_of:FS:=(sRet (fComp 1 [2] (iSeq (dOf (fCall m_gaps (aCons (dOf (fVar 0)) (aCons (dOf (fVar 1)) (aCons (dOf (fVar 2)) aNil)))))) (gN 0) tTrue E1_counts_of))
noncomputable def m_counts_of:List D→Option O:=mir 3 B_counts_of
abbrev s_counts_of:Stmt:=top 28
theorem S_counts_of:FnScope ["home", "last", "boxes"] ["home", "last", "boxes"] (defScope s_counts_of):=⟨rfl,rfl,rfl,by decide +kernel,rfl,by decide +kernel,by decide +kernel⟩
theorem ok_counts_of {f_gaps:Addr} {d_gaps:FuncData} {f_crossed:Addr} {d_crossed:FuncData}
    (F:Fun K "counts_of" "counts_of" s_counts_of f fd)
    (c_gaps:Cal P w K mg base 6 f_gaps d_gaps "gaps" ["home", "last", "boxes"] 3 m_gaps)
    (c_crossed:Cal P w K mg base 2 f_crossed d_crossed "crossed" ["boxes", "gap"] 2 m_crossed) :
    FnOk P w K mg base CX0 7 f fd ["home", "last", "boxes"] (spD K 3 m_counts_of):=by
  have h:=fnD (P:=P) (w:=w) (mg:=mg) (base:=base) (k:=6) (body:=B_counts_of) F S_counts_of (fun cdv A outer s H E hr =>
      (xss_one (xs_ret (xe_comp rfl (blk ["gap"] ["boxes"] [2] rfl (by decide +kernel) (by decide +kernel) rfl ⟨⟨rfl,(by first|exact Or.inl rfl|exact Or.inr rfl),rfl⟩,trivial⟩) (xi_seq (XE.toD (xc c_gaps hr (xa_cons (vD 0) (xa_cons (vD 1) (xa_cons (vD 2) xa_nil)))))) (tame_n 0) (fun _ _ _ _=>⟨(xg_name (i:=0) (show ((["gap"]:List Str)++(["boxes"]:List Str):List Str).Nodup from by decide +kernel) rfl (Or.inl rfl)),xts_nil,(XE.toD (xe_add (vV 0) (XE.toV (xc c_crossed hr (xa_cons (vD 1) (xa_cons (vD 0) xa_nil))))))⟩)))))
  exact h
noncomputable def E1_are_counts:FD:=(dOf (fCall m_all_whole (aCons (dOf (fVar 0)) aNil)))
noncomputable def B_are_counts:FS:=(sRet (eOf (vAnd (dOf (fOpE (oEq false) (vOf (fVar 0)) (vOf (fVar 1)))) (dOf (fBlt bAll (aCons (vOf (fComp 1 [] (iSeq (dOf (fVar 0))) (gN 0) tTrue E1_are_counts)) aNil))))))
noncomputable def m_are_counts:List D→Option O:=mir 2 B_are_counts
abbrev s_are_counts:Stmt:=top 29
theorem S_are_counts:FnScope ["thing", "wanted"] ["thing", "wanted"] (defScope s_are_counts):=⟨rfl,rfl,rfl,by decide +kernel,rfl,by decide +kernel,by decide +kernel⟩
theorem ok_are_counts {f_all_whole:Addr} {d_all_whole:FuncData}
    (F:Fun K "are_counts" "are_counts" s_are_counts f fd)
    (c_all_whole:Cal P w K mg base 2 f_all_whole d_all_whole "all_whole" ["parts"] 1 m_all_whole)
    (z_all:mg "all" = none) :
    FnOk P w K mg base CX0 3 f fd ["thing", "wanted"] (spD K 2 m_are_counts):=by
  have h:=fnD (P:=P) (w:=w) (mg:=mg) (base:=base) (k:=2) (body:=B_are_counts) F S_are_counts (fun cdv A outer s H E hr =>
      (xss_one (xs_ret (XD.toE (xd_and (XE.toD (xe_eq hr.units (vV 0) (vV 1))) (xd_one (XE.toD (xe_blt (call_allL rfl) cd_all rfl z_all bt_all (xva_cons (XE.toV (xe_comp rfl (blk ["count"] [] [] rfl (by decide +kernel) (by decide +kernel) rfl trivial) (xi_seq (vD 0)) (tame_n 0) (fun _ _ _ _=>⟨(xg_name (i:=0) (show ((["count"]:List Str)++([]:List Str):List Str).Nodup from by decide +kernel) rfl (Or.inl rfl)),xts_nil,(XE.toD (xc c_all_whole hr (xa_cons (vD 0) xa_nil)))⟩))) xva_nil)))))))))
  exact h
noncomputable def B_is_group:FS:=(sRet (eOf (vAnd (dOf (fIsi .lst (vOf (fVar 0)))) (vAnd (dOf (fOpE oGt (vOf (fBlt bLen (aCons (vOf (fVar 0)) aNil))) (fC (.int 0)))) (dOf (fCall m_all_whole (aCons (dOf (fVar 0)) aNil)))))))
noncomputable def m_is_group:List D→Option O:=mir 1 B_is_group
abbrev s_is_group:Stmt:=top 30
theorem S_is_group:FnScope ["thing"] ["thing"] (defScope s_is_group):=⟨rfl,rfl,rfl,by decide +kernel,rfl,by decide +kernel,by decide +kernel⟩
theorem ok_is_group {f_all_whole:Addr} {d_all_whole:FuncData}
    (F:Fun K "is_group" "is_group" s_is_group f fd)
    (c_all_whole:Cal P w K mg base 2 f_all_whole d_all_whole "all_whole" ["parts"] 1 m_all_whole)
    (z_len:mg "len" = none)
    (z_isinstance:mg "isinstance" = none)
    (z_list:mg "list" = none)
    (i_list:IsT K .lst) :
    FnOk P w K mg base CX0 3 f fd ["thing"] (spD K 1 m_is_group):=by
  have h:=fnD (P:=P) (w:=w) (mg:=mg) (base:=base) (k:=2) (body:=B_is_group) F S_is_group (fun cdv A outer s H E hr =>
      (xss_one (xs_ret (XD.toE (xd_and (XE.toD (xe_isi (vV 0) i_list rfl z_isinstance rfl z_list bt_list)) (xd_and (XE.toD (xe_gt (XE.toV (xe_blt call_len_seq cd_len rfl z_len bt_len (xva_cons (vV 0) xva_nil))) (XD.toV xd_int))) (xd_one (XE.toD (xc c_all_whole hr (xa_cons (vD 0) xa_nil))))))))))
  exact h
noncomputable def E1_are_groups:FD:=(dOf (fCall m_is_group (aCons (dOf (fVar 0)) aNil)))
noncomputable def L1_are_groups:FS:=(sExt 2 (dOf (fVar 3)))
noncomputable def B_are_groups:FS:=(sSeq (sIf (tOrF (tNotF (tTru (vOf (fIsi .lst (vOf (fVar 0)))))) (tNotF (tTru (vOf (fBlt bAll (aCons (vOf (fComp 1 [] (iSeq (dOf (fVar 0))) (gN 0) tTrue E1_are_groups)) aNil)))))) (sRet (eOf (fC (.bl false)))) sNil)
    (sSeq (sSet 2 (fLst aNil))
    (sSeq (sFor (iSeq (dOf (fVar 0))) (gN 3) L1_are_groups)
    (sRet (fOpE (oEq false) (vOf (fSortL (vOf (fVar 2)))) (vOf (fVar 1)))))))
noncomputable def m_are_groups:List D→Option O:=mir 4 B_are_groups
abbrev s_are_groups:Stmt:=top 31
theorem S_are_groups:FnScope ["thing", "places", "grouped", "part"] ["thing", "places"] (defScope s_are_groups):=⟨rfl,rfl,rfl,by decide +kernel,rfl,by decide +kernel,by decide +kernel⟩
theorem ok_are_groups {f_is_group:Addr} {d_is_group:FuncData}
    (F:Fun K "are_groups" "are_groups" s_are_groups f fd)
    (c_is_group:Cal P w K mg base 3 f_is_group d_is_group "is_group" ["thing"] 1 m_is_group)
    (z_all:mg "all" = none)
    (z_isinstance:mg "isinstance" = none)
    (z_list:mg "list" = none)
    (z_sorted:mg "sorted" = none)
    (i_list:IsT K .lst) :
    FnOk P w K mg base CX0 4 f fd ["thing", "places"] (spD K 2 m_are_groups):=by
  have h:=fnD (P:=P) (w:=w) (mg:=mg) (base:=base) (k:=3) (body:=B_are_groups) F S_are_groups (fun cdv A outer s H E hr =>
      (xss_cons (xs_if (XW.toT (xw_or (xt_not (xt_val (XE.toV (xe_isi (vV 0) i_list rfl z_isinstance rfl z_list bt_list)))) (xw_or1 (xt_not (xt_val (XE.toV (xe_blt (call_allL rfl) cd_all rfl z_all bt_all (xva_cons (XE.toV (xe_comp rfl (blk ["part"] [] [] rfl (by decide +kernel) (by decide +kernel) rfl trivial) (xi_seq (vD 0)) (tame_n 0) (fun _ _ _ _=>⟨(xg_name (i:=0) (show ((["part"]:List Str)++([]:List Str):List Str).Nodup from by decide +kernel) rfl (Or.inl rfl)),xts_nil,(XE.toD (xc c_is_group hr (xa_cons (vD 0) xa_nil)))⟩))) xva_nil)))))))) (xss_one (xs_ret (XD.toE xd_bl))) xss_nil)
      (xss_cons (xs_set (i:=2) S_are_groups.nd rfl (Or.inl rfl) (xe_lst xa_nil))
      (xss_cons (xs_for PassesOwn.never rfl (xi_seq (vD 0)) (xg_name (i:=3) S_are_groups.nd rfl (Or.inl rfl)) (xss_one (xs_ext (pv 2) (vD 3))))
      (xss_one (xs_ret (xe_eq hr.units (XE.toV (xe_sort rfl z_sorted (vV 2))) (vV 1))))))))
  exact h
noncomputable def E1_holds_together:FD:=(dOf (fOpE (oEq false) (vOf (fDGet 1 (dOf (fOpE oIx (vOf (fVar 0)) (fC (.int 0)))))) (vOf (fDGet 1 (dOf (fOpE oIx (vOf (fVar 0)) (fC (.int 1))))))))
noncomputable def B_holds_together:FS:=(sSeq (sSet 2 (eOf (dOf (fCall m_group_numbers (aCons (dOf (fVar 0)) aNil)))))
    (sRet (fBlt bAll (aCons (vOf (fComp 1 [2] (iSeq (dOf (fVar 1))) (gN 0) tTrue E1_holds_together)) aNil))))
noncomputable def m_holds_together:List D→Option O:=mir 3 B_holds_together
abbrev s_holds_together:Stmt:=top 32
theorem S_holds_together:FnScope ["parts", "ties", "numbers"] ["parts", "ties"] (defScope s_holds_together):=⟨rfl,rfl,rfl,by decide +kernel,rfl,by decide +kernel,by decide +kernel⟩
theorem ok_holds_together {f_group_numbers:Addr} {d_group_numbers:FuncData}
    (F:Fun K "holds_together" "holds_together" s_holds_together f fd)
    (c_group_numbers:Cal P w K mg base 1 f_group_numbers d_group_numbers "group_numbers" ["parts"] 1 m_group_numbers)
    (z_all:mg "all" = none) :
    FnOk P w K mg base CX0 2 f fd ["parts", "ties"] (spD K 2 m_holds_together):=by
  have h:=fnD (P:=P) (w:=w) (mg:=mg) (base:=base) (k:=1) (body:=B_holds_together) F S_holds_together (fun cdv A outer s H E hr =>
      (xss_cons (xs_set (i:=2) S_holds_together.nd rfl (Or.inr rfl) (XD.toE (XE.toD (xc c_group_numbers hr (xa_cons (vD 0) xa_nil)))))
      (xss_one (xs_ret (xe_blt (call_allL rfl) cd_all rfl z_all bt_all (xva_cons (XE.toV (xe_comp rfl (blk ["tie"] ["numbers"] [2] rfl (by decide +kernel) (by decide +kernel) rfl ⟨⟨rfl,(by first|exact Or.inl rfl|exact Or.inr rfl),rfl⟩,trivial⟩) (xi_seq (vD 1)) (tame_n 0) (fun _ _ _ _=>⟨(xg_name (i:=0) (show ((["tie"]:List Str)++(["numbers"]:List Str):List Str).Nodup from by decide +kernel) rfl (Or.inl rfl)),xts_nil,(XE.toD (xe_eq hr.units (XE.toV (xe_dget hr.units (pv 1) (XE.toD (xe_item (vV 0) (XD.toV xd_int))))) (XE.toV (xe_dget hr.units (pv 1) (XE.toD (xe_item (vV 0) (XD.toV xd_int)))))))⟩))) xva_nil))))))
  exact h
noncomputable def T1_is_level:FT:=(tOf (fOpE oLt (vOf (fCall m_cost (aCons (dOf (fVar 0)) aNil))) (vOf (fOpE oIx (vOf (fVar 1)) (fC (.int 0))))))
noncomputable def E1_is_level:FD:=(dOf (fVar 0))
noncomputable def B_is_level:FS:=(sSeq (sIf (tOrF (tNotF (tTru (vOf (fIsi .tup (vOf (fVar 0)))))) (tOrF (tOf (fOpE (oEq true) (vOf (fBlt bLen (aCons (vOf (fVar 0)) aNil))) (fC (.int 2)))) (tNotF (tTru (vOf (fCall m_is_whole (aCons (dOf (fOpE oIx (vOf (fVar 0)) (fC (.int 0)))) aNil))))))) (sRet (eOf (fC (.bl false)))) sNil)
    (sSeq (sIf (tNotF (tTru (vOf (fCall m_are_groups (aCons (dOf (fOpE oIx (vOf (fVar 0)) (fC (.int 1)))) (aCons (dOf (fVar 1)) aNil)))))) (sRet (eOf (fC (.bl false)))) sNil)
    (sSeq (sSet 4 (fComp 1 [0] (iSeq (dOf (fVar 3))) (gN 0) T1_is_level E1_is_level))
    (sShare 4 (sRet (fCall m_holds_together (aCons (dOf (fOpE oIx (vOf (fVar 0)) (fC (.int 1)))) (aCons (dOf (fOpE oAdd (vOf (fVar 2)) (vOf (fVar 4)))) aNil))))))))
noncomputable def m_is_level:List D→Option O:=mir 5 B_is_level
abbrev s_is_level:Stmt:=top 33
theorem S_is_level:FnScope ["thing", "places", "ties", "edges", "shorter"] ["thing", "places", "ties", "edges"] (defScope s_is_level):=⟨rfl,rfl,rfl,by decide +kernel,rfl,by decide +kernel,by decide +kernel⟩
theorem ok_is_level {f_is_whole:Addr} {d_is_whole:FuncData} {f_are_groups:Addr} {d_are_groups:FuncData} {f_cost:Addr} {d_cost:FuncData} {f_holds_together:Addr} {d_holds_together:FuncData}
    (F:Fun K "is_level" "is_level" s_is_level f fd)
    (c_is_whole:Cal P w K mg base 1 f_is_whole d_is_whole "is_whole" ["thing"] 1 m_is_whole)
    (c_are_groups:Cal P w K mg base 4 f_are_groups d_are_groups "are_groups" ["thing", "places"] 2 m_are_groups)
    (c_cost:Cal P w K mg base 1 f_cost d_cost "cost" ["edge"] 1 m_cost)
    (c_holds_together:Cal P w K mg base 2 f_holds_together d_holds_together "holds_together" ["parts", "ties"] 2 m_holds_together)
    (z_len:mg "len" = none)
    (z_isinstance:mg "isinstance" = none)
    (z_tuple:mg "tuple" = none)
    (i_tuple:IsT K .tup) :
    FnOk P w K mg base CX0 5 f fd ["thing", "places", "ties", "edges"] (spD K 4 m_is_level):=by
  have h:=fnD (P:=P) (w:=w) (mg:=mg) (base:=base) (k:=4) (body:=B_is_level) F S_is_level (fun cdv A outer s H E hr =>
      (xss_cons (xs_if (XW.toT (xw_or (xt_not (xt_val (XE.toV (xe_isi (vV 0) i_tuple rfl z_isinstance rfl z_tuple bt_tuple)))) (xw_or (xt_ne hr.units (XE.toV (xe_blt call_len_seq cd_len rfl z_len bt_len (xva_cons (vV 0) xva_nil))) (XD.toV xd_int)) (xw_or1 (xt_not (xt_val (XE.toV (xc c_is_whole hr (xa_cons (XE.toD (xe_item (vV 0) (XD.toV xd_int))) xa_nil))))))))) (xss_one (xs_ret (XD.toE xd_bl))) xss_nil)
      (xss_cons (xs_if (xt_not (xt_val (XE.toV (xc c_are_groups hr (xa_cons (XE.toD (xe_item (vV 0) (XD.toV xd_int))) (xa_cons (vD 1) xa_nil)))))) (xss_one (xs_ret (XD.toE xd_bl))) xss_nil)
      (xss_cons (xs_setc (i:=4) rfl S_is_level.nd rfl rfl (blk ["edge"] ["thing"] [0] rfl (by decide +kernel) (by decide +kernel) rfl ⟨⟨rfl,(by first|exact Or.inl rfl|exact Or.inr rfl),rfl⟩,trivial⟩) (xi_seq (vD 3)) (tame_n 0) (fun _ _ _ _=>⟨(xg_name (i:=0) (show ((["edge"]:List Str)++(["thing"]:List Str):List Str).Nodup from by decide +kernel) rfl (Or.inl rfl)),(xts_one (xt_lt (XE.toV (xc c_cost hr (xa_cons (vD 0) xa_nil))) (XE.toV (xe_item (vV 1) (XD.toV xd_int))))),(vD 0)⟩))
      (xss_share 4 (xss_one (xs_ret (xc c_holds_together hr (xa_cons (XE.toD (xe_item (vV 0) (XD.toV xd_int))) (xa_cons (XE.toD (xe_add (vV 2) (vV 4))) xa_nil))))))))))
  exact h
noncomputable def E1_rise_from_one:FD:=(dOf (fOpE oLt (vOf (fVar 0)) (vOf (fVar 1))))
noncomputable def B_rise_from_one:FS:=(sRet (fBlt bAll (aCons (vOf (fComp 2 [] (iZp (aCons (dOf (fOpE oAdd (vOf (fLst (aCons (fC (.int 0)) aNil))) (vOf (fVar 0)))) (aCons (dOf (fVar 0)) aNil))) (gT 2 (gsCons (gN 0) (gsCons (gN 1) gsNil))) tTrue E1_rise_from_one)) aNil)))
noncomputable def m_rise_from_one:List D→Option O:=mir 1 B_rise_from_one
abbrev s_rise_from_one:Stmt:=top 34
theorem S_rise_from_one:FnScope ["bounds"] ["bounds"] (defScope s_rise_from_one):=⟨rfl,rfl,rfl,by decide +kernel,rfl,by decide +kernel,by decide +kernel⟩
theorem ok_rise_from_one 
    (F:Fun K "rise_from_one" "rise_from_one" s_rise_from_one f fd)
    (z_zip:mg "zip" = none)
    (z_all:mg "all" = none) :
    FnOk P w K mg base CX0 1 f fd ["bounds"] (spD K 1 m_rise_from_one):=by
  have h:=fnD (P:=P) (w:=w) (mg:=mg) (base:=base) (k:=0) (body:=B_rise_from_one) F S_rise_from_one (fun cdv A outer s H E hr =>
      (xss_one (xs_ret (xe_blt (call_allL rfl) cd_all rfl z_all bt_all (xva_cons (XE.toV (xe_comp rfl (blk ["ahead", "bound"] [] [] rfl (by decide +kernel) (by decide +kernel) rfl trivial) (xi_zip rfl z_zip (xa_cons (XE.toD (xe_add (XE.toV (xe_lst (xa_cons xd_int xa_nil))) (vV 0))) (xa_cons (vD 0) xa_nil))) (tame_t (tames_cons (tame_n 0) (tames_cons (tame_n 1) tames_nil))) (fun _ _ _ _=>⟨(xg_tup rfl (xgs_cons (xg_name (i:=0) (show ((["ahead", "bound"]:List Str)++([]:List Str):List Str).Nodup from by decide +kernel) rfl (Or.inl rfl)) (xgs_cons (xg_name (i:=1) (show ((["ahead", "bound"]:List Str)++([]:List Str):List Str).Nodup from by decide +kernel) rfl (Or.inl rfl)) xgs_nil))),xts_nil,(XE.toD (xe_lt (vV 0) (vV 1)))⟩))) xva_nil)))))
  exact h
noncomputable def E1_are_levels:FD:=(dOf (fCall m_is_level (aCons (dOf (fVar 0)) (aCons (dOf (fVar 1)) (aCons (dOf (fVar 2)) (aCons (dOf (fVar 3)) aNil))))))
noncomputable def E2_are_levels:FD:=(dOf (fOpE oIx (vOf (fVar 0)) (fC (.int 0))))
noncomputable def B_are_levels:FS:=(sSeq (sIf (tNotF (tTru (vOf (fIsi .lst (vOf (fVar 3)))))) (sRet (eOf (fC (.bl false)))) sNil)
    (sSeq (sSet 4 (eOf (dOf (fCall m_stops (aCons (dOf (fVar 0)) (aCons (dOf (fVar 1)) (aCons (dOf (fVar 2)) aNil)))))))
    (sSeq (sSet 5 (eOf (dOf (fCall m_knots (aCons (dOf (fVar 0)) (aCons (dOf (fVar 1)) (aCons (dOf (fVar 2)) aNil)))))))
    (sSeq (sSet 6 (eOf (dOf (fCall m_gap_edges (aCons (dOf (fVar 0)) (aCons (dOf (fVar 1)) (aCons (dOf (fVar 2)) aNil)))))))
    (sSeq (sIf (tNotF (tTru (vOf (fBlt bAll (aCons (vOf (fComp 1 [4,5,6] (iSeq (dOf (fVar 3))) (gN 0) tTrue E1_are_levels)) aNil))))) (sRet (eOf (fC (.bl false)))) sNil)
    (sRet (fCall m_rise_from_one (aCons (dOf (fComp 1 [] (iSeq (dOf (fVar 3))) (gN 0) tTrue E2_are_levels)) aNil))))))))
noncomputable def m_are_levels:List D→Option O:=mir 7 B_are_levels
abbrev s_are_levels:Stmt:=top 35
theorem S_are_levels:FnScope ["home", "last", "boxes", "thing", "places", "ties", "edges"] ["home", "last", "boxes", "thing"] (defScope s_are_levels):=⟨rfl,rfl,rfl,by decide +kernel,rfl,by decide +kernel,by decide +kernel⟩
theorem ok_are_levels {f_stops:Addr} {d_stops:FuncData} {f_knots:Addr} {d_knots:FuncData} {f_gap_edges:Addr} {d_gap_edges:FuncData} {f_is_level:Addr} {d_is_level:FuncData} {f_rise_from_one:Addr} {d_rise_from_one:FuncData}
    (F:Fun K "are_levels" "are_levels" s_are_levels f fd)
    (c_stops:Cal P w K mg base 5 f_stops d_stops "stops" ["home", "last", "boxes"] 3 m_stops)
    (c_knots:Cal P w K mg base 8 f_knots d_knots "knots" ["home", "last", "boxes"] 3 m_knots)
    (c_gap_edges:Cal P w K mg base 7 f_gap_edges d_gap_edges "gap_edges" ["home", "last", "boxes"] 3 m_gap_edges)
    (c_is_level:Cal P w K mg base 5 f_is_level d_is_level "is_level" ["thing", "places", "ties", "edges"] 4 m_is_level)
    (c_rise_from_one:Cal P w K mg base 1 f_rise_from_one d_rise_from_one "rise_from_one" ["bounds"] 1 m_rise_from_one)
    (z_isinstance:mg "isinstance" = none)
    (z_list:mg "list" = none)
    (z_all:mg "all" = none)
    (i_list:IsT K .lst) :
    FnOk P w K mg base CX0 9 f fd ["home", "last", "boxes", "thing"] (spD K 4 m_are_levels):=by
  have h:=fnD (P:=P) (w:=w) (mg:=mg) (base:=base) (k:=8) (body:=B_are_levels) F S_are_levels (fun cdv A outer s H E hr =>
      (xss_cons (xs_if (xt_not (xt_val (XE.toV (xe_isi (vV 3) i_list rfl z_isinstance rfl z_list bt_list)))) (xss_one (xs_ret (XD.toE xd_bl))) xss_nil)
      (xss_cons (xs_set (i:=4) S_are_levels.nd rfl (Or.inr rfl) (XD.toE (XE.toD (xc c_stops hr (xa_cons (vD 0) (xa_cons (vD 1) (xa_cons (vD 2) xa_nil)))))))
      (xss_cons (xs_set (i:=5) S_are_levels.nd rfl (Or.inr rfl) (XD.toE (XE.toD (xc c_knots hr (xa_cons (vD 0) (xa_cons (vD 1) (xa_cons (vD 2) xa_nil)))))))
      (xss_cons (xs_set (i:=6) S_are_levels.nd rfl (Or.inr rfl) (XD.toE (XE.toD (xc c_gap_edges hr (xa_cons (vD 0) (xa_cons (vD 1) (xa_cons (vD 2) xa_nil)))))))
      (xss_cons (xs_if (xt_not (xt_val (XE.toV (xe_blt (call_allL rfl) cd_all rfl z_all bt_all (xva_cons (XE.toV (xe_comp rfl (blk ["level"] ["places", "ties", "edges"] [4,5,6] rfl (by decide +kernel) (by decide +kernel) rfl ⟨⟨rfl,(by first|exact Or.inl rfl|exact Or.inr rfl),rfl⟩,⟨⟨rfl,(by first|exact Or.inl rfl|exact Or.inr rfl),rfl⟩,⟨⟨rfl,(by first|exact Or.inl rfl|exact Or.inr rfl),rfl⟩,trivial⟩⟩⟩) (xi_seq (vD 3)) (tame_n 0) (fun _ _ _ _=>⟨(xg_name (i:=0) (show ((["level"]:List Str)++(["places", "ties", "edges"]:List Str):List Str).Nodup from by decide +kernel) rfl (Or.inl rfl)),xts_nil,(XE.toD (xc c_is_level hr (xa_cons (vD 0) (xa_cons (vD 1) (xa_cons (vD 2) (xa_cons (vD 3) xa_nil))))))⟩))) xva_nil))))) (xss_one (xs_ret (XD.toE xd_bl))) xss_nil)
      (xss_one (xs_ret (xc c_rise_from_one hr (xa_cons (XE.toD (xe_comp rfl (blk ["level"] [] [] rfl (by decide +kernel) (by decide +kernel) rfl trivial) (xi_seq (vD 3)) (tame_n 0) (fun _ _ _ _=>⟨(xg_name (i:=0) (show ((["level"]:List Str)++([]:List Str):List Str).Nodup from by decide +kernel) rfl (Or.inl rfl)),xts_nil,(XE.toD (xe_item (vV 0) (XD.toV xd_int)))⟩))) xa_nil))))))))))
  exact h
noncomputable def B_is_reason:FS:=(sSeq (sDrop (fCall m_check_errand (aCons (dOf (fVar 0)) (aCons (dOf (fVar 1)) (aCons (dOf (fVar 2)) aNil)))))
    (sSeq (sIf (tOrF (tNotF (tTru (vOf (fIsi .tup (vOf (fVar 3)))))) (tOf (fOpE (oEq true) (vOf (fBlt bLen (aCons (vOf (fVar 3)) aNil))) (fC (.int 2))))) (sRet (eOf (fC (.bl false)))) sNil)
    (sRet (eOf (vAnd (dOf (fCall m_are_counts (aCons (dOf (fOpE oIx (vOf (fVar 3)) (fC (.int 0)))) (aCons (dOf (fCall m_counts_of (aCons (dOf (fVar 0)) (aCons (dOf (fVar 1)) (aCons (dOf (fVar 2)) aNil))))) aNil)))) (dOf (fCall m_are_levels (aCons (dOf (fVar 0)) (aCons (dOf (fVar 1)) (aCons (dOf (fVar 2)) (aCons (dOf (fOpE oIx (vOf (fVar 3)) (fC (.int 1)))) aNil)))))))))))
noncomputable def m_is_reason:List D→Option O:=mir 4 B_is_reason
abbrev s_is_reason:Stmt:=top 36
theorem S_is_reason:FnScope ["home", "last", "boxes", "thing"] ["home", "last", "boxes", "thing"] (defScope s_is_reason):=⟨rfl,rfl,rfl,by decide +kernel,rfl,by decide +kernel,by decide +kernel⟩
theorem ok_is_reason {f_check_errand:Addr} {d_check_errand:FuncData} {f_are_levels:Addr} {d_are_levels:FuncData} {f_are_counts:Addr} {d_are_counts:FuncData} {f_counts_of:Addr} {d_counts_of:FuncData}
    (F:Fun K "is_reason" "is_reason" s_is_reason f fd)
    (c_check_errand:Cal P w K mg base 4 f_check_errand d_check_errand "check_errand" ["home", "last", "boxes"] 3 m_check_errand)
    (c_are_levels:Cal P w K mg base 9 f_are_levels d_are_levels "are_levels" ["home", "last", "boxes", "thing"] 4 m_are_levels)
    (c_are_counts:Cal P w K mg base 3 f_are_counts d_are_counts "are_counts" ["thing", "wanted"] 2 m_are_counts)
    (c_counts_of:Cal P w K mg base 7 f_counts_of d_counts_of "counts_of" ["home", "last", "boxes"] 3 m_counts_of)
    (z_len:mg "len" = none)
    (z_isinstance:mg "isinstance" = none)
    (z_tuple:mg "tuple" = none)
    (i_tuple:IsT K .tup) :
    FnOk P w K mg base CX0 10 f fd ["home", "last", "boxes", "thing"] (spD K 4 m_is_reason):=by
  have h:=fnD (P:=P) (w:=w) (mg:=mg) (base:=base) (k:=9) (body:=B_is_reason) F S_is_reason (fun cdv A outer s H E hr =>
      (xss_cons (xs_expr (xc c_check_errand hr (xa_cons (vD 0) (xa_cons (vD 1) (xa_cons (vD 2) xa_nil)))))
      (xss_cons (xs_if (XW.toT (xw_or (xt_not (xt_val (XE.toV (xe_isi (vV 3) i_tuple rfl z_isinstance rfl z_tuple bt_tuple)))) (xw_or1 (xt_ne hr.units (XE.toV (xe_blt call_len_seq cd_len rfl z_len bt_len (xva_cons (vV 3) xva_nil))) (XD.toV xd_int))))) (xss_one (xs_ret (XD.toE xd_bl))) xss_nil)
      (xss_one (xs_ret (XD.toE (xd_and (XE.toD (xc c_are_counts hr (xa_cons (XE.toD (xe_item (vV 3) (XD.toV xd_int))) (xa_cons (XE.toD (xc c_counts_of hr (xa_cons (vD 0) (xa_cons (vD 1) (xa_cons (vD 2) xa_nil))))) xa_nil)))) (xd_one (XE.toD (xc c_are_levels hr (xa_cons (vD 0) (xa_cons (vD 1) (xa_cons (vD 2) (xa_cons (XE.toD (xe_item (vV 3) (XD.toV xd_int))) xa_nil))))))))))))))
  exact h
noncomputable def B_gap_weight:FS:=(sRet (fOpE oMul (vOf (fOpE oSub (vOf (fOpE oIx (vOf (fVar 0)) (fC (.int 1)))) (vOf (fOpE oIx (vOf (fVar 0)) (fC (.int 0)))))) (vOf (fOpE oAdd (vOf (fOpE oAdd (vOf (fOpE oIx (vOf (fVar 0)) (fC (.int 2)))) (vOf (fOpE oIx (vOf (fVar 0)) (fC (.int 3)))))) (vOf (fBlt bAbs (aCons (vOf (fVar 1)) aNil)))))))
noncomputable def m_gap_weight:List D→Option O:=mir 2 B_gap_weight
abbrev s_gap_weight:Stmt:=top 37
theorem S_gap_weight:FnScope ["count", "lack"] ["count", "lack"] (defScope s_gap_weight):=⟨rfl,rfl,rfl,by decide +kernel,rfl,by decide +kernel,by decide +kernel⟩
theorem ok_gap_weight 
    (F:Fun K "gap_weight" "gap_weight" s_gap_weight f fd)
    (z_abs:mg "abs" = none) :
    FnOk P w K mg base CX0 1 f fd ["count", "lack"] (spD K 2 m_gap_weight):=by
  have h:=fnD (P:=P) (w:=w) (mg:=mg) (base:=base) (k:=0) (body:=B_gap_weight) F S_gap_weight (fun cdv A outer s H E hr =>
      (xss_one (xs_ret (xe_mul (XE.toV (xe_sub (XE.toV (xe_item (vV 0) (XD.toV xd_int))) (XE.toV (xe_item (vV 0) (XD.toV xd_int))))) (XE.toV (xe_add (XE.toV (xe_add (XE.toV (xe_item (vV 0) (XD.toV xd_int))) (XE.toV (xe_item (vV 0) (XD.toV xd_int))))) (XE.toV (xe_blt call_abs cd_abs rfl z_abs bt_abs (xva_cons (vV 1) xva_nil)))))))))
  exact h
noncomputable def E1_weight:FD:=(dOf (fCall m_gap_weight (aCons (dOf (fVar 0)) (aCons (dOf (fVar 1)) aNil))))
noncomputable def B_weight:FS:=(sSeq (sIf (tNotF (tTru (vOf (fCall m_is_reason (aCons (dOf (fVar 0)) (aCons (dOf (fVar 1)) (aCons (dOf (fVar 2)) (aCons (dOf (fVar 3)) aNil)))))))) sNo sNil)
    (sSeq (sSet 4 (fComp 2 [] (iZp (aCons (dOf (fOpE oIx (vOf (fVar 3)) (fC (.int 0)))) (aCons (dOf (fCall m_lacks (aCons (dOf (fVar 0)) (aCons (dOf (fVar 1)) (aCons (dOf (fVar 2)) aNil))))) aNil))) (gT 2 (gsCons (gN 0) (gsCons (gN 1) gsNil))) tTrue E1_weight))
    (sShare 4 (sRet (fOpE oAdd (vOf (fBlt bSum (aCons (vOf (fVar 4)) aNil))) (vOf (fOpE oMul (fC (.int 2)) (vOf (fCall m_weighed (aCons (dOf (fOpE oIx (vOf (fVar 3)) (fC (.int 1)))) (aCons (fC (.int 1)) aNil)))))))))))
noncomputable def m_weight:List D→Option O:=mir 5 B_weight
abbrev s_weight:Stmt:=top 38
theorem S_weight:FnScope ["home", "last", "boxes", "thing", "crossings"] ["home", "last", "boxes", "thing"] (defScope s_weight):=⟨rfl,rfl,rfl,by decide +kernel,rfl,by decide +kernel,by decide +kernel⟩
theorem ok_weight {f_is_reason:Addr} {d_is_reason:FuncData} {f_lacks:Addr} {d_lacks:FuncData} {f_gap_weight:Addr} {d_gap_weight:FuncData} {f_weighed:Addr} {d_weighed:FuncData}
    (F:Fun K "weight" "weight" s_weight f fd)
    (c_is_reason:Cal P w K mg base 10 f_is_reason d_is_reason "is_reason" ["home", "last", "boxes", "thing"] 4 m_is_reason)
    (c_lacks:Cal P w K mg base 7 f_lacks d_lacks "lacks" ["home", "last", "boxes"] 3 m_lacks)
    (c_gap_weight:Cal P w K mg base 1 f_gap_weight d_gap_weight "gap_weight" ["count", "lack"] 2 m_gap_weight)
    (c_weighed:Cal P w K mg base 1 f_weighed d_weighed "weighed" ["levels", "rest"] 2 m_weighed)
    (z_zip:mg "zip" = none)
    (z_sum:mg "sum" = none) :
    FnOk P w K mg base CX0 11 f fd ["home", "last", "boxes", "thing"] (spD K 4 m_weight):=by
  have h:=fnD (P:=P) (w:=w) (mg:=mg) (base:=base) (k:=10) (body:=B_weight) F S_weight (fun cdv A outer s H E hr =>
      (xss_cons (xs_if (xt_not (xt_val (XE.toV (xc c_is_reason hr (xa_cons (vD 0) (xa_cons (vD 1) (xa_cons (vD 2) (xa_cons (vD 3) xa_nil)))))))) (xss_one xs_no) xss_nil)
      (xss_cons (xs_setc (i:=4) rfl S_weight.nd rfl rfl (blk ["count", "lack"] [] [] rfl (by decide +kernel) (by decide +kernel) rfl trivial) (xi_zip rfl z_zip (xa_cons (XE.toD (xe_item (vV 3) (XD.toV xd_int))) (xa_cons (XE.toD (xc c_lacks hr (xa_cons (vD 0) (xa_cons (vD 1) (xa_cons (vD 2) xa_nil))))) xa_nil))) (tame_t (tames_cons (tame_n 0) (tames_cons (tame_n 1) tames_nil))) (fun _ _ _ _=>⟨(xg_tup rfl (xgs_cons (xg_name (i:=0) (show ((["count", "lack"]:List Str)++([]:List Str):List Str).Nodup from by decide +kernel) rfl (Or.inl rfl)) (xgs_cons (xg_name (i:=1) (show ((["count", "lack"]:List Str)++([]:List Str):List Str).Nodup from by decide +kernel) rfl (Or.inl rfl)) xgs_nil))),xts_nil,(XE.toD (xc c_gap_weight hr (xa_cons (vD 0) (xa_cons (vD 1) xa_nil))))⟩))
      (xss_share 4 (xss_one (xs_ret (xe_add (XE.toV (xe_blt (call_sumL rfl) cd_sum rfl z_sum bt_sum (xva_cons (vV 4) xva_nil))) (XE.toV (xe_mul (XD.toV xd_int) (XE.toV (xc c_weighed hr (xa_cons (XE.toD (xe_item (vV 3) (XD.toV xd_int))) (xa_cons xd_int xa_nil)))))))))))))
  exact h
noncomputable def B__law_cell_at:FS:=(sSeq (sIf (tOf (fOpE oLt (vOf (fVar 1)) (vOf (fBlt bLen (aCons (vOf (fVar 0)) aNil))))) (sRet (fOpE oIx (vOf (fVar 0)) (vOf (fVar 1)))) sNil)
    (sRet (eOf (fC (.int 0)))))
noncomputable def m__law_cell_at:List D→Option O:=mir 2 B__law_cell_at
abbrev s__law_cell_at:Stmt:=top 40
theorem S__law_cell_at:FnScope ["script", "k"] ["script", "k"] (defScope s__law_cell_at):=⟨rfl,rfl,rfl,by decide +kernel,rfl,by decide +kernel,by decide +kernel⟩
theorem ok__law_cell_at 
    (F:Fun K "_law_cell_at" "_law_cell_at" s__law_cell_at f fd)
    (z_len:mg "len" = none) :
    FnOk P w K mg base CX0 1 f fd ["script", "k"] (spD K 2 m__law_cell_at):=by
  have h:=fnD (P:=P) (w:=w) (mg:=mg) (base:=base) (k:=0) (body:=B__law_cell_at) F S__law_cell_at (fun cdv A outer s H E hr =>
      (xss_cons (xs_if (xt_lt (vV 1) (XE.toV (xe_blt call_len_seq cd_len rfl z_len bt_len (xva_cons (vV 0) xva_nil)))) (xss_one (xs_ret (xe_item (vV 0) (vV 1)))) xss_nil)
      (xss_one (xs_ret (XD.toE xd_int)))))
  exact h
noncomputable def B__law_place:FS:=(sSeq (sIf (tOf (fOpE (oEq false) (vOf (fOpE oMod (vOf (fVar 0)) (fC (.int 3)))) (fC (.int 0)))) (sRet (fOpE oSub (vOf (fOpE oMod (vOf (fOpE oDiv (vOf (fVar 0)) (fC (.int 3)))) (fC (.int 19)))) (fC (.int 9)))) sNil)
    (sSeq (sIf (tOf (fOpE (oEq false) (vOf (fOpE oMod (vOf (fVar 0)) (fC (.int 3)))) (fC (.int 1)))) (sRet (fOpE oSub (vOf (fOpE oMod (vOf (fOpE oDiv (vOf (fVar 0)) (fC (.int 3)))) (fC (.int 2001)))) (fC (.int 1000)))) sNil)
    (sRet (fOpE oSub (vOf (fOpE oMod (vOf (fOpE oDiv (vOf (fVar 0)) (fC (.int 3)))) (vOf (fOpE oAdd (vOf (fOpE oMul (fC (.int 2)) (vOf (fOpE oPow (fC (.int 10)) (fC (.int 39)))))) (fC (.int 1)))))) (vOf (fOpE oPow (fC (.int 10)) (fC (.int 39))))))))
noncomputable def m__law_place:List D→Option O:=mir 1 B__law_place
abbrev s__law_place:Stmt:=top 41
theorem S__law_place:FnScope ["cell"] ["cell"] (defScope s__law_place):=⟨rfl,rfl,rfl,by decide +kernel,rfl,by decide +kernel,by decide +kernel⟩
theorem ok__law_place 
    (F:Fun K "_law_place" "_law_place" s__law_place f fd) :
    FnOk P w K mg base CX0 1 f fd ["cell"] (spD K 1 m__law_place):=by
  have h:=fnD (P:=P) (w:=w) (mg:=mg) (base:=base) (k:=0) (body:=B__law_place) F S__law_place (fun cdv A outer s H E hr =>
      (xss_cons (xs_if (xt_eq hr.units (XE.toV (xe_mod (vV 0) (XD.toV xd_int))) (XD.toV xd_int)) (xss_one (xs_ret (xe_sub (XE.toV (xe_mod (XE.toV (xe_fdiv (vV 0) (XD.toV xd_int))) (XD.toV xd_int))) (XD.toV xd_int)))) xss_nil)
      (xss_cons (xs_if (xt_eq hr.units (XE.toV (xe_mod (vV 0) (XD.toV xd_int))) (XD.toV xd_int)) (xss_one (xs_ret (xe_sub (XE.toV (xe_mod (XE.toV (xe_fdiv (vV 0) (XD.toV xd_int))) (XD.toV xd_int))) (XD.toV xd_int)))) xss_nil)
      (xss_one (xs_ret (xe_sub (XE.toV (xe_mod (XE.toV (xe_fdiv (vV 0) (XD.toV xd_int))) (XE.toV (xe_add (XE.toV (xe_mul (XD.toV xd_int) (XE.toV (xe_pow (XD.toV xd_int) (XD.toV xd_int))))) (XD.toV xd_int))))) (XE.toV (xe_pow (XD.toV xd_int) (XD.toV xd_int)))))))))
  exact h
noncomputable def E1__law_errand:FD:=(dOf (fCall m__law_place (aCons (dOf (fCall m__law_cell_at (aCons (dOf (fVar 1)) (aCons (dOf (fOpE oAdd (fC (.int 1)) (vOf (fVar 0)))) aNil)))) aNil)))
noncomputable def L1__law_errand:FS:=(sSeq (sSet 7 (eOf (dOf (fOpE oIx (vOf (fVar 4)) (vOf (fOpE oMod (vOf (fVar 6)) (vOf (fVar 3))))))))
    (sSeq (sSet 8 (eOf (dOf (fOpE oIx (vOf (fVar 4)) (vOf (fOpE oMod (vOf (fOpE oDiv (vOf (fVar 6)) (vOf (fVar 3)))) (vOf (fVar 3))))))))
    (sSeq (sIf (tOf (fOpE oLt (vOf (fBlt bLen (aCons (vOf (fVar 5)) aNil))) (vOf (fVar 1)))) (sApp 5 (fTup (aCons (dOf (fVar 7)) (aCons (dOf (fVar 8)) aNil)))) sNil)
    (sIf (tAndF (tOf (fOpE oLt (vOf (fBlt bLen (aCons (vOf (fVar 5)) aNil))) (vOf (fVar 1)))) (tOrF (tOf (fOpE (oEq false) (vOf (fOpE oMod (vOf (fOpE oDiv (vOf (fVar 2)) (fC (.int 4096)))) (fC (.int 3)))) (fC (.int 1)))) (tAndF (tOf (fOpE (oEq false) (vOf (fOpE oMod (vOf (fOpE oDiv (vOf (fVar 2)) (fC (.int 4096)))) (fC (.int 3)))) (fC (.int 2)))) (tOf (fOpE (oEq false) (vOf (fOpE oMod (vOf (fOpE oDiv (vOf (fVar 6)) (fC (.int 64)))) (fC (.int 2)))) (fC (.int 1))))))) (sApp 5 (fTup (aCons (dOf (fVar 8)) (aCons (dOf (fVar 7)) aNil)))) sNil))))
noncomputable def B__law_errand:FS:=(sSeq (sSet 2 (eOf (dOf (fOpE oMod (vOf (fOpE oMul (vOf (fCall m__law_cell_at (aCons (dOf (fVar 0)) (aCons (fC (.int 0)) aNil)))) (fC (.int 48271)))) (fC (.int 65537))))))
    (sSeq (sSet 3 (eOf (dOf (fOpE oSub (fC (.int 8)) (vOf (fOpE oMod (vOf (fVar 2)) (fC (.int 8))))))))
    (sSeq (sSet 4 (fComp 1 [0] (iRg1 (aCons (vOf (fVar 3)) aNil)) (gN 0) tTrue E1__law_errand))
    (sShare 4 (sSeq (sSet 5 (fLst aNil))
    (sSeq (sFor (iSeq (dOf (fSl (vOf (fVar 0)) (pAt (fC (.int 9))) (pAt (vOf (fOpE oAdd (fC (.int 9)) (vOf (fOpE oIx (vOf (fLst (aCons (dOf (fVar 1)) (aCons (fC (.int 3)) (aCons (fC (.int 1)) (aCons (fC (.int 5)) (aCons (fC (.int 0)) (aCons (fC (.int 2)) (aCons (dOf (fVar 1)) (aCons (fC (.int 4)) aNil)))))))))) (vOf (fOpE oMod (vOf (fOpE oDiv (vOf (fVar 2)) (fC (.int 512)))) (fC (.int 8)))))))))))) (gN 6) L1__law_errand)
    (sSeq (sSet 9 (eOf (dOf (fOpE oIx (vOf (fVar 4)) (vOf (fOpE oMod (vOf (fOpE oDiv (vOf (fVar 2)) (fC (.int 8)))) (vOf (fVar 3))))))))
    (sSeq (sIf (tOf (fOpE (oEq false) (vOf (fOpE oMod (vOf (fOpE oDiv (vOf (fVar 2)) (fC (.int 12288)))) (fC (.int 2)))) (fC (.int 0)))) (sShare 5 (sRet (eOf (fTup (aCons (dOf (fVar 9)) (aCons (dOf (fVar 9)) (aCons (dOf (fVar 5)) aNil))))))) sNil)
    (sShare 5 (sRet (eOf (fTup (aCons (dOf (fVar 9)) (aCons (dOf (fOpE oIx (vOf (fVar 4)) (vOf (fOpE oMod (vOf (fOpE oDiv (vOf (fVar 2)) (fC (.int 64)))) (vOf (fVar 3)))))) (aCons (dOf (fVar 5)) aNil)))))))))))))))
noncomputable def m__law_errand:List D→Option O:=mir 10 B__law_errand
abbrev s__law_errand:Stmt:=top 42
theorem S__law_errand:FnScope ["script", "most", "head", "many", "spots", "boxes", "cell", "one", "other", "home"] ["script", "most"] (defScope s__law_errand):=⟨rfl,rfl,rfl,by decide +kernel,rfl,by decide +kernel,by decide +kernel⟩
theorem ok__law_errand {f__law_cell_at:Addr} {d__law_cell_at:FuncData} {f__law_place:Addr} {d__law_place:FuncData}
    (F:Fun K "_law_errand" "_law_errand" s__law_errand f fd)
    (c__law_cell_at:Cal P w K mg base 1 f__law_cell_at d__law_cell_at "_law_cell_at" ["script", "k"] 2 m__law_cell_at)
    (c__law_place:Cal P w K mg base 1 f__law_place d__law_place "_law_place" ["cell"] 1 m__law_place)
    (z_range:mg "range" = none)
    (z_len:mg "len" = none) :
    FnOk P w K mg base CX0 2 f fd ["script", "most"] (spD K 2 m__law_errand):=by
  have h:=fnD (P:=P) (w:=w) (mg:=mg) (base:=base) (k:=1) (body:=B__law_errand) F S__law_errand (fun cdv A outer s H E hr =>
      (xss_cons (xs_set (i:=2) S__law_errand.nd rfl (Or.inl rfl) (XD.toE (XE.toD (xe_mod (XE.toV (xe_mul (XE.toV (xc c__law_cell_at hr (xa_cons (vD 0) (xa_cons xd_int xa_nil)))) (XD.toV xd_int))) (XD.toV xd_int)))))
      (xss_cons (xs_set (i:=3) S__law_errand.nd rfl (Or.inl rfl) (XD.toE (XE.toD (xe_sub (XD.toV xd_int) (XE.toV (xe_mod (vV 2) (XD.toV xd_int)))))))
      (xss_cons (xs_setc (i:=4) rfl S__law_errand.nd rfl rfl (blk ["k"] ["script"] [0] rfl (by decide +kernel) (by decide +kernel) rfl ⟨⟨rfl,(by first|exact Or.inl rfl|exact Or.inr rfl),rfl⟩,trivial⟩) (xi_range1 rfl z_range (xva_cons (vV 3) xva_nil)) (tame_n 0) (fun _ _ _ _=>⟨(xg_name (i:=0) (show ((["k"]:List Str)++(["script"]:List Str):List Str).Nodup from by decide +kernel) rfl (Or.inl rfl)),xts_nil,(XE.toD (xc c__law_place hr (xa_cons (XE.toD (xc c__law_cell_at hr (xa_cons (vD 1) (xa_cons (XE.toD (xe_add (XD.toV xd_int) (vV 0))) xa_nil)))) xa_nil)))⟩))
      (xss_share 4 (xss_cons (xs_set (i:=5) S__law_errand.nd rfl (Or.inl rfl) (xe_lst xa_nil))
      (xss_cons (xs_for PassesOwn.never rfl (xi_seq (XE.toD (xe_slice (vV 0) (xo_some (XD.toV xd_int)) (xo_some (XE.toV (xe_add (XD.toV xd_int) (XE.toV (xe_item (XE.toV (xe_lst (xa_cons (vD 1) (xa_cons xd_int (xa_cons xd_int (xa_cons xd_int (xa_cons xd_int (xa_cons xd_int (xa_cons (vD 1) (xa_cons xd_int xa_nil)))))))))) (XE.toV (xe_mod (XE.toV (xe_fdiv (vV 2) (XD.toV xd_int))) (XD.toV xd_int))))))))))) (xg_name (i:=6) S__law_errand.nd rfl (Or.inl rfl)) (xss_cons (xs_set (i:=7) S__law_errand.nd rfl (Or.inl rfl) (XD.toE (XE.toD (xe_item (vV 4) (XE.toV (xe_mod (vV 6) (vV 3)))))))
      (xss_cons (xs_set (i:=8) S__law_errand.nd rfl (Or.inl rfl) (XD.toE (XE.toD (xe_item (vV 4) (XE.toV (xe_mod (XE.toV (xe_fdiv (vV 6) (vV 3))) (vV 3)))))))
      (xss_cons (xs_if (xt_lt (XE.toV (xe_blt call_len_seq cd_len rfl z_len bt_len (xva_cons (vV 5) xva_nil))) (vV 1)) (xss_one (xs_app (pv 5) (xd_tup (xa_cons (vD 7) (xa_cons (vD 8) xa_nil))))) xss_nil)
      (xss_one (xs_if (XW.toT (xw_and (xt_lt (XE.toV (xe_blt call_len_seq cd_len rfl z_len bt_len (xva_cons (vV 5) xva_nil))) (vV 1)) (xw_and1 (XW.toT (xw_or (xt_eq hr.units (XE.toV (xe_mod (XE.toV (xe_fdiv (vV 2) (XD.toV xd_int))) (XD.toV xd_int))) (XD.toV xd_int)) (xw_or1 (XW.toT (xw_and (xt_eq hr.units (XE.toV (xe_mod (XE.toV (xe_fdiv (vV 2) (XD.toV xd_int))) (XD.toV xd_int))) (XD.toV xd_int)) (xw_and1 (xt_eq hr.units (XE.toV (xe_mod (XE.toV (xe_fdiv (vV 6) (XD.toV xd_int))) (XD.toV xd_int))) (XD.toV xd_int))))))))))) (xss_one (xs_app (pv 5) (xd_tup (xa_cons (vD 8) (xa_cons (vD 7) xa_nil))))) xss_nil))))))
      (xss_cons (xs_set (i:=9) S__law_errand.nd rfl (Or.inl rfl) (XD.toE (XE.toD (xe_item (vV 4) (XE.toV (xe_mod (XE.toV (xe_fdiv (vV 2) (XD.toV xd_int))) (vV 3)))))))
      (xss_cons (xs_if (xt_eq hr.units (XE.toV (xe_mod (XE.toV (xe_fdiv (vV 2) (XD.toV xd_int))) (XD.toV xd_int))) (XD.toV xd_int)) (xss_share 5 (xss_one (xs_ret (XD.toE (xd_tup (xa_cons (vD 9) (xa_cons (vD 9) (xa_cons (vD 5) xa_nil)))))))) xss_nil)
      (xss_share 5 (xss_one (xs_ret (XD.toE (xd_tup (xa_cons (vD 9) (xa_cons (XE.toD (xe_item (vV 4) (XE.toV (xe_mod (XE.toV (xe_fdiv (vV 2) (XD.toV xd_int))) (vV 3))))) (xa_cons (vD 5) xa_nil)))))))))))))))))
  exact h
noncomputable def E1__law_counts:FD:=(dOf (fOpE oAdd (vOf (fVar 0)) (vOf (fCall m_crossed (aCons (dOf (fVar 1)) (aCons (dOf (fVar 0)) aNil))))))
noncomputable def B__law_counts:FS:=(sRet (fComp 1 [2] (iSeq (dOf (fCall m_gaps (aCons (dOf (fVar 0)) (aCons (dOf (fVar 1)) (aCons (dOf (fVar 2)) aNil)))))) (gN 0) tTrue E1__law_counts))
noncomputable def m__law_counts:List D→Option O:=mir 3 B__law_counts
abbrev s__law_counts:Stmt:=top 43
theorem S__law_counts:FnScope ["home", "last", "boxes"] ["home", "last", "boxes"] (defScope s__law_counts):=⟨rfl,rfl,rfl,by decide +kernel,rfl,by decide +kernel,by decide +kernel⟩
theorem ok__law_counts {f_gaps:Addr} {d_gaps:FuncData} {f_crossed:Addr} {d_crossed:FuncData}
    (F:Fun K "_law_counts" "_law_counts" s__law_counts f fd)
    (c_gaps:Cal P w K mg base 6 f_gaps d_gaps "gaps" ["home", "last", "boxes"] 3 m_gaps)
    (c_crossed:Cal P w K mg base 2 f_crossed d_crossed "crossed" ["boxes", "gap"] 2 m_crossed) :
    FnOk P w K mg base CX0 7 f fd ["home", "last", "boxes"] (spD K 3 m__law_counts):=by
  have h:=fnD (P:=P) (w:=w) (mg:=mg) (base:=base) (k:=6) (body:=B__law_counts) F S__law_counts (fun cdv A outer s H E hr =>
      (xss_one (xs_ret (xe_comp rfl (blk ["gap"] ["boxes"] [2] rfl (by decide +kernel) (by decide +kernel) rfl ⟨⟨rfl,(by first|exact Or.inl rfl|exact Or.inr rfl),rfl⟩,trivial⟩) (xi_seq (XE.toD (xc c_gaps hr (xa_cons (vD 0) (xa_cons (vD 1) (xa_cons (vD 2) xa_nil)))))) (tame_n 0) (fun _ _ _ _=>⟨(xg_name (i:=0) (show ((["gap"]:List Str)++(["boxes"]:List Str):List Str).Nodup from by decide +kernel) rfl (Or.inl rfl)),xts_nil,(XE.toD (xe_add (vV 0) (XE.toV (xc c_crossed hr (xa_cons (vD 1) (xa_cons (vD 0) xa_nil))))))⟩)))))
  exact h
noncomputable def T1__law_levels:FT:=(tOf (fOpE oLt (vOf (fOpE oSub (vOf (fOpE oIx (vOf (fVar 0)) (fC (.int 1)))) (vOf (fOpE oIx (vOf (fVar 0)) (fC (.int 0)))))) (vOf (fVar 1))))
noncomputable def E1__law_levels:FD:=(dOf (fVar 0))
noncomputable def E2__law_levels:FD:=(dOf (fRev (vOf (fVar 0))))
noncomputable def L1__law_levels:FS:=(sSeq (sSet 6 (eOf (dOf (fOpE oAdd (vOf (fOpE oAdd (vOf (fVar 6)) (fC (.int 1)))) (vOf (fOpE oMod (vOf (fOpE oDiv (vOf (fVar 7)) (fC (.int 4)))) (vOf (fOpE oIx (vOf (fLst (aCons (fC (.int 1)) (aCons (fC (.int 20)) (aCons (fC (.int 2000)) (aCons (dOf (fOpE oPow (fC (.int 10)) (fC (.int 39)))) aNil)))))) (vOf (fOpE oMod (vOf (fVar 7)) (fC (.int 4))))))))))))
    (sSeq (sSet 8 (eOf (dOf (fOpE oAdd (vOf (fCall m_knots (aCons (dOf (fVar 1)) (aCons (dOf (fVar 2)) (aCons (dOf (fVar 3)) aNil))))) (vOf (fComp 1 [6] (iSeq (dOf (fCall m_gaps (aCons (dOf (fVar 1)) (aCons (dOf (fVar 2)) (aCons (dOf (fVar 3)) aNil)))))) (gN 0) T1__law_levels E1__law_levels))))))
    (sSeq (sIf (tOf (fOpE (oEq false) (vOf (fOpE oMod (vOf (fOpE oDiv (vOf (fVar 7)) (fC (.int 7)))) (fC (.int 3)))) (fC (.int 1)))) (sSet 8 (eOf (dOf (fOpE oAdd (vOf (fVar 8)) (vOf (fLst (aCons (fTup (aCons (dOf (fOpE oIx (vOf (fVar 4)) (vOf (fOpE oMod (vOf (fOpE oDiv (vOf (fVar 7)) (fC (.int 21)))) (vOf (fBlt bLen (aCons (vOf (fVar 4)) aNil))))))) (aCons (dOf (fOpE oIx (vOf (fVar 4)) (vOf (fOpE oMod (vOf (fOpE oDiv (vOf (fVar 7)) (fC (.int 168)))) (vOf (fBlt bLen (aCons (vOf (fVar 4)) aNil))))))) aNil))) aNil))))))) sNil)
    (sSeq (sSet 9 (eOf (dOf (fCall m_groups (aCons (dOf (fVar 4)) (aCons (dOf (fVar 8)) aNil))))))
    (sSeq (sIf (tOf (fOpE (oEq false) (vOf (fOpE oMod (vOf (fOpE oDiv (vOf (fVar 7)) (fC (.int 5)))) (fC (.int 2)))) (fC (.int 1)))) (sSeq (sSet 9 (fComp 1 [] (iRv (aCons (dOf (fVar 9)) aNil)) (gN 0) tTrue E2__law_levels)) (sShare 9 sNil)) sNil)
    (sApp 5 (fTup (aCons (dOf (fVar 6)) (aCons (dOf (fVar 9)) aNil)))))))))
noncomputable def B__law_levels:FS:=(sSeq (sSet 4 (eOf (dOf (fCall m_stops (aCons (dOf (fVar 1)) (aCons (dOf (fVar 2)) (aCons (dOf (fVar 3)) aNil)))))))
    (sSeq (sSet 5 (fLst aNil))
    (sSeq (sSet 6 (eOf (fC (.int 0))))
    (sSeq (sFor (iSeq (dOf (fSl (vOf (fVar 0)) (pAt (fC (.int 57))) (pAt (vOf (fOpE oAdd (fC (.int 57)) (vOf (fOpE oIx (vOf (fLst (aCons (fC (.int 6)) (aCons (fC (.int 3)) (aCons (fC (.int 1)) (aCons (fC (.int 0)) (aCons (fC (.int 2)) (aCons (fC (.int 6)) aNil)))))))) (vOf (fOpE oMod (vOf (fOpE oDiv (vOf (fCall m__law_cell_at (aCons (dOf (fVar 0)) (aCons (fC (.int 0)) aNil)))) (fC (.int 4096)))) (fC (.int 6)))))))))))) (gN 7) L1__law_levels)
    (sRetV 5)))))
noncomputable def m__law_levels:List D→Option O:=mir 10 B__law_levels
abbrev s__law_levels:Stmt:=top 44
theorem S__law_levels:FnScope ["script", "home", "last", "boxes", "places", "rows", "t", "cell", "ties", "parts"] ["script", "home", "last", "boxes"] (defScope s__law_levels):=⟨rfl,rfl,rfl,by decide +kernel,rfl,by decide +kernel,by decide +kernel⟩
theorem ok__law_levels {f_stops:Addr} {d_stops:FuncData} {f__law_cell_at:Addr} {d__law_cell_at:FuncData} {f_knots:Addr} {d_knots:FuncData} {f_gaps:Addr} {d_gaps:FuncData} {f_groups:Addr} {d_groups:FuncData}
    (F:Fun K "_law_levels" "_law_levels" s__law_levels f fd)
    (c_stops:Cal P w K mg base 5 f_stops d_stops "stops" ["home", "last", "boxes"] 3 m_stops)
    (c__law_cell_at:Cal P w K mg base 1 f__law_cell_at d__law_cell_at "_law_cell_at" ["script", "k"] 2 m__law_cell_at)
    (c_knots:Cal P w K mg base 8 f_knots d_knots "knots" ["home", "last", "boxes"] 3 m_knots)
    (c_gaps:Cal P w K mg base 6 f_gaps d_gaps "gaps" ["home", "last", "boxes"] 3 m_gaps)
    (c_groups:Cal P w K mg base 2 f_groups d_groups "groups" ["things", "ties"] 2 m_groups)
    (z_len:mg "len" = none)
    (z_reversed:mg "reversed" = none)
    (z_list:mg "list" = none) :
    FnOk P w K mg base CX0 9 f fd ["script", "home", "last", "boxes"] (spD K 4 m__law_levels):=by
  have h:=fnD (P:=P) (w:=w) (mg:=mg) (base:=base) (k:=8) (body:=B__law_levels) F S__law_levels (fun cdv A outer s H E hr =>
      (xss_cons (xs_set (i:=4) S__law_levels.nd rfl (Or.inl rfl) (XD.toE (XE.toD (xc c_stops hr (xa_cons (vD 1) (xa_cons (vD 2) (xa_cons (vD 3) xa_nil)))))))
      (xss_cons (xs_set (i:=5) S__law_levels.nd rfl (Or.inl rfl) (xe_lst xa_nil))
      (xss_cons (xs_set (i:=6) S__law_levels.nd rfl (Or.inr rfl) (XD.toE xd_int))
      (xss_cons (xs_for PassesOwn.never rfl (xi_seq (XE.toD (xe_slice (vV 0) (xo_some (XD.toV xd_int)) (xo_some (XE.toV (xe_add (XD.toV xd_int) (XE.toV (xe_item (XE.toV (xe_lst (xa_cons xd_int (xa_cons xd_int (xa_cons xd_int (xa_cons xd_int (xa_cons xd_int (xa_cons xd_int xa_nil)))))))) (XE.toV (xe_mod (XE.toV (xe_fdiv (XE.toV (xc c__law_cell_at hr (xa_cons (vD 0) (xa_cons xd_int xa_nil)))) (XD.toV xd_int))) (XD.toV xd_int))))))))))) (xg_name (i:=7) S__law_levels.nd rfl (Or.inl rfl)) (xss_cons (xs_set (i:=6) S__law_levels.nd rfl (Or.inr rfl) (XD.toE (XE.toD (xe_add (XE.toV (xe_add (vV 6) (XD.toV xd_int))) (XE.toV (xe_mod (XE.toV (xe_fdiv (vV 7) (XD.toV xd_int))) (XE.toV (xe_item (XE.toV (xe_lst (xa_cons xd_int (xa_cons xd_int (xa_cons xd_int (xa_cons (XE.toD (xe_pow (XD.toV xd_int) (XD.toV xd_int))) xa_nil)))))) (XE.toV (xe_mod (vV 7) (XD.toV xd_int)))))))))))
      (xss_cons (xs_set (i:=8) S__law_levels.nd rfl (Or.inl rfl) (XD.toE (XE.toD (xe_add (XE.toV (xc c_knots hr (xa_cons (vD 1) (xa_cons (vD 2) (xa_cons (vD 3) xa_nil))))) (XE.toV (xe_comp rfl (blk ["gap"] ["t"] [6] rfl (by decide +kernel) (by decide +kernel) rfl ⟨⟨rfl,(by first|exact Or.inl rfl|exact Or.inr rfl),rfl⟩,trivial⟩) (xi_seq (XE.toD (xc c_gaps hr (xa_cons (vD 1) (xa_cons (vD 2) (xa_cons (vD 3) xa_nil)))))) (tame_n 0) (fun _ _ _ _=>⟨(xg_name (i:=0) (show ((["gap"]:List Str)++(["t"]:List Str):List Str).Nodup from by decide +kernel) rfl (Or.inl rfl)),(xts_one (xt_lt (XE.toV (xe_sub (XE.toV (xe_item (vV 0) (XD.toV xd_int))) (XE.toV (xe_item (vV 0) (XD.toV xd_int))))) (vV 1))),(vD 0)⟩)))))))
      (xss_cons (xs_if (xt_eq hr.units (XE.toV (xe_mod (XE.toV (xe_fdiv (vV 7) (XD.toV xd_int))) (XD.toV xd_int))) (XD.toV xd_int)) (xss_one (xs_set (i:=8) S__law_levels.nd rfl (Or.inl rfl) (XD.toE (XE.toD (xe_add (vV 8) (XE.toV (xe_lst (xa_cons (xd_tup (xa_cons (XE.toD (xe_item (vV 4) (XE.toV (xe_mod (XE.toV (xe_fdiv (vV 7) (XD.toV xd_int))) (XE.toV (xe_blt call_len_seq cd_len rfl z_len bt_len (xva_cons (vV 4) xva_nil))))))) (xa_cons (XE.toD (xe_item (vV 4) (XE.toV (xe_mod (XE.toV (xe_fdiv (vV 7) (XD.toV xd_int))) (XE.toV (xe_blt call_len_seq cd_len rfl z_len bt_len (xva_cons (vV 4) xva_nil))))))) xa_nil))) xa_nil)))))))) xss_nil)
      (xss_cons (xs_set (i:=9) S__law_levels.nd rfl (Or.inl rfl) (XD.toE (XE.toD (xc c_groups hr (xa_cons (vD 4) (xa_cons (vD 8) xa_nil))))))
      (xss_cons (xs_if (xt_eq hr.units (XE.toV (xe_mod (XE.toV (xe_fdiv (vV 7) (XD.toV xd_int))) (XD.toV xd_int))) (XD.toV xd_int)) (xss_cons (xs_setc (i:=9) rfl S__law_levels.nd rfl rfl (blk ["part"] [] [] rfl (by decide +kernel) (by decide +kernel) rfl trivial) (xi_rev rfl z_reversed (xa_cons (vD 9) xa_nil)) (tame_n 0) (fun _ _ _ _=>⟨(xg_name (i:=0) (show ((["part"]:List Str)++([]:List Str):List Str).Nodup from by decide +kernel) rfl (Or.inl rfl)),xts_nil,(XE.toD (xe_listrev rfl z_list rfl z_reversed (vV 0)))⟩)) (xss_share 9 xss_nil)) xss_nil)
      (xss_one (xs_app (pv 5) (xd_tup (xa_cons (vD 6) (xa_cons (vD 9) xa_nil)))))))))))
      (xss_one (xs_retv (pv 5))))))))
  exact h
noncomputable def B__law_gone:FS:=(sSeq (sIf (tOf (fOpE (oEq false) (vOf (fVar 0)) (vOf (fVar 1)))) (sRet (fLst aNil)) sNil)
    (sRet (fLst (aCons (fTup (aCons (fC (.str "go")) (aCons (dOf (fVar 0)) (aCons (dOf (fVar 1)) aNil)))) aNil))))
noncomputable def m__law_gone:List D→Option O:=mir 2 B__law_gone
abbrev s__law_gone:Stmt:=top 45
theorem S__law_gone:FnScope ["here", "there"] ["here", "there"] (defScope s__law_gone):=⟨rfl,rfl,rfl,by decide +kernel,rfl,by decide +kernel,by decide +kernel⟩
theorem ok__law_gone 
    (F:Fun K "_law_gone" "_law_gone" s__law_gone f fd) :
    FnOk P w K mg base CX0 1 f fd ["here", "there"] (spD K 2 m__law_gone):=by
  have h:=fnD (P:=P) (w:=w) (mg:=mg) (base:=base) (k:=0) (body:=B__law_gone) F S__law_gone (fun cdv A outer s H E hr =>
      (xss_cons (xs_if (xt_eq hr.units (vV 0) (vV 1)) (xss_one (xs_ret (xe_lst xa_nil))) xss_nil)
      (xss_one (xs_ret (xe_lst (xa_cons (xd_tup (xa_cons xd_str (xa_cons (vD 0) (xa_cons (vD 1) xa_nil)))) xa_nil))))))
  exact h
noncomputable def B__law_taken:FS:=(sRet (fOpE oAdd (vOf (fCall m__law_gone (aCons (dOf (fVar 1)) (aCons (dOf (fOpE oIx (vOf (fOpE oIx (vOf (fVar 0)) (vOf (fVar 2)))) (fC (.int 0)))) aNil)))) (vOf (fLst (aCons (fTup (aCons (fC (.str "box")) (aCons (dOf (fVar 2)) (aCons (dOf (fOpE oIx (vOf (fOpE oIx (vOf (fVar 0)) (vOf (fVar 2)))) (fC (.int 0)))) (aCons (dOf (fOpE oIx (vOf (fOpE oIx (vOf (fVar 0)) (vOf (fVar 2)))) (fC (.int 1)))) aNil))))) aNil)))))
noncomputable def m__law_taken:List D→Option O:=mir 3 B__law_taken
abbrev s__law_taken:Stmt:=top 46
theorem S__law_taken:FnScope ["boxes", "here", "k"] ["boxes", "here", "k"] (defScope s__law_taken):=⟨rfl,rfl,rfl,by decide +kernel,rfl,by decide +kernel,by decide +kernel⟩
theorem ok__law_taken {f__law_gone:Addr} {d__law_gone:FuncData}
    (F:Fun K "_law_taken" "_law_taken" s__law_taken f fd)
    (c__law_gone:Cal P w K mg base 1 f__law_gone d__law_gone "_law_gone" ["here", "there"] 2 m__law_gone) :
    FnOk P w K mg base CX0 2 f fd ["boxes", "here", "k"] (spD K 3 m__law_taken):=by
  have h:=fnD (P:=P) (w:=w) (mg:=mg) (base:=base) (k:=1) (body:=B__law_taken) F S__law_taken (fun cdv A outer s H E hr =>
      (xss_one (xs_ret (xe_add (XE.toV (xc c__law_gone hr (xa_cons (vD 1) (xa_cons (XE.toD (xe_item (XE.toV (xe_item (vV 0) (vV 2))) (XD.toV xd_int))) xa_nil)))) (XE.toV (xe_lst (xa_cons (xd_tup (xa_cons xd_str (xa_cons (vD 2) (xa_cons (XE.toD (xe_item (XE.toV (xe_item (vV 0) (vV 2))) (XD.toV xd_int))) (xa_cons (XE.toD (xe_item (XE.toV (xe_item (vV 0) (vV 2))) (XD.toV xd_int))) xa_nil))))) xa_nil)))))))
  exact h
noncomputable def L1__law_drawn:FS:=(sSeq (sSet 8 (eOf (dOf (fVar 5))))
    (sSeq (sIf (tAndF (tOf (fOpE (oEq false) (vOf (fOpE oMod (vOf (fVar 7)) (fC (.int 2)))) (fC (.int 0)))) (tOf (fOpE (oEq true) (vOf (fVar 6)) (vOf (fLst aNil))))) (sSeq (sSetM 9 (mPop 6 (dOf (fOpE oMod (vOf (fOpE oDiv (vOf (fVar 7)) (fC (.int 2)))) (vOf (fBlt bLen (aCons (vOf (fVar 6)) aNil)))))))
    (sSeq (sSet 4 (eOf (dOf (fOpE oAdd (vOf (fVar 4)) (vOf (fCall m__law_taken (aCons (dOf (fVar 2)) (aCons (dOf (fVar 5)) (aCons (dOf (fVar 9)) aNil)))))))))
    (sSeq (sSet 5 (eOf (dOf (fOpE oIx (vOf (fOpE oIx (vOf (fVar 2)) (vOf (fVar 9)))) (fC (.int 1))))))
    (sSet 8 (eOf (dOf (fVar 5))))))) (sIf (tAndF (tOf (fOpE (oEq false) (vOf (fOpE oMod (vOf (fVar 7)) (fC (.int 4)))) (fC (.int 1)))) (tOf (fOpE (oEq true) (vOf (fVar 2)) (vOf (fLst aNil))))) (sSet 8 (eOf (dOf (fOpE oIx (vOf (fOpE oIx (vOf (fVar 2)) (vOf (fOpE oMod (vOf (fOpE oDiv (vOf (fVar 7)) (fC (.int 8)))) (vOf (fBlt bLen (aCons (vOf (fVar 2)) aNil))))))) (vOf (fOpE oMod (vOf (fOpE oDiv (vOf (fVar 7)) (fC (.int 4)))) (fC (.int 2)))))))) (sIf (tOf (fOpE (oEq false) (vOf (fOpE oMod (vOf (fVar 7)) (fC (.int 4)))) (fC (.int 3)))) (sSet 8 (eOf (dOf (fCall m__law_place (aCons (dOf (fOpE oDiv (vOf (fVar 7)) (fC (.int 4)))) aNil))))) sNil)))
    (sSeq (sSet 4 (eOf (dOf (fOpE oAdd (vOf (fVar 4)) (vOf (fCall m__law_gone (aCons (dOf (fVar 5)) (aCons (dOf (fVar 8)) aNil))))))))
    (sSet 5 (eOf (dOf (fVar 8)))))))
noncomputable def L2__law_drawn:FS:=(sSeq (sSet 4 (eOf (dOf (fOpE oAdd (vOf (fVar 4)) (vOf (fCall m__law_taken (aCons (dOf (fVar 2)) (aCons (dOf (fVar 5)) (aCons (dOf (fVar 9)) aNil)))))))))
    (sSet 5 (eOf (dOf (fOpE oIx (vOf (fOpE oIx (vOf (fVar 2)) (vOf (fVar 9)))) (fC (.int 1)))))))
noncomputable def B__law_drawn:FS:=(sSeq (sSet 4 (eOf (dOf (fLst aNil))))
    (sSeq (sSet 5 (eOf (dOf (fVar 0))))
    (sSeq (sSet 6 (fBlt bRng1 (aCons (vOf (fBlt bLen (aCons (vOf (fVar 2)) aNil))) aNil)))
    (sSeq (sFor (iSeq (dOf (fVar 3))) (gN 7) L1__law_drawn)
    (sShare 6 (sSeq (sFor (iSeq (dOf (fVar 6))) (gN 9) L2__law_drawn)
    (sRet (fOpE oAdd (vOf (fVar 4)) (vOf (fCall m__law_gone (aCons (dOf (fVar 5)) (aCons (dOf (fVar 1)) aNil))))))))))))
noncomputable def m__law_drawn:List D→Option O:=mir 10 B__law_drawn
abbrev s__law_drawn:Stmt:=top 47
theorem S__law_drawn:FnScope ["home", "last", "boxes", "cells", "moves", "here", "left", "cell", "there", "k"] ["home", "last", "boxes", "cells"] (defScope s__law_drawn):=⟨rfl,rfl,rfl,by decide +kernel,rfl,by decide +kernel,by decide +kernel⟩
theorem ok__law_drawn {f__law_taken:Addr} {d__law_taken:FuncData} {f__law_place:Addr} {d__law_place:FuncData} {f__law_gone:Addr} {d__law_gone:FuncData}
    (F:Fun K "_law_drawn" "_law_drawn" s__law_drawn f fd)
    (c__law_taken:Cal P w K mg base 2 f__law_taken d__law_taken "_law_taken" ["boxes", "here", "k"] 3 m__law_taken)
    (c__law_place:Cal P w K mg base 1 f__law_place d__law_place "_law_place" ["cell"] 1 m__law_place)
    (c__law_gone:Cal P w K mg base 1 f__law_gone d__law_gone "_law_gone" ["here", "there"] 2 m__law_gone)
    (z_len:mg "len" = none)
    (z_list:mg "list" = none)
    (z_range:mg "range" = none) :
    FnOk P w K mg base CX0 3 f fd ["home", "last", "boxes", "cells"] (spD K 4 m__law_drawn):=by
  have h:=fnD (P:=P) (w:=w) (mg:=mg) (base:=base) (k:=2) (body:=B__law_drawn) F S__law_drawn (fun cdv A outer s H E hr =>
      (xss_cons (xs_set (i:=4) S__law_drawn.nd rfl (Or.inl rfl) (XD.toE (XE.toD (xe_lst xa_nil))))
      (xss_cons (xs_set (i:=5) S__law_drawn.nd rfl (Or.inl rfl) (XD.toE (vD 0)))
      (xss_cons (xs_set (i:=6) S__law_drawn.nd rfl (Or.inl rfl) (xe_listrng1 rfl z_list rfl z_range (xva_cons (XE.toV (xe_blt call_len_seq cd_len rfl z_len bt_len (xva_cons (vV 2) xva_nil))) xva_nil)))
      (xss_cons (xs_for PassesOwn.never rfl (xi_seq (vD 3)) (xg_name (i:=7) S__law_drawn.nd rfl (Or.inl rfl)) (xss_cons (xs_set (i:=8) S__law_drawn.nd rfl (Or.inl rfl) (XD.toE (vD 5)))
      (xss_cons (xs_if (XW.toT (xw_and (xt_eq hr.units (XE.toV (xe_mod (vV 7) (XD.toV xd_int))) (XD.toV xd_int)) (xw_and1 (xt_ne hr.units (vV 6) (XE.toV (xe_lst xa_nil)))))) (xss_cons (xs_setM (i:=9) S__law_drawn.nd rfl (Or.inl rfl) (xm_pop (pv 6) (XE.toD (xe_mod (XE.toV (xe_fdiv (vV 7) (XD.toV xd_int))) (XE.toV (xe_blt call_len_seq cd_len rfl z_len bt_len (xva_cons (vV 6) xva_nil)))))))
      (xss_cons (xs_set (i:=4) S__law_drawn.nd rfl (Or.inl rfl) (XD.toE (XE.toD (xe_add (vV 4) (XE.toV (xc c__law_taken hr (xa_cons (vD 2) (xa_cons (vD 5) (xa_cons (vD 9) xa_nil)))))))))
      (xss_cons (xs_set (i:=5) S__law_drawn.nd rfl (Or.inl rfl) (XD.toE (XE.toD (xe_item (XE.toV (xe_item (vV 2) (vV 9))) (XD.toV xd_int)))))
      (xss_one (xs_set (i:=8) S__law_drawn.nd rfl (Or.inl rfl) (XD.toE (vD 5))))))) (xss_one (xs_if (XW.toT (xw_and (xt_eq hr.units (XE.toV (xe_mod (vV 7) (XD.toV xd_int))) (XD.toV xd_int)) (xw_and1 (xt_ne hr.units (vV 2) (XE.toV (xe_lst xa_nil)))))) (xss_one (xs_set (i:=8) S__law_drawn.nd rfl (Or.inl rfl) (XD.toE (XE.toD (xe_item (XE.toV (xe_item (vV 2) (XE.toV (xe_mod (XE.toV (xe_fdiv (vV 7) (XD.toV xd_int))) (XE.toV (xe_blt call_len_seq cd_len rfl z_len bt_len (xva_cons (vV 2) xva_nil))))))) (XE.toV (xe_mod (XE.toV (xe_fdiv (vV 7) (XD.toV xd_int))) (XD.toV xd_int)))))))) (xss_one (xs_if (xt_eq hr.units (XE.toV (xe_mod (vV 7) (XD.toV xd_int))) (XD.toV xd_int)) (xss_one (xs_set (i:=8) S__law_drawn.nd rfl (Or.inl rfl) (XD.toE (XE.toD (xc c__law_place hr (xa_cons (XE.toD (xe_fdiv (vV 7) (XD.toV xd_int))) xa_nil)))))) xss_nil)))))
      (xss_cons (xs_set (i:=4) S__law_drawn.nd rfl (Or.inl rfl) (XD.toE (XE.toD (xe_add (vV 4) (XE.toV (xc c__law_gone hr (xa_cons (vD 5) (xa_cons (vD 8) xa_nil))))))))
      (xss_one (xs_set (i:=5) S__law_drawn.nd rfl (Or.inl rfl) (XD.toE (vD 8))))))))
      (xss_share 6 (xss_cons (xs_for PassesOwn.never rfl (xi_seq (vD 6)) (xg_name (i:=9) S__law_drawn.nd rfl (Or.inl rfl)) (xss_cons (xs_set (i:=4) S__law_drawn.nd rfl (Or.inl rfl) (XD.toE (XE.toD (xe_add (vV 4) (XE.toV (xc c__law_taken hr (xa_cons (vD 2) (xa_cons (vD 5) (xa_cons (vD 9) xa_nil)))))))))
      (xss_one (xs_set (i:=5) S__law_drawn.nd rfl (Or.inl rfl) (XD.toE (XE.toD (xe_item (XE.toV (xe_item (vV 2) (vV 9))) (XD.toV xd_int))))))))
      (xss_one (xs_ret (xe_add (vV 4) (XE.toV (xc c__law_gone hr (xa_cons (vD 5) (xa_cons (vD 1) xa_nil))))))))))))))
  exact h
noncomputable def E1_law:FD:=(dOf (fBlt bAbs (aCons (vOf (fOpE oSub (vOf (fOpE oIx (vOf (fVar 0)) (vOf (fNeg (fC (.int 1)))))) (vOf (fOpE oIx (vOf (fVar 0)) (vOf (fNeg (fC (.int 2)))))))) aNil)))
noncomputable def B_law:FS:=(sSeq (sAsg (dOf (fCall m__law_errand (aCons (dOf (fVar 0)) (aCons (fC (.int 10)) aNil)))) (gT 3 (gsCons (gN 1) (gsCons (gN 2) (gsCons (gN 3) gsNil)))))
    (sSeq (sSet 4 (eOf (dOf (fCall m__law_levels (aCons (dOf (fVar 0)) (aCons (dOf (fVar 1)) (aCons (dOf (fVar 2)) (aCons (dOf (fVar 3)) aNil))))))))
    (sSeq (sSet 5 (eOf (dOf (fCall m_weight (aCons (dOf (fVar 1)) (aCons (dOf (fVar 2)) (aCons (dOf (fVar 3)) (aCons (fTup (aCons (dOf (fCall m__law_counts (aCons (dOf (fVar 1)) (aCons (dOf (fVar 2)) (aCons (dOf (fVar 3)) aNil))))) (aCons (dOf (fVar 4)) aNil))) aNil))))))))
    (sRet (fOpE oLe (vOf (fVar 5)) (vOf (fBlt bSum (aCons (vOf (fComp 1 [] (iSeq (dOf (fCall m__law_drawn (aCons (dOf (fVar 1)) (aCons (dOf (fVar 2)) (aCons (dOf (fVar 3)) (aCons (dOf (fSl (vOf (fVar 0)) (pAt (fC (.int 23))) (pAt (fC (.int 57))))) aNil))))))) (gN 0) tTrue E1_law)) aNil))))))))
noncomputable def m_law:List D→Option O:=mir 6 B_law
abbrev s_law:Stmt:=top 48
theorem S_law:FnScope ["script", "home", "last", "boxes", "rows", "found"] ["script"] (defScope s_law):=⟨rfl,rfl,rfl,by decide +kernel,rfl,by decide +kernel,by decide +kernel⟩
theorem ok_law {f__law_errand:Addr} {d__law_errand:FuncData} {f__law_levels:Addr} {d__law_levels:FuncData} {f_weight:Addr} {d_weight:FuncData} {f__law_counts:Addr} {d__law_counts:FuncData} {f__law_drawn:Addr} {d__law_drawn:FuncData}
    (F:Fun K "law" "law" s_law f fd)
    (c__law_errand:Cal P w K mg base 2 f__law_errand d__law_errand "_law_errand" ["script", "most"] 2 m__law_errand)
    (c__law_levels:Cal P w K mg base 9 f__law_levels d__law_levels "_law_levels" ["script", "home", "last", "boxes"] 4 m__law_levels)
    (c_weight:Cal P w K mg base 11 f_weight d_weight "weight" ["home", "last", "boxes", "thing"] 4 m_weight)
    (c__law_counts:Cal P w K mg base 7 f__law_counts d__law_counts "_law_counts" ["home", "last", "boxes"] 3 m__law_counts)
    (c__law_drawn:Cal P w K mg base 3 f__law_drawn d__law_drawn "_law_drawn" ["home", "last", "boxes", "cells"] 4 m__law_drawn)
    (z_abs:mg "abs" = none)
    (z_sum:mg "sum" = none) :
    FnOk P w K mg base CX0 12 f fd ["script"] (spD K 1 m_law):=by
  have h:=fnD (P:=P) (w:=w) (mg:=mg) (base:=base) (k:=11) (body:=B_law) F S_law (fun cdv A outer s H E hr =>
      (xss_cons (xs_asg (XE.toD (xc c__law_errand hr (xa_cons (vD 0) (xa_cons xd_int xa_nil)))) (xg_tup rfl (xgs_cons (xg_name (i:=1) S_law.nd rfl (Or.inl rfl)) (xgs_cons (xg_name (i:=2) S_law.nd rfl (Or.inl rfl)) (xgs_cons (xg_name (i:=3) S_law.nd rfl (Or.inl rfl)) xgs_nil)))))
      (xss_cons (xs_set (i:=4) S_law.nd rfl (Or.inl rfl) (XD.toE (XE.toD (xc c__law_levels hr (xa_cons (vD 0) (xa_cons (vD 1) (xa_cons (vD 2) (xa_cons (vD 3) xa_nil))))))))
      (xss_cons (xs_set (i:=5) S_law.nd rfl (Or.inl rfl) (XD.toE (XE.toD (xc c_weight hr (xa_cons (vD 1) (xa_cons (vD 2) (xa_cons (vD 3) (xa_cons (xd_tup (xa_cons (XE.toD (xc c__law_counts hr (xa_cons (vD 1) (xa_cons (vD 2) (xa_cons (vD 3) xa_nil))))) (xa_cons (vD 4) xa_nil))) xa_nil))))))))
      (xss_one (xs_ret (xe_le (vV 5) (XE.toV (xe_blt (call_sumL rfl) cd_sum rfl z_sum bt_sum (xva_cons (XE.toV (xe_comp rfl (blk ["move"] [] [] rfl (by decide +kernel) (by decide +kernel) rfl trivial) (xi_seq (XE.toD (xc c__law_drawn hr (xa_cons (vD 1) (xa_cons (vD 2) (xa_cons (vD 3) (xa_cons (XE.toD (xe_slice (vV 0) (xo_some (XD.toV xd_int)) (xo_some (XD.toV xd_int)))) xa_nil))))))) (tame_n 0) (fun _ _ _ _=>⟨(xg_name (i:=0) (show ((["move"]:List Str)++([]:List Str):List Str).Nodup from by decide +kernel) rfl (Or.inl rfl)),xts_nil,(XE.toD (xe_blt call_abs cd_abs rfl z_abs bt_abs (xva_cons (XE.toV (xe_sub (XE.toV (xe_item (vV 0) (XE.toV (xe_neg (XD.toV xd_int))))) (XE.toV (xe_item (vV 0) (XE.toV (xe_neg (XD.toV xd_int))))))) xva_nil)))⟩))) xva_nil))))))))))
  exact h
end
set_option compiler.extract_closed false
set_option hygiene false
local macro_rules|`(tactic| simp_arith $c:optConfig [$xs,*])=>`(tactic| simp $c only [e_wdrop,e_wd,e_wzip,e_wz,e_wpop,e_wsort,e_dnew,e_dnew1,e_dn1,e_dset,e_dget,e_dgr,e_dco,e_dcs,e_dhas,e_dhn,e_dsort,e_dpop0,e_dsh,e_aug,e_augi,e_irv,e_irl,e_ien,e_enl,e_mir,e_om_rt,e_om_nx,e_seq,e_bs_nx,e_bs_rt,e_nil,e_set,e_ss_sh,e_ss_fr,e_if,e_if_t,e_if_f,e_ret,e_rs_sh,e_rs_fr,e_retv,e_rv_ow,e_app,e_as,e_ext,e_es_t,e_es_l,e_share,e_sh_ow,e_for,e_fs,e_asg,e_ag,e_gn,e_gt,e_gc,e_g0,e_var,e_vr_sh,e_vr_ow,e_c,e_e,e_ed,e_d,e_dr_sh,e_dr_fr,e_v,e_vv_sh,e_vv_fr,e_vv_vw,e_op,e_o2,e_call,e_cl,e_or_sh,e_or_fr,e_ac,e_ca,e_an,e_lst,e_tup,e_blt,e_bl,e_slc,e_sl,e_po,e_pa,e_ap,e_isi,e_isi_lst,e_isi_tup,e_t,e_tr,e_tand,e_ta,e_ta2,e_tor,e_to,e_to2,e_tnot,e_tn,e_ttru,e_tt_bl,e_tt_lst,e_vand,e_va,e_va2,e_iseq,e_is_l,e_is_t,e_rg1,e_comp,e_cp,e_neg,e_ng,e_len_l,e_len_t,e_len_s,e_list_l,e_st_nx,oEq_ii,oNe_ii,oSub_ii,oLt_ii,oLe_ii,oGt_ii,oAdd_ii,oIx_l,oIx_t,oIx_s,at0,at1,at2,oMod_ii,oDiv_ii,subT,entry,Option.bind_some,Option.map_some,List.length_cons,List.length_nil,List.length_map,List.map_cons,List.map_nil,List.cons_append,List.nil_append,List.replicate_succ,List.replicate_zero,List.set_cons_succ,List.set_cons_zero,List.getElem?_cons_succ,List.getElem?_cons_zero,Nat.reduceSub,Nat.reduceAdd,Nat.reduceLT,Int.reduceLT,Int.reduceLE,Int.reduceSub,Int.reduceAdd,Int.reduceMul,Int.reduceMod,Int.reduceDiv,Int.reduceNeg,Int.reducePow,Int.reduceBEq,Int.reduceToNat,↓reduceIte,Bool.not_true,Bool.true_and,Bool.false_and,Bool.and_true,Bool.and_false,Bool.true_or,Bool.false_or,Bool.or_true,Bool.or_false,Bool.not_false,Nat.zero_add,beq_self_eq_true,Bool.false_eq_true,$xs,*])
set_option compiler.extract_closed true
set_option hygiene true
noncomputable def boxD (p:Int×Int):D:=.tup [.int p.1,.int p.2]
theorem cell_at {ns:List Int} {k:Int} (h:0≤k):m__law_cell_at [.scr ns,.int k]=some (.sh (.int (ns.getD k.toNat 0))):=by
  unfold m__law_cell_at B__law_cell_at
  by_cases hk:k < ns.length
  · simp_arith [hk,decide_true,atI_nn h hk]
    simp [List.getD_eq_getElem?_getD,List.getElem?_eq_getElem (show k.toNat < ns.length by omega)]
  · simp_arith [hk,decide_false]
    simp [List.getD_eq_getElem?_getD,List.getElem?_eq_none (show ns.length≤k.toNat by omega)]
noncomputable def place (c:Int):Int:=if c % 3=0 then c / 3 % 19 - 9 else if c % 3=1 then c / 3 % 2001 - 1000 else c / 3 % (2*10 ^ 39+1) - 10 ^ 39
theorem place_at {c:Int}:m__law_place [.int c]=some (.sh (.int (place c))):=by
  unfold m__law_place B__law_place
  have h8:oPow (.int 10) (.int 39)=some (.sh (.int (10 ^ 39))):=rfl
  have h9:∀ x,oMul (.int 2) (.int x)=some (.sh (.int (2*x))):=fun x=>oMulL_ii (by decide) (by decide)
  unfold place
  by_cases a:c % 3=0
  · simp_arith [h8,h9,a]
  · by_cases b:c % 3=1
    · simp_arith [h8,h9,b]
      rfl
    · have a':(c % 3 == 0)=false:=by simpa using a
      have b':(c % 3 == 1)=false:=by simpa using b
      simp_arith [h8,h9,a',b',a,b]
theorem at_ints {xs:List Int} {i:Int} (h0:0≤i) (h1:i < xs.length):∃ y,atI (xs.map D.int) i=some (.int y):=by
  rw [atI_nn h0 (by rw [List.length_map];exact h1)]
  exact ⟨_,by rw [List.getElem_map]⟩
theorem mod_at {xs:List Int} {c m:Int} (hm:0 < m) (h1:(xs.length:Int)=m):∃ y,atI (xs.map D.int) (c % m)=some (.int y) :=
  at_ints (Int.emod_nonneg _ (by omega)) (by rw [h1];exact Int.emod_lt_of_pos _ hm)
theorem at_all {ds:List D} {i:Int} (P:D→Prop) (h0:0≤i) (h1:i < ds.length) (h:∀ d∈ds,P d):∃ d,atI ds i=some d∧P d :=
  ⟨_,atI_nn h0 h1,h _ (List.getElem_mem _)⟩
theorem errand {ns:List Int} {most:Int} (h0:0≤most) (h1:most≤1000):∃ (home last:Int) (bs:List (Int×Int)),m__law_errand [.scr ns,.int most]=some (.sh (.tup [.int home,.int last,.lst (bs.map boxD)]))∧(bs.length:Int)≤most:=by
  obtain ⟨head,hh⟩:∃ h,ns.getD 0 0*48271 % 65537=h:=⟨_,rfl⟩
  obtain ⟨many,hm⟩:∃ h,8 - head % 8=h:=⟨_,rfl⟩
  have hm0:0 < many:=by omega
  have hm8:many≤8:=by omega
  have hmul:∀ x:Int,oMul (.int x) (.int 48271)=some (.sh (.int (x*48271))):=fun x=>oMulR_ii (by decide) (by decide)
  have hdm:∀ x:Int,oDiv (.int x) (.int many)=some (.sh (.int (x / many))):=fun x=>oDiv_ii hm0 (by omega)
  have hmm:∀ x:Int,oMod (.int x) (.int many)=some (.sh (.int (x % many))):=fun x=>oMod_ii hm0
  have hr:rg1I (some [.int many])=some (upTo 0 many.toNat):=r1_ok ⟨by omega,by omega⟩
  have hl:(upTo 0 many.toNat).length≤1000000:=by rw [upTo_len];omega
  unfold m__law_errand B__law_errand
  have hc0:=cell_at (ns:=ns) (k:=0) (by decide)
  simp_arith [hc0,hmul,hh,hm,hdm,hmm,hr,e_cp hl,inW,shOf]
  rw [compD_map (onI fun k=>place (ns.getD (1+k).toNat 0))]
  case h =>
    intro d hd
    obtain ⟨i,hi,rfl⟩:=upTo_mem hd
    unfold E1__law_errand
    simp_arith [cell_at (ns:=ns) (k:=1+(0+(i:Int))) (by omega),place_at,onI]
  rw [upTo_map (fun k=>place (ns.getD (1+k).toNat 0))]
  generalize hsp:(List.map (fun i:Nat=>place (ns.getD (1+(0+(i:Int))).toNat 0)) (List.range many.toNat))=spots
  have hsl:(spots.length:Int)=many:=by rw [←hsp,List.length_map,List.length_range];omega
  simp_arith [e_seq]
  have h8:0≤head / 512 % 8∧head / 512 % 8 < 8:=by omega
  obtain ⟨top,ht,_⟩:=at_all (ds:=[.int most,.int 3,.int 1,.int 5,.int 0,.int 2,.int most,.int 4]) (i:=head / 512 % 8) (fun d=>∃ k,d=D.int k) h8.1 h8.2 (by
    intro d hd
    simp only [List.mem_cons,List.not_mem_nil,or_false] at hd
    rcases hd with rfl|rfl|rfl|rfl|rfl|rfl|rfl|rfl <;> exact ⟨_,rfl⟩)
  obtain ⟨k,rfl⟩:=‹∃ k,top=D.int k›
  simp_arith [ht,oSl]
  generalize cutD ns (some 9) (some (9+k))=cells
  obtain ⟨ω',e,bs,x6,x7,x8,rfl,hb⟩:=forD_inv (g:=gN 6) (b:=L1__law_errand) (cells.map D.int)
    (fun pre ω=>∃ (bs:List (Int×Int)) (x6 x7 x8:Option W),ω=[some (.sh (.scr ns)),some (.sh (.int most)),some (.sh (.int head)),some (.sh (.int many)),some (.sh (.lst (spots.map D.int))),some (.ow (bs.map boxD)),x6,x7,x8,none]∧(bs.length:Int)≤most)
    (fun pre d post ω hd ⟨bs,x6,x7,x8,hω,hb⟩=>by
      obtain ⟨c,hc,rfl⟩:∃ c,c∈cells∧D.int c=d:=by
        have:d∈cells.map D.int:=by rw [hd];simp
        obtain ⟨c,h1,h2⟩:=List.mem_map.mp this
        exact ⟨c,h1,h2⟩
      subst hω
      refine ⟨_,rfl,?_⟩
      obtain ⟨one,h1⟩:=mod_at (c:=c) hm0 hsl
      obtain ⟨other,h2⟩:=mod_at (c:=c / many) hm0 hsl
      unfold L1__law_errand
      have hlen:(bs.map boxD).length < 1000000:=by rw [List.length_map];omega
      simp_arith [hdm,hmm,h1,h2,List.length_map,e_as hlen]
      by_cases hc1:(bs.length:Int) < most
      · simp_arith [hc1,decide_true,e_as hlen,List.length_append,List.length_map]
        have hlen2:(bs.map boxD++[D.tup [D.int one,D.int other]]).length < 1000000:=by rw [List.length_append,List.length_map,List.length_singleton];omega
        have e1:bs.map boxD++[D.tup [D.int one,D.int other]]=(bs++[(one,other)]).map boxD:=by rw [List.map_append];rfl
        generalize hq:(decide (((bs.length+1:Nat):Int) < most) && _)=q
        cases q with
        | true =>
          have:=(Bool.and_eq_true_iff.mp hq).1
          have:=of_decide_eq_true this
          simp_arith [e_as hlen2]
          refine ⟨bs++[(one,other)]++[(other,one)],_,_,_,by rw [List.map_append,←e1];rfl,?_⟩
          rw [List.length_append,List.length_append,List.length_singleton,List.length_singleton];omega
        | false =>
          simp_arith [e_seq]
          refine ⟨bs++[(one,other)],_,_,_,by rw [←e1],?_⟩
          rw [List.length_append,List.length_singleton];omega
      · simp_arith [hc1,decide_false,Bool.false_and]
        exact ⟨bs,_,_,_,rfl,hb⟩)
    ⟨[],none,none,none,rfl,by simpa using h0⟩
  obtain ⟨home,g1⟩:=mod_at (c:=head / 8) hm0 hsl
  obtain ⟨last,g2⟩:=mod_at (c:=head / 64) hm0 hsl
  simp only [List.map_nil] at e
  simp_arith [e,hdm,hmm,g1,g2]
  by_cases hq:head / 12288 % 2=0
  · simp_arith [hq]
    exact ⟨home,home,bs,rfl,hb⟩
  · have hq':(head / 12288 % 2 == 0)=false:=by simpa using hq
    simp_arith [hq',hmm,hdm,g2]
    exact ⟨home,last,bs,rfl,hb⟩
inductive Rch (es:List (Int×Int)) (a:Int):Int→Prop where
  | refl:Rch es a a
  | step {b c:Int}:Rch es a b→((b,c)∈es∨(c,b)∈es)→Rch es a c
theorem Rch.trans {es:List (Int×Int)} {a b c:Int} (h:Rch es a b) (h':Rch es b c):Rch es a c:=by
  induction h' with
  | refl=>exact h
  | step _ e ih=>exact ih.step e
theorem Rch.symm {es:List (Int×Int)} {a b:Int} (h:Rch es a b):Rch es b a:=by
  induction h with
  | refl=>exact .refl
  | step _ e ih=>exact (Rch.refl.step e.symm).trans ih
theorem Rch.inv {es:List (Int×Int)} {a:Int} (P:Int→Prop) (h0:P a) (hs:∀ b c,P b→((b,c)∈es∨(c,b)∈es)→P c) {c:Int} (h:Rch es a c):P c:=by
  induction h with
  | refl=>exact h0
  | step _ e ih=>exact hs _ _ ih e
theorem valD_map {α β:Type} (f:α→β):∀ (ks:List Int) (xs:List α) (k:Int),valD ks (xs.map f) k=(valD ks xs k).map f
  | [],_,_=>rfl
  | _::_,[],_=>rfl
  | k'::ks,x::xs,k=>by
    show (if k'=k then some (f x) else valD ks (xs.map f) k)=(if k'=k then some x else valD ks xs k).map f
    by_cases z:k'=k
    · rw [if_pos z,if_pos z];rfl
    · rw [if_neg z,if_neg z,valD_map f ks xs k]
theorem valD_some {α:Type}:∀ {ks:List Int} {xs:List α} {k:Int},ks.length=xs.length→(valD ks xs k).isSome=decide (k∈ks)
  | [],[],_,_=>rfl
  | [],_::_,_,h=>by simp at h
  | _::_,[],_,h=>by simp at h
  | k'::ks,x::xs,k,h=>by
    show (if k'=k then some x else valD ks xs k).isSome=_
    by_cases z:k'=k
    · rw [if_pos z];simp [z]
    · have z':¬k=k':=fun y=>z y.symm
      rw [if_neg z,valD_some (by simpa using h)]
      simp [z']
theorem val_appA:∀ (ks:List Int) (xss:List (List Int)) (a' b a:Int),valD ks (appA ks xss a' b) a=(valD ks xss a).map fun xs=>if a=a' then xs++[b] else xs
  | [],_,_,_,_=>rfl
  | _::_,[],_,_,_=>rfl
  | k::ks,x::xss,a',b,a=>by
    unfold appA
    by_cases z:k=a'
    · rw [if_pos z]
      show (if k=a then some (x++[b]) else valD ks xss a)=(if k=a then some x else valD ks xss a).map _
      by_cases y:k=a
      · rw [if_pos y,if_pos y,Option.map_some,if_pos (y▸z)]
      · rw [if_neg y,if_neg y]
        have:¬a=a':=fun e=>y (z.trans e.symm)
        cases valD ks xss a with
        | none=>rfl
        | some v=>rw [Option.map_some,if_neg this]
    · rw [if_neg z]
      show (if k=a then some x else valD ks (appA ks xss a' b) a)=(if k=a then some x else valD ks xss a).map _
      by_cases y:k=a
      · have:¬a=a':=fun e=>z (y.trans e)
        rw [if_pos y,if_pos y,Option.map_some,if_neg this]
      · rw [if_neg y,if_neg y];exact val_appA ks xss a' b a
theorem nbT_val (ts:List Int) (a:Int) (ha:a∈ts):∀ (es:List (Int×Int)),∃ xs,valD ts (nbT ts es) a=some xs∧∀ c,c∈xs↔((a,c)∈es∨(c,a)∈es):=by
  intro es
  have key:∀ (post pre:List (Int×Int)) (T:List (List Int)) (xs:List Int),valD ts T a=some xs→(∀ c,c∈xs↔((a,c)∈pre∨(c,a)∈pre))→∃ xs',valD ts (post.foldl (nbStep ts) T) a=some xs'∧∀ c,c∈xs'↔((a,c)∈pre++post∨(c,a)∈pre++post):=by
    intro post
    induction post with
    | nil=>intro pre T xs h1 h2;exact ⟨xs,h1,by rw [List.append_nil];exact h2⟩
    | cons e post ih =>
      intro pre T xs h1 h2
      have h3:valD ts (nbStep ts T e) a=some (let ys:=if a=e.1 then xs++[e.2] else xs;if a=e.2 then ys++[e.1] else ys):=by
        unfold nbStep
        rw [val_appA,val_appA,h1];rfl
      obtain ⟨xs',g1,g2⟩:=ih (pre++[e]) (nbStep ts T e) _ h3 (fun c=>by
        obtain ⟨e1,e2⟩:=e
        have m:∀ x y:Int,(x,y)∈pre++[(e1,e2)]↔(x,y)∈pre∨(x=e1∧y=e2):=fun x y=>by simp
        rw [m,m]
        by_cases y1:a=e1 <;> by_cases y2:a=e2 <;> simp [y1,y2,h2] <;> (try subst y1) <;> (try subst y2) <;> simp_all <;> grind)
      refine ⟨xs',g1,fun c=>?_⟩
      rw [g2,List.append_assoc];rfl
  have h0:valD ts (ts.map fun _=>([]:List Int)) a=some []:=by
    have:(valD ts (ts.map fun _=>([]:List Int)) a).isSome=true:=by rw [valD_some (by rw [List.length_map]),decide_eq_true ha]
    obtain ⟨x,hx⟩:=Option.isSome_iff_exists.mp this
    rw [valD_map] at hx ⊢
    obtain ⟨y,hy,e⟩:=Option.map_eq_some_iff.mp hx
    rw [hy];rfl
  obtain ⟨xs',g1,g2⟩:=key es [] _ [] h0 (by simp)
  exact ⟨xs',g1,by simpa using g2⟩
structure Ok (ts:List Int) (es:List (Int×Int)):Prop where
  nd:ts.Nodup
  inn:∀ e∈es,e.1∈ts∧e.2∈ts
  l1:ts.length < 64
  l2:es.length≤1000
noncomputable def nbD (ts:List Int) (es:List (Int×Int)):List D:=(nbT ts es).map fun xs=>.lst (xs.map D.int)
theorem neighbours_at {ts:List Int} {es:List (Int×Int)} (h:Ok ts es):m_neighbours [.lst (ts.map D.int),.lst (es.map pairD2)]=some (.sh (.dic ts (nbD ts es))):=by
  have hl:=h.l1
  have e:nbM (ts.map D.int) (es.map pairD2)=some (.dic ts (nbD ts es)):=by
    unfold nbM
    rw [intsOf_map,pairsOf_map]
    exact if_pos ⟨h.nd,h.inn,by omega,h.l2⟩
  show outM ((nbM (ts.map D.int) (es.map pairD2)).map _)=_
  rw [e];rfl
theorem Rch.mem {ts:List Int} {es:List (Int×Int)} (h:Ok ts es) {a c:Int} (ha:a∈ts) (r:Rch es a c):c∈ts :=
  r.inv (fun x=>x∈ts) ha fun b c _ e=>by
    rcases e with e|e
    · exact (h.inn _ e).2
    · exact (h.inn _ e).1
noncomputable def trues (F:List Int):List D:=F.map fun _=>.bl true
theorem trues_len (F:List Int):F.length=(trues F).length:=by unfold trues;rw [List.length_map]
theorem put_new {F:List Int} {c:Int} (h:c∉F):putKs F c=F++[c]∧putA F (trues F) c (.bl true)=trues (F++[c]):=by
  unfold putKs putA trues
  rw [if_neg h,if_neg h,List.map_append]
  exact ⟨rfl,rfl⟩
theorem sub_len:∀ {F ts:List Int},F.Nodup→(∀ c∈F,c∈ts)→F.length≤ts.length
  | [],_,_,_=>Nat.zero_le _
  | a::r,ts,hn,hs=>by
    obtain ⟨h1,h2⟩:=List.nodup_cons.mp hn
    have ha:=hs a List.mem_cons_self
    have:=sub_len (F:=r) (ts:=ts.erase a) h2 fun c hc=>(List.mem_erase_of_ne (show c≠a from fun z=>h1 (by rw [←z];exact hc))).mpr (hs c (List.mem_cons_of_mem _ hc))
    rw [List.length_erase_of_mem ha] at this
    have hp:0 < ts.length:=List.length_pos_of_mem ha
    rw [List.length_cons];omega
structure GI (ts:List Int) (es:List (Int×Int)) (a:Int) (F Wt:List Int):Prop where
  nd:F.Nodup
  st:a∈F
  wl:Wt.length≤F.length
  w:∀ c∈Wt,c∈F
  r:∀ c∈F,Rch es a c
  cl:∀ b∈F,b∉Wt→∀ c,((b,c)∈es∨(c,b)∈es)→c∈F
theorem group_of_at {ts:List Int} {es:List (Int×Int)} (h:Ok ts es) {a:Int} (ha:a∈ts) :
    ∃ F:List Int,m_group_of [.int a,.dic ts (nbD ts es)]=some (.fr ((sortZ F).map D.int))∧F.Nodup∧∀ c,c∈F↔Rch es a c:=by
  unfold m_group_of B_group_of
  simp_arith [e_seq]
  have hl1:=h.l1
  obtain ⟨ω',e,F,x4,x5,rfl,gi⟩:=sWh_by (fc:=T1_group_of) (fb:=L2_group_of) (n:=1000000)
    (fun ω=>∃ (F Wt:List Int) (x4 x5:Option W),ω=[some (.sh (.int a)),some (.sh (.dic ts (nbD ts es))),some (.od F (trues F)),some (.ow (Wt.map D.int)),x4,x5]∧GI ts es a F Wt)
    (fun ω=>match ω with
      | [_,_,some (.od F _),some (.ow w),_,_]=>(ts.length - F.length)+w.length
      | _=>0)
    (fun ω=>∃ (F:List Int) (x4 x5:Option W),ω=[some (.sh (.int a)),some (.sh (.dic ts (nbD ts es))),some (.od F (trues F)),some (.ow []),x4,x5]∧GI ts es a F [])
    (fun ω ⟨F,Wt,x4,x5,hω,gi⟩ hf=>by
      subst hω
      unfold T1_group_of at hf
      simp -implicitDefEqProofs only [e_wdrop,e_wd,e_wzip,e_wz,e_wpop,e_wsort,e_dnew,e_dnew1,e_dn1,e_dset,e_dget,e_dgr,e_dco,e_dcs,e_dhas,e_dhn,e_dsort,e_dpop0,e_dsh,e_aug,e_augi,e_irv,e_irl,e_ien,e_enl,e_mir,e_om_rt,e_om_nx,e_seq,e_bs_nx,e_bs_rt,e_nil,e_set,e_ss_sh,e_ss_fr,e_if,e_if_t,e_if_f,e_ret,e_rs_sh,e_rs_fr,e_retv,e_rv_ow,e_app,e_as,e_ext,e_es_t,e_es_l,e_share,e_sh_ow,e_for,e_fs,e_asg,e_ag,e_gn,e_gt,e_gc,e_g0,e_var,e_vr_sh,e_vr_ow,e_c,e_e,e_ed,e_d,e_dr_sh,e_dr_fr,e_v,e_vv_sh,e_vv_fr,e_vv_vw,e_op,e_o2,e_call,e_cl,e_or_sh,e_or_fr,e_ac,e_ca,e_an,e_lst,e_tup,e_blt,e_bl,e_slc,e_sl,e_po,e_pa,e_ap,e_isi,e_isi_lst,e_isi_tup,e_t,e_tr,e_tand,e_ta,e_ta2,e_tor,e_to,e_to2,e_tnot,e_tn,e_ttru,e_tt_bl,e_tt_lst,e_vand,e_va,e_va2,e_iseq,e_is_l,e_is_t,e_rg1,e_comp,e_cp,e_neg,e_ng,e_len_l,e_len_t,e_len_s,e_list_l,e_st_nx,oEq_ii,oNe_ii,oSub_ii,oLt_ii,oLe_ii,oGt_ii,oAdd_ii,oIx_l,oIx_t,oIx_s,at0,at1,at2,oMod_ii,oDiv_ii,subT,entry,Option.bind_some,Option.map_some,List.length_cons,List.length_nil,List.length_map,List.map_cons,List.map_nil,List.cons_append,List.nil_append,List.replicate_succ,List.replicate_zero,List.set_cons_succ,List.set_cons_zero,List.getElem?_cons_succ,List.getElem?_cons_zero,Nat.reduceSub,Nat.reduceAdd,Nat.reduceLT,Int.reduceLT,Int.reduceLE,Int.reduceSub,Int.reduceAdd,Int.reduceMul,Int.reduceMod,Int.reduceDiv,Int.reduceNeg,Int.reducePow,Int.reduceBEq,Int.reduceToNat,↓reduceIte,Bool.not_true,Bool.true_and,Bool.false_and,Bool.and_true,Bool.and_false,Bool.true_or,Bool.false_or,Bool.or_true,Bool.or_false,Bool.not_false,Nat.zero_add,beq_self_eq_true,Bool.false_eq_true] at hf
      cases Wt with
      | nil=>exact ⟨F,x4,x5,rfl,gi⟩
      | cons w r=>cases hf)
    (fun ω ⟨F,Wt,x4,x5,hω,gi⟩=>by
      subst hω
      refine ⟨!Wt.isEmpty,?_,fun hk=>?_⟩
      · unfold T1_group_of
        simp_arith [e_seq]
        cases Wt <;> rfl
      · obtain ⟨Wr,here,rfl⟩:∃ Wr here,Wt=Wr++[here]:=by
          cases Wt with
          | nil=>cases hk
          | cons w r=>exact ⟨(w::r).dropLast,(w::r).getLast (by simp),(List.dropLast_concat_getLast _).symm⟩
        have hF:here∈F:=gi.w here (by simp)
        have hts:here∈ts:=(gi.r here hF).mem h ha
        obtain ⟨xs,v1,v2⟩:=nbT_val ts here hts es
        have vd:valD ts (nbD ts es) here=some (.lst (xs.map D.int)):=by unfold nbD;rw [valD_map,v1];rfl
        have ew:(Wr++[here]).map D.int=Wr.map D.int++[D.int here]:=by rw [List.map_append];rfl
        have ffl:=sub_len gi.nd fun c hc=>(gi.r c hc).mem h ha
        unfold L2_group_of
        rw [ew]
        simp_arith [pop0_ok,vd]
        obtain ⟨ω',e,F',W',x5',rfl,i1,i2,i3,i4,i5,i6,i7,i8⟩:=forD_map (g:=gN 5) (b:=L1_group_of) D.int xs
          (fun pre ω=>∃ (F' W':List Int) (x5:Option W),ω=[some (.sh (.int a)),some (.sh (.dic ts (nbD ts es))),some (.od F' (trues F')),some (.ow (W'.map D.int)),some (.sh (.int here)),x5]∧F'.Nodup∧(∀ c∈F,c∈F')∧(∀ c∈Wr,c∈W')∧(∀ c∈W',c∈F')∧(∀ c∈F',Rch es a c)∧(∀ c∈F',c∈F∨c∈W')∧(∀ c∈pre,c∈F')∧F'.length+Wr.length=F.length+W'.length)
          (fun pre c post ω hd ⟨F',W',x5,hω,i1,i2,i3,i4,i5,i6,i7,i8⟩=>by
            subst hω
            refine ⟨_,rfl,?_⟩
            have hcx:c∈xs:=by rw [hd];simp
            have hcr:Rch es a c:=(gi.r here hF).step ((v2 c).mp hcx)
            have fl:=sub_len i1 fun c hc=>(i5 c hc).mem h ha
            have hs:(valD F' (trues F') c).isSome=decide (c∈F'):=valD_some (trues_len F')
            unfold L1_group_of
            by_cases hc:c∈F'
            · simp_arith [hs,hc,decide_true]
              exact ⟨F',W',_,rfl,i1,i2,i3,i4,i5,i6,fun x hx=>(by rcases List.mem_append.mp hx with y|y;exact i7 x y;cases List.mem_singleton.mp y;exact hc),i8⟩
            · obtain ⟨p1,p2⟩:=put_new hc
              have hwl:(W'.map D.int).length < 1000000:=by
                rw [List.length_map]
                have:=gi.wl
                rw [List.length_append,List.length_singleton] at this
                omega
              simp_arith [hs,hc,decide_false,dset_ok (show F'.length < 1000000 by omega),p1,p2,e_as hwl]
              refine ⟨F'++[c],W'++[c],_,by rw [List.map_append];rfl,?_,fun x hx=>List.mem_append_left _ (i2 x hx),fun x hx=>List.mem_append_left _ (i3 x hx),fun x hx=>?_,fun x hx=>?_,fun x hx=>?_,fun x hx=>?_,by rw [List.length_append,List.length_append,List.length_singleton];omega⟩
              · rw [List.nodup_append]
                exact ⟨i1,by simp,fun x hx y hy z=>by cases List.mem_singleton.mp hy;exact hc (z▸hx)⟩
              · rcases List.mem_append.mp hx with y|y
                · exact List.mem_append_left _ (i4 x y)
                · exact List.mem_append_right _ y
              · rcases List.mem_append.mp hx with y|y
                · exact i5 x y
                · cases List.mem_singleton.mp y;exact hcr
              · rcases List.mem_append.mp hx with y|y
                · exact (i6 x y).elim .inl fun z=>.inr (List.mem_append_left _ z)
                · exact .inr (List.mem_append_right _ y)
              · rcases List.mem_append.mp hx with y|y
                · exact List.mem_append_left _ (i7 x y)
                · exact List.mem_append_right _ y)
          (ω:=[some (.sh (.int a)),some (.sh (.dic ts (nbD ts es))),some (.od F (trues F)),some (.ow (Wr.map D.int)),some (.sh (.int here)),x5])
          ⟨F,Wr,x5,rfl,gi.nd,fun c hc=>hc,fun c hc=>hc,fun c hc=>gi.w c (List.mem_append_left _ hc),gi.r,fun c hc=>.inl hc,fun c hc=>(by cases hc),rfl⟩
        have fl':=sub_len i1 fun c hc=>(i5 c hc).mem h ha
        simp_arith [e]
        have wl0:=gi.wl
        rw [List.length_append,List.length_singleton] at wl0
        refine ⟨⟨F',W',_,_,rfl,i1,i2 a gi.st,by omega,i4,i5,fun b hb hw c hc=>?_⟩,?_⟩
        · rcases i6 b hb with y|y
          · by_cases z:b=here
            · subst z
              exact i7 c ((v2 c).mpr hc)
            · exact i2 c (gi.cl b y (fun m=>by rcases List.mem_append.mp m with m|m;exact hw (i3 b m);exact z (List.mem_singleton.mp m)) c hc)
          · exact absurd y hw
        · show (ts.length - F'.length)+(W'.map D.int).length < (ts.length - F.length)+(Wr.map D.int++[D.int here]).length
          rw [List.length_map,List.length_append,List.length_map,List.length_singleton]
          omega)
    (ω:=[some (.sh (.int a)),some (.sh (.dic ts (nbD ts es))),some (.od [a] [.bl true]),some (.ow [.int a]),none,none])
    ⟨[a],[a],none,none,rfl,by simp,by simp,Nat.le_refl _,fun c hc=>hc,fun c hc=>by cases List.mem_singleton.mp hc;exact .refl,fun b hb hw=>absurd hb hw⟩
    (by show (ts.length - 1)+1 < 1000000;omega)
  have fl:=sub_len gi.nd fun c hc=>(gi.r c hc).mem h ha
  simp_arith [e,sortD_ok (show F.length < 64 by omega)]
  exact ⟨F,rfl,gi.nd,fun c=>⟨gi.r c,fun r=>r.inv (fun x=>x∈F) gi.st fun b c hb hc=>gi.cl b hb (by simp) c hc⟩⟩
noncomputable def gD (g:List Int):D:=.lst (g.map D.int)
structure Cls (ts:List Int) (es:List (Int×Int)) (g:List Int) (a:Int):Prop where
  inn:a∈ts
  up:g.Pairwise (· < ·)
  mem:∀ c,c∈g↔Rch es a c
  hd:g.head?=some a
theorem lt_sort {F:List Int} (h:F.Nodup):(sortZ F).Pairwise (· < ·):=by
  have h1:(sortZ F).Nodup:=(sortZ_perm (l:=F)).nodup_iff.mpr h
  have h2:=sortZ_le (l:=F)
  have:=List.Pairwise.and h2 h1
  exact this.imp fun {a b} h=>(by have h1:=h.1;have h2:=h.2;omega)
theorem cls_of {ts:List Int} {es:List (Int×Int)} {F:List Int} {a:Int} (ha:a∈ts) (hn:F.Nodup) (hm:∀ c,c∈F↔Rch es a c) (least:∀ c∈F,a≤c):Cls ts es (sortZ F) a:=by
  have pm:=sortZ_perm (l:=F)
  have up:=lt_sort hn
  refine ⟨ha,up,fun c=>by rw [pm.mem_iff,hm],?_⟩
  have haF:a∈sortZ F:=pm.mem_iff.mpr ((hm a).mpr .refl)
  cases q:sortZ F with
  | nil=>rw [q] at haF;cases haF
  | cons b r =>
    rw [q] at haF up
    have hb:a≤b:=least b (pm.mem_iff.mp (by rw [q];exact List.mem_cons_self))
    rcases List.mem_cons.mp haF with rfl|hr
    · rfl
    · have:=(List.pairwise_cons.mp up).1 a hr
      omega
structure GS (ts:List Int) (es:List (Int×Int)) (gs:List (List Int)) (hs:List Int):Prop where
  len:gs.length=hs.length
  cls:∀ (j:Nat) g a,gs[j]?=some g→hs[j]?=some a→Cls ts es g a
  up:hs.Pairwise (· < ·)
theorem GS.snoc {ts:List Int} {es:List (Int×Int)} {gs:List (List Int)} {hs:List Int} (h:GS ts es gs hs) {g:List Int} {a:Int} (c:Cls ts es g a) (hu:∀ b∈hs,b < a):GS ts es (gs++[g]) (hs++[a]):=by
  refine ⟨by rw [List.length_append,List.length_append,h.len];rfl,fun j g' a' e1 e2=>?_,?_⟩
  · rcases Nat.lt_or_ge j gs.length with z|z
    · rw [List.getElem?_append_left z] at e1
      rw [List.getElem?_append_left (by rw [←h.len];exact z)] at e2
      exact h.cls j g' a' e1 e2
    · rw [List.getElem?_append_right z] at e1
      rw [List.getElem?_append_right (by rw [←h.len];exact z),←h.len] at e2
      cases hj:j - gs.length with
      | zero=>rw [hj] at e1 e2;cases e1;cases e2;exact c
      | succ n=>rw [hj] at e1;cases e1
  · rw [List.pairwise_append]
    exact ⟨h.up,by simp,fun b hb c hc=>by cases List.mem_singleton.mp hc;exact hu b hb⟩
theorem GS.one {ts:List Int} {es:List (Int×Int)} {gs:List (List Int)} {hs:List Int} (h:GS ts es gs hs) {g:List Int} (hg:g∈gs):∃ a∈hs,Cls ts es g a:=by
  obtain ⟨j,hj,rfl⟩:=List.mem_iff_getElem.mp hg
  have hj2:j < hs.length:=by rw [←h.len];exact hj
  exact ⟨hs[j],List.getElem_mem _,h.cls j _ _ (List.getElem?_eq_getElem hj) (List.getElem?_eq_getElem hj2)⟩
theorem groups_at {ts:List Int} {es:List (Int×Int)} (h:Ok ts es):∃ gs hs,m_groups [.lst (ts.map D.int),.lst (es.map pairD2)]=some (.fr (gs.map gD))∧GS ts es gs hs∧(∀ t∈ts,∃ g∈gs,t∈g)∧gs.length≤ts.length:=by
  unfold m_groups B_groups
  have hl1:=h.l1
  have sp:=sortZ_perm (l:=ts)
  have sl:=sortZ_le (l:=ts)
  simp_arith [neighbours_at h,sort_ok hl1]
  obtain ⟨ω',e,gs,hs,Gd,x5,x6,x7,rfl,i1,i2,i3,i4,i5,i6⟩:=forD_map (g:=gN 5) (b:=L2_groups) D.int (sortZ ts)
    (fun pre ω=>∃ (gs:List (List Int)) (hs Gd:List Int) (x5 x6 x7:Option W),ω=[some (.sh (.lst (ts.map D.int))),some (.sh (.lst (es.map pairD2))),some (.sh (.dic ts (nbD ts es))),some (.od Gd (trues Gd)),some (.ow (gs.map gD)),x5,x6,x7]∧GS ts es gs hs∧Gd.Nodup∧(∀ c,c∈Gd↔∃ g∈gs,c∈g)∧(∀ t∈pre,t∈Gd)∧(∀ a∈hs,a∈pre)∧gs.length≤pre.length)
    (fun pre t post ω hd ⟨gs,hs,Gd,x5,x6,x7,hω,i1,i2,i3,i4,i5,i6⟩=>by
      subst hω
      refine ⟨_,rfl,?_⟩
      have ht:t∈ts:=sp.mem_iff.mp (by rw [hd];simp)
      have hs1:(valD Gd (trues Gd) t).isSome=decide (t∈Gd):=valD_some (trues_len Gd)
      have gts:∀ c∈Gd,c∈ts:=fun c hc=>by
        obtain ⟨g,hg,hcg⟩:=(i3 c).mp hc
        obtain ⟨a,_,cl⟩:=i1.one hg
        exact ((cl.mem c).mp hcg).mem h cl.inn
      have plen:pre.length≤ts.length:=by rw [←sp.length_eq,hd,List.length_append];omega
      unfold L2_groups
      by_cases hc:t∈Gd
      · simp_arith [hs1,hc,decide_true]
        exact ⟨gs,hs,Gd,_,_,_,rfl,i1,i2,i3,fun x hx=>(by rcases List.mem_append.mp hx with y|y;exact i4 x y;cases List.mem_singleton.mp y;exact hc),fun a ha=>List.mem_append_left _ (i5 a ha),by rw [List.length_append];omega⟩
      · obtain ⟨F,f1,f2,f3⟩:=group_of_at h ht
        have least:∀ c∈F,t≤c:=fun c hcF=>by
          rcases Int.lt_or_le c t with z|z
          · exfalso
            have rc:=(f3 c).mp hcF
            have hcs:c∈sortZ ts:=sp.mem_iff.mpr (rc.mem h ht)
            rw [hd] at hcs sl
            have hcp:c∈pre:=by
              rcases List.mem_append.mp hcs with y|y
              · exact y
              · rcases List.mem_cons.mp y with rfl|y
                · omega
                · have:=(List.pairwise_cons.mp (List.pairwise_append.mp sl).2.1).1 c y
                  omega
            obtain ⟨g,hg,hcg⟩:=(i3 c).mp (i4 c hcp)
            obtain ⟨a,_,cl⟩:=i1.one hg
            exact hc ((i3 t).mpr ⟨g,hg,(cl.mem t).mpr (((cl.mem c).mp hcg).trans rc.symm)⟩)
          · exact z
        have cl:=cls_of ht f2 f3 least
        have dis:∀ c∈sortZ F,c∉Gd:=fun c hcg hcG=>by
          obtain ⟨g,hg,hcg'⟩:=(i3 c).mp hcG
          obtain ⟨a,_,cl'⟩:=i1.one hg
          exact hc ((i3 t).mpr ⟨g,hg,(cl'.mem t).mpr (((cl'.mem c).mp hcg').trans ((cl.mem c).mp hcg).symm)⟩)
        have hgl:(gs.map gD).length < 1000000:=by rw [List.length_map];omega
        simp_arith [hs1,hc,decide_false,f1,e_as hgl]
        obtain ⟨ω',e,x7',rfl⟩:=forD_map (g:=gN 7) (b:=L1_groups) D.int (sortZ F)
          (fun pre' ω=>∃ (x7:Option W),ω=[some (.sh (.lst (ts.map D.int))),some (.sh (.lst (es.map pairD2))),some (.sh (.dic ts (nbD ts es))),some (.od (Gd++pre') (trues (Gd++pre'))),some (.ow (gs.map gD++[.lst ((sortZ F).map D.int)])),some (.sh (.int t)),some (.sh (.lst ((sortZ F).map D.int))),x7])
          (fun pre' c post' ω hd' ⟨x7,hω⟩=>by
            subst hω
            refine ⟨_,rfl,?_⟩
            have ndF:(sortZ F).Nodup:=(sortZ_perm (l:=F)).nodup_iff.mpr f2
            have hnew:c∉Gd++pre':=fun m=>by
              rcases List.mem_append.mp m with y|y
              · exact dis c (by rw [hd'];simp) y
              · rw [hd',List.nodup_append] at ndF
                exact ndF.2.2 c y c List.mem_cons_self rfl
            obtain ⟨p1,p2⟩:=put_new hnew
            have hlen:(Gd++pre').length < 1000000:=by
              have z1:=sub_len i2 gts
              have z2:pre'.length≤ts.length:=by
                have a1:(sortZ F).length≤ts.length:=by
                  rw [(sortZ_perm (l:=F)).length_eq]
                  exact sub_len f2 fun c hc=>((f3 c).mp hc).mem h ht
                rw [hd',List.length_append] at a1;omega
              rw [List.length_append];omega
            unfold L1_groups
            simp_arith [dset_ok hlen,p1,p2,List.append_assoc]
            exact ⟨_,rfl⟩)
          (ω:=[some (.sh (.lst (ts.map D.int))),some (.sh (.lst (es.map pairD2))),some (.sh (.dic ts (nbD ts es))),some (.od Gd (trues Gd)),some (.ow (gs.map gD++[.lst ((sortZ F).map D.int)])),some (.sh (.int t)),some (.sh (.lst ((sortZ F).map D.int))),x7]) ⟨x7,by rw [List.append_nil]⟩
        simp_arith [e]
        refine ⟨gs++[sortZ F],hs++[t],Gd++sortZ F,_,_,_,by rw [List.map_append];rfl,i1.snoc cl fun b hb=>?_,?_,fun c=>?_,fun x hx=>?_,fun a ha=>?_,by rw [List.length_append,List.length_append,List.length_singleton,List.length_singleton];omega⟩
        · have hbp:=i5 b hb
          rw [hd] at sl
          have le:b≤t:=(List.pairwise_append.mp sl).2.2 b hbp t List.mem_cons_self
          have ne:b≠t:=fun z=>hc (i4 t (z▸hbp))
          omega
        · rw [List.nodup_append]
          exact ⟨i2,(sortZ_perm (l:=F)).nodup_iff.mpr f2,fun x hx y hy z=>dis y hy (z▸hx)⟩
        · rw [List.mem_append,i3]
          constructor
          · rintro (⟨g,hg,hcg⟩|hcF)
            · exact ⟨g,List.mem_append_left _ hg,hcg⟩
            · exact ⟨_,List.mem_append_right _ (List.mem_singleton.mpr rfl),hcF⟩
          · rintro ⟨g,hg,hcg⟩
            rcases List.mem_append.mp hg with y|y
            · exact .inl ⟨g,y,hcg⟩
            · cases List.mem_singleton.mp y;exact .inr hcg
        · rcases List.mem_append.mp hx with y|y
          · exact List.mem_append_left _ (i4 x y)
          · cases List.mem_singleton.mp y
            exact List.mem_append_right _ ((cl.mem t).mpr .refl)
        · rcases List.mem_append.mp ha with y|y
          · exact List.mem_append_left _ (i5 a y)
          · exact List.mem_append_right _ y)
    (ω:=[some (.sh (.lst (ts.map D.int))),some (.sh (.lst (es.map pairD2))),some (.sh (.dic ts (nbD ts es))),some (.od [] []),some (.ow []),none,none,none])
    ⟨[],[],[],none,none,none,rfl,⟨rfl,fun j g a e=>(by simp at e),.nil⟩,List.nodup_nil,by simp,by simp,by simp,Nat.le_refl _⟩
  simp_arith [e]
  refine ⟨gs,hs,rfl,i1,fun t ht=>?_,by rw [←sp.length_eq];exact i6⟩
  exact (i3 t).mp (i4 t (sp.mem_iff.mpr ht))
noncomputable def wholeD:D→Bool
  | .int _=>true
  | _=>false
noncomputable def nsD:D→Bool
  | .scr _=>false
  | .exc _=>false
  | .dic _ _=>false
  | _=>true
noncomputable def noScr:D→Bool
  | .scr _=>false
  | .exc _=>false
  | .dic _ _=>false
  | .tup [a,b]=>nsD a && nsD b
  | _=>true
noncomputable def isBoxL:List D→Bool
  | []=>false
  | [_]=>false
  | [a,b]=>wholeD a && wholeD b
  | _::_::_::_=>false
noncomputable def isBox:D→Bool
  | .tup ds=>isBoxL ds
  | _=>false
theorem whole_at {d:D} (h:nsD d=true):m_is_whole [d]=some (.sh (.bl (wholeD d))):=by
  cases d <;> first|rfl|cases h
theorem box_at {d:D} (h:noScr d=true):m_is_box [d]=some (.sh (.bl (isBox d))):=by
  unfold m_is_box B_is_box
  match d,h with
  | .non,_=>rfl
  | .bl _,_=>rfl
  | .int _,_=>rfl
  | .str _,_=>rfl
  | .lst _,_=>rfl
  | .tup [],_=>rfl
  | .tup [_],_=>simp_arith [e_seq];rfl
  | .tup [a,b],h =>
    have h':=Bool.and_eq_true_iff.mp (show (_ && _)=true from h)
    have ha:=whole_at h'.1
    have hb:=whole_at h'.2
    simp_arith [ha,hb]
    simp_arith [show (((0+1+1:Nat):Int) == 2)=true from rfl,ha,hb]
    cases a <;> cases b <;> rfl
  | .tup (a::b::c::r),_ =>
    have hn:(((a::b::c::r).length:Int) == 2)=false:=by
      simp only [List.length_cons,beq_eq_false_iff_ne,ne_eq];omega
    simp only [List.length_cons] at hn
    simp_arith [hn]
    rfl
theorem allB_map:∀ (q:D→Bool) (ds:List D),allB (ds.map fun d=>D.bl (q d))=some (ds.all q)
  | _,[]=>rfl
  | q,d::ds=>by
    show (allB (ds.map fun d=>D.bl (q d))).map _=_
    rw [allB_map q ds];rfl
theorem errand_at {h l:D} {ds:List D} (hh:nsD h=true) (hl:nsD l=true) (hd:∀ d∈ds,noScr d=true) (hlen:ds.length≤1000000) :
    m_is_errand [h,l,.lst ds]=some (.sh (.bl (wholeD h && (wholeD l && ds.all isBox)))):=by
  unfold m_is_errand B_is_errand
  have e1:=whole_at hh
  have e2:=whole_at hl
  simp_arith [e1,e2,e_cp hlen]
  cases wholeD h <;> cases wholeD l <;> simp_arith [e2,e_cp hlen] <;> first|rfl|skip
  rw [compD_map (fun d=>D.bl (isBox d))]
  · simp_arith [bAll,allB_map]
  · intro d hd'
    unfold E1_is_errand
    simp_arith [inW,box_at (hd d hd')]
noncomputable def flat (bs:List (Int×Int)):List Int:=bs.flatMap fun p=>[p.1,p.2]
noncomputable def plc (h l:Int) (bs:List (Int×Int)):List Int:=h::l::flat bs
theorem flat_app (bs:List (Int×Int)) (p:Int×Int):flat (bs++[p])=flat bs++[p.1,p.2]:=by simp [flat]
theorem flat_len (bs:List (Int×Int)):(flat bs).length=2*bs.length:=by
  induction bs with
  | nil=>rfl
  | cons p r ih=>simp [flat] at ih ⊢;omega
theorem plc_app (h l:Int) (bs:List (Int×Int)) (p:Int×Int):plc h l (bs++[p])=plc h l bs++[p.1,p.2]:=by unfold plc;rw [flat_app];rfl
theorem hints (x:Int):nsD (.int x)=true:=rfl
theorem box_isBox (p:Int×Int):isBox (boxD p)=true:=rfl
theorem box_lay (p:Int×Int):(boxD p).py.canLay0=true∧(boxD p).py.depth≤2:=⟨rfl,by show 1≤2;decide⟩
theorem boxes_all (bs:List (Int×Int)):(bs.map boxD).all isBox=true:=by
  rw [List.all_map];exact List.all_eq_true.mpr fun p _=>box_isBox p
theorem boxes_shp (bs:List (Int×Int)):shp (.lst (bs.map boxD))=true:=shp_lst 2 (by decide) fun d hd=>by
    obtain ⟨p,_,rfl⟩:=List.mem_map.mp hd;exact box_lay p
theorem errand_ok {h l:Int} {bs:List (Int×Int)} (hb:bs.length≤1000):m_is_errand [.int h,.int l,.lst (bs.map boxD)]=some (.sh (.bl true)):=by
  have:=errand_at (h:=.int h) (l:=.int l) (ds:=bs.map boxD) (hints h) (hints l) (fun d hd=>by
    obtain ⟨p,_,rfl⟩:=List.mem_map.mp hd;rfl) (by rw [List.length_map];omega)
  rw [boxes_all] at this
  exact this
theorem check_ok {h l:Int} {bs:List (Int×Int)} (hb:bs.length≤1000):m_check_errand [.int h,.int l,.lst (bs.map boxD)]=some (.sh .non):=by
  unfold m_check_errand B_check_errand
  simp_arith [errand_ok hb]
theorem stops_at {h l:Int} {bs:List (Int×Int)} (hb:bs.length≤30):m_stops [.int h,.int l,.lst (bs.map boxD)]=some (.fr ((sortU (plc h l bs)).map D.int)):=by
  unfold m_stops B_stops
  simp_arith [check_ok (show bs.length≤1000 by omega)]
  obtain ⟨ω',e,x4,rfl⟩:=forD_map (g:=gN 4) (b:=L1_stops) boxD bs
    (fun pre ω=>∃ x4,ω=[some (.sh (.int h)),some (.sh (.int l)),some (.sh (.lst (bs.map boxD))),some (.ow ((plc h l pre).map D.int)),x4])
    (fun pre p post ω hd ⟨x4,hω⟩=>by
      subst hω
      refine ⟨_,rfl,?_⟩
      unfold L1_stops
      have hl:(plc h l pre).length≤1000:=by
        have:=congrArg List.length hd
        rw [List.length_append,List.length_cons] at this
        show (flat pre).length+1+1≤1000
        rw [flat_len];omega
      have e1:=e_es_t (i:=3) (ω:=[some (.sh (.int h)),some (.sh (.int l)),some (.sh (.lst (bs.map boxD))),some (.ow ((plc h l pre).map D.int)),some (.sh (boxD p))]) (ds:=(plc h l pre).map D.int) (ds':=[.int p.1,.int p.2]) (by rw [List.length_map,List.length_cons,List.length_singleton];omega)
      simp_arith [e_seq]
      show stepS (extS 3 _ (some (boxD p)) _) _
      rw [show boxD p=D.tup [.int p.1,.int p.2] from rfl] at e1 ⊢
      rw [e1,plc_app,List.map_append]
      exact ⟨_,rfl⟩)
    (ω:=[some (.sh (.int h)),some (.sh (.int l)),some (.sh (.lst (bs.map boxD))),some (.ow [.int h,.int l]),none]) ⟨none,rfl⟩
  simp_arith [e]
  have hlen:(plc h l bs).length < 64:=by
    show (flat bs).length+1+1 < 64
    rw [flat_len];omega
  have:fSortSet (vOf (fVar 3)) [some (.sh (.int h)),some (.sh (.int l)),some (.sh (.lst (bs.map boxD))),some (.ow ((plc h l bs).map D.int)),x4]=some (.fr ((sortU (plc h l bs)).map D.int)):=by
    show oSortSet (.lst ((plc h l bs).map D.int))=_
    show (intsOf ((plc h l bs).map D.int)).bind _=_
    rw [intsOf_map]
    exact if_pos hlen
  simp_arith [this]
noncomputable def gapsL (P:List Int):List (Int×Int):=P.zip (P.drop 1)
theorem gapsL_len (P:List Int):(gapsL P).length=P.length - 1:=by
  unfold gapsL;rw [List.length_zip,List.length_drop];omega
theorem gapsL_at {P:List Int} {i:Nat} (h:i+1 < P.length):(gapsL P)[i]?=some (P[i],P[i+1]):=by
  unfold gapsL
  rw [List.getElem?_zip_eq_some]
  refine ⟨List.getElem?_eq_getElem (by omega),?_⟩
  show (P.drop 1)[i]?=some P[i+1]
  rw [List.getElem?_drop,Nat.add_comm 1 i];exact List.getElem?_eq_getElem h
theorem zip_boxes:∀ (xs ys:List Int),List.zipWith pairD (xs.map D.int) (ys.map D.int)=(xs.zip ys).map boxD
  | [],_=>rfl
  | _::_,[]=>rfl
  | x::xs,y::ys=>by
    show _::List.zipWith pairD (xs.map D.int) (ys.map D.int)=_::(xs.zip ys).map boxD
    rw [zip_boxes xs ys];rfl
theorem cut_tail (ds:List D):cutD ds (some 1) none=ds.drop 1:=by
  unfold cutD
  have e:HT.sIx ds.length 0 (some 1)=min 1 ds.length:=HT.sIx_nat ds.length 0 1
  rw [e,HT.sIx_none]
  cases ds with
  | nil=>rfl
  | cons d r =>
    have:min 1 (d::r).length=1:=by rw [List.length_cons];omega
    rw [this]
    show List.take _ r=r
    rw [List.length_cons,Nat.add_sub_cancel,List.take_length]
theorem gaps_at {h l:Int} {bs:List (Int×Int)} (hb:bs.length≤30):m_gaps [.int h,.int l,.lst (bs.map boxD)]=some (.fr ((gapsL (sortU (plc h l bs))).map boxD)):=by
  unfold m_gaps B_gaps
  have hz:bListZip [.lst ((sortU (plc h l bs)).map D.int),.lst (cutD ((sortU (plc h l bs)).map D.int) (some 1) none)]=some (.fr ((gapsL (sortU (plc h l bs))).map boxD)):=by
    rw [cut_tail,←List.map_drop]
    show some (R.fr (List.zipWith pairD _ _))=_
    rw [zip_boxes];rfl
  simp_arith [stops_at hb,oSl_l,hz]
structure Stp (P:List Int):Prop where
  ne:P≠[]
  rise:P.Pairwise (· < ·)
  len:P.length≤1000
theorem stp (h l:Int) {bs:List (Int×Int)} (hb:bs.length≤30):Stp (sortU (plc h l bs)):=by
  refine ⟨fun e=>?_,rise_sortU,?_⟩
  · have:h∈sortU (plc h l bs):=mem_sortU.mpr (by simp [plc])
    rw [e] at this;simp at this
  · have:(sortU (plc h l bs)).length≤(plc h l bs).length:=sortU_len _
    have h2:(plc h l bs).length=2*bs.length+2:=by show (flat bs).length+1+1=_;rw [flat_len]
    omega
theorem Stp.lt {P:List Int} (S:Stp P) {i j:Nat} (hi:i < P.length) (hj:j < P.length) (h:i < j):P[i] < P[j]:=List.pairwise_iff_getElem.mp S.rise i j hi hj h
theorem Stp.le {P:List Int} (S:Stp P) {i j:Nat} (hi:i < P.length) (hj:j < P.length) (h:i≤j):P[i]≤P[j]:=by
  rcases Nat.lt_or_ge i j with z|z
  · exact Int.le_of_lt (S.lt hi hj z)
  · have:i=j:=by omega
    subst this;exact Int.le_refl _
theorem Stp.pos {P:List Int} (S:Stp P):0 < P.length:=List.length_pos_iff.mpr S.ne
theorem Stp.amid {P:List Int} (S:Stp P) {i:Nat} (h:i+1 < P.length) {x:Int} (hx:x∈P):x≤P[i]∨P[i+1]≤x:=by
  obtain ⟨j,hj,rfl⟩:=List.mem_iff_getElem.mp hx
  rcases Nat.lt_or_ge i j with z|z
  · right;exact S.le h hj z
  · left;exact S.le hj (by omega) z
theorem boxD_eq (a b:Int):boxD (a,b)=.tup [.int a,.int b]:=rfl
noncomputable def over (s g:Int) (q:Int×Int):Bool:=decide (s≤q.1) && decide (q.2≤g)
theorem leads_at (s g a b:Int):m_leads_over [.int s,.int g,.tup [.int a,.int b]]=some (.sh (.bl (over s g (a,b)))):=by
  unfold m_leads_over B_leads_over over
  simp_arith [e_seq]
noncomputable def rts (bs:List (Int×Int)) (q:Int×Int):Int:=((bs.filter fun p=>over p.1 p.2 q).length:Nat)
noncomputable def lfs (bs:List (Int×Int)) (q:Int×Int):Int:=((bs.filter fun p=>over p.2 p.1 q).length:Nat)
noncomputable def onP (f:Int→Int→Bool):D→Bool
  | .tup [.int a,.int b]=>f a b
  | _=>false
theorem fil_boxes (f:Int→Int→Bool) (bs:List (Int×Int)):((bs.map boxD).filter (onP f)).map (fun d=>d)=(bs.filter fun p=>f p.1 p.2).map boxD:=by
  rw [List.map_id',List.filter_map];rfl
theorem crossed_at {bs:List (Int×Int)} {q:Int×Int} (hb:bs.length≤1000):m_crossed [.lst (bs.map boxD),boxD q]=some (.sh (.tup [.int (rts bs q),.int (lfs bs q)])):=by
  unfold m_crossed B_crossed
  have hl:(bs.map boxD).length≤1000000:=by rw [List.length_map];omega
  obtain ⟨a,b⟩:=q
  have c1:compD (gN 0) T1_crossed E1_crossed (bs.map boxD) [none,some (.sh (.tup [.int a,.int b]))]=some ((bs.filter fun p=>over p.1 p.2 (a,b)).map boxD):=by
    rw [←fil_boxes (fun s g=>over s g (a,b))]
    refine compD_fil (onP fun s g=>over s g (a,b)) (fun d=>d) (bs.map boxD) fun d hd=>?_
    obtain ⟨⟨s,g⟩,_,rfl⟩:=List.mem_map.mp hd
    unfold T1_crossed E1_crossed
    simp_arith [boxD_eq,leads_at]
    exact ⟨rfl,fun _=>trivial⟩
  have c2:compD (gN 0) T2_crossed E2_crossed (bs.map boxD) [none,some (.sh (.tup [.int a,.int b]))]=some ((bs.filter fun p=>over p.2 p.1 (a,b)).map boxD):=by
    rw [←fil_boxes (fun s g=>over g s (a,b))]
    refine compD_fil (onP fun s g=>over g s (a,b)) (fun d=>d) (bs.map boxD) fun d hd=>?_
    obtain ⟨⟨s,g⟩,_,rfl⟩:=List.mem_map.mp hd
    unfold T2_crossed E2_crossed
    simp_arith [boxD_eq,leads_at]
    exact ⟨rfl,fun _=>trivial⟩
  simp_arith [boxD_eq,e_cp hl,inW,shOf,c1,c2]
  rfl
noncomputable def lackI (h l:Int) (bs:List (Int×Int)) (q:Int×Int):Int:=rts [(h,l)] q - lfs [(h,l)] q - rts bs q+lfs bs q
theorem lack_at {h l:Int} {bs:List (Int×Int)} {q:Int×Int} (hb:bs.length≤1000):m_lack [.int h,.int l,.lst (bs.map boxD),boxD q]=some (.sh (.int (lackI h l bs q))):=by
  unfold m_lack B_lack
  have e1:=crossed_at (bs:=[(h,l)]) (q:=q) (by show 1≤1000;decide)
  have e2:=crossed_at (bs:=bs) (q:=q) hb
  rw [List.map_cons,List.map_nil,boxD_eq] at e1
  simp_arith [e1,e2]
  rfl
set_option tactic.hygienic true in
theorem lacks_at {h l:Int} {bs:List (Int×Int)} (hb:bs.length≤30):m_lacks [.int h,.int l,.lst (bs.map boxD)]=some (.fr (((gapsL (sortU (plc h l bs))).map (lackI h l bs)).map D.int)):=by
  unfold m_lacks B_lacks
  have S:=stp h l hb
  have hl:((gapsL (sortU (plc h l bs))).map boxD).length≤1000000:=by rw [List.length_map,gapsL_len];have:=S.len;omega
  simp_arith [gaps_at hb,e_cp hl,inW,shOf]
  rw [compD_map (fun d=>match d with|.tup [.int a,.int b]=>D.int (lackI h l bs (a,b))|d=>d)]
  case h =>
    intro d hd
    obtain ⟨⟨a,b⟩,_,rfl⟩:=List.mem_map.mp hd
    unfold E1_lacks
    have e:=lack_at (h:=h) (l:=l) (bs:=bs) (q:=(a,b)) (by omega)
    rw [boxD_eq] at e ⊢
    simp_arith [e]
  rw [List.map_map,List.map_map]
  rfl
noncomputable def ov (s g:Int) (q:Int×Int):Int:=if over s g q=true then 1 else if over g s q=true then -1 else 0
theorem tup_gaps (f:Int×Int→Int):∀ L:List (Int×Int),tupL (L.map boxD) ((L.map f).map D.int)=L.map fun q=>D.tup [boxD q,.int (f q)]
  | []=>rfl
  | q::r=>by
    show D.tup [boxD q,.int (f q)]::tupL (r.map boxD) ((r.map f).map D.int)=_
    rw [tup_gaps f r];rfl
noncomputable def snd0:D→Bool
  | .tup [_,.int k]=>!(k == 0)
  | _=>false
noncomputable def fst0:D→D
  | .tup [x,_]=>x
  | d=>d
theorem comp_knots (f:Int×Int→Int) (L:List (Int×Int)):compD (gT 2 (gsCons (gN 0) (gsCons (gN 1) gsNil))) T1_knots E1_knots (L.map fun q=>D.tup [boxD q,.int (f q)]) [none,none]=some ((L.filter fun q=>!(f q == 0)).map boxD):=by
  have:=compD_rel (g:=gT 2 (gsCons (gN 0) (gsCons (gN 1) gsNil))) (c:=T1_knots) (f:=E1_knots) (fun w=>∃ a b,w=[a,b]) snd0 fst0 (L.map fun q=>D.tup [boxD q,.int (f q)]) (ω:=[none,none]) ⟨_,_,rfl⟩ (fun d hd w ⟨a,b,hw⟩=>by
    obtain ⟨q,_,rfl⟩:=List.mem_map.mp hd
    subst hw
    refine ⟨[some (.sh (boxD q)),some (.sh (.int (f q)))],rfl,⟨_,_,rfl⟩,?_,fun _=>rfl⟩
    unfold T1_knots
    simp_arith [e_seq]
    rfl)
  rw [this,List.filter_map,List.map_map]
  rfl
theorem knots_at {h l:Int} {bs:List (Int×Int)} (hb:bs.length≤30):m_knots [.int h,.int l,.lst (bs.map boxD)]=some (.fr ((bs++[(h,l)]++(gapsL (sortU (plc h l bs))).filter fun q=>!(lackI h l bs q == 0)).map boxD)):=by
  unfold m_knots B_knots
  have S:=stp h l hb
  have hg:=gaps_at (h:=h) (l:=l) hb
  have hk:=lacks_at (h:=h) (l:=l) hb
  have hL:(gapsL (sortU (plc h l bs))).length≤1000:=by rw [gapsL_len];have:=S.len;omega
  generalize gapsL (sortU (plc h l bs))=L at hg hk hL ⊢
  have hl:(L.map fun q=>D.tup [boxD q,.int (lackI h l bs q)]).length≤1000000:=by rw [List.length_map];omega
  have hf:=List.length_filter_le (fun q=>!(lackI h l bs q == 0)) L
  simp_arith [hg,hk,tup_gaps,e_cp hl,inW,comp_knots (lackI h l bs)]
  have a1:oAdd (.lst (bs.map boxD)) (.lst [.tup [.int h,.int l]])=some (.fr (bs.map boxD++[.tup [.int h,.int l]])):=oAdd_ll (by rw [List.length_map,List.length_singleton];omega)
  have a2:oAdd (.lst (bs.map boxD++[.tup [.int h,.int l]])) (.lst ((L.filter fun q=>!(lackI h l bs q == 0)).map boxD))=some (.fr (bs.map boxD++[.tup [.int h,.int l]]++(L.filter fun q=>!(lackI h l bs q == 0)).map boxD)):=oAdd_ll (by rw [List.length_append,List.length_map,List.length_map,List.length_singleton];omega)
  simp_arith [a1,a2]
  rw [List.map_append,List.map_append]
  rfl
inductive Mv where
  | go (p q:Int)|box (k:Nat) (p q:Int)
noncomputable def mvD:Mv→D
  | .go p q=>.tup [.str "go", .int p,.int q]
  | .box k p q=>.tup [.str "box", .int (k:Int),.int p,.int q]
noncomputable def Mv.frm:Mv→Int
  | .go p _=>p
  | .box _ p _=>p
noncomputable def Mv.to:Mv→Int
  | .go _ q=>q
  | .box _ _ q=>q
noncomputable def Mv.num:Mv→List Nat
  | .go _ _=>[]
  | .box k _ _=>[k]
def Mv.good (bs:List (Int×Int)):Mv→Prop
  | .go p q=>p≠q
  | .box k p q=>bs[k]?=some (p,q)
noncomputable def ends (h:Int):List Mv→Option Int
  | []=>some h
  | m::r=>if m.frm=h then ends m.to r else none
noncomputable def nums (ms:List Mv):List Nat:=ms.flatMap Mv.num
theorem ends_app:∀ (a b:List Mv) (h:Int),ends h (a++b)=(ends h a).bind fun x=>ends x b
  | [],b,h=>rfl
  | m::a,b,h=>by
    show (if m.frm=h then ends m.to (a++b) else none)=Option.bind (if m.frm=h then ends m.to a else none) _
    by_cases z:m.frm=h
    · rw [if_pos z,if_pos z];exact ends_app a b m.to
    · rw [if_neg z,if_neg z];rfl
theorem nums_app (a b:List Mv):nums (a++b)=nums a++nums b:=by unfold nums;rw [List.flatMap_append]
noncomputable def numD (k:Nat):D:=.int (k:Int)
theorem numD_def (k:Nat):numD k=.int (k:Int):=rfl
theorem nums_shp (ls:List Nat):shp (.lst (ls.map numD))=true:=shp_lst 2 (by decide) fun d hd=>by
  obtain ⟨m,_,rfl⟩:=List.mem_map.mp hd;exact ⟨rfl,by show 0≤2;decide⟩
theorem oNe_nil {ds:List D} (h:shp (.lst ds)=true):oEq true (.lst ds) (.lst [])=some (.sh (.bl (!ds.isEmpty))):=by
  unfold oEq;rw [h]
  cases ds <;> rfl
noncomputable def goneL (a b:Int):List Mv:=if a=b then [] else [.go a b]
theorem gone_at (a b:Int):m__law_gone [.int a,.int b]=some (.fr ((goneL a b).map mvD)):=by
  unfold m__law_gone B__law_gone goneL
  by_cases h:a=b
  · subst h
    simp_arith [e_seq]
  · have h':(a == b)=false:=by simpa using h
    simp_arith [h',h]
    rfl
theorem gone_len (a b:Int):(goneL a b).length≤1:=by unfold goneL;split <;> simp
theorem gone_ends (a b:Int):ends a (goneL a b)=some b:=by
  unfold goneL
  by_cases h:a=b
  · rw [if_pos h,h];rfl
  · rw [if_neg h];show (if a=a then some b else none)=_;rw [if_pos rfl]
theorem gone_good (bs:List (Int×Int)) (a b:Int):∀ m∈goneL a b,m.good bs:=by
  unfold goneL
  by_cases h:a=b
  · rw [if_pos h];intro m hm;cases hm
  · rw [if_neg h];intro m hm
    cases List.mem_singleton.mp hm
    exact h
theorem gone_nums (a b:Int):nums (goneL a b)=[]:=by unfold goneL;split <;> rfl
noncomputable def bx (bs:List (Int×Int)) (k:Nat):Int×Int:=bs.getD k (0,0)
theorem bx_get {bs:List (Int×Int)} {k:Nat} (h:k < bs.length):bs[k]?=some (bx bs k):=by
  unfold bx;rw [List.getD_eq_getElem?_getD,List.getElem?_eq_getElem h];rfl
theorem at_box {bs:List (Int×Int)} {k:Nat} (h:k < bs.length):atI (bs.map boxD) (k:Int)=some (.tup [.int (bx bs k).1,.int (bx bs k).2]):=by
  rw [atI_nn (by omega) (by rw [List.length_map];omega)]
  have e:=bx_get h
  rw [List.getElem?_eq_getElem h] at e
  simp only [Int.toNat_natCast,List.getElem_map,Option.some.inj e]
  rfl
noncomputable def takenL (bs:List (Int×Int)) (here:Int) (k:Nat):List Mv:=goneL here (bx bs k).1++[.box k (bx bs k).1 (bx bs k).2]
theorem taken_at {bs:List (Int×Int)} {here:Int} {k:Nat} (h:k < bs.length):m__law_taken [.lst (bs.map boxD),.int here,.int (k:Int)]=some (.fr ((takenL bs here k).map mvD)):=by
  unfold m__law_taken B__law_taken takenL
  have a1:oAdd (.lst ((goneL here (bx bs k).1).map mvD)) (.lst [.tup [.str "box", .int (k:Int),.int (bx bs k).1,.int (bx bs k).2]])=some (.fr ((goneL here (bx bs k).1).map mvD++[.tup [.str "box", .int (k:Int),.int (bx bs k).1,.int (bx bs k).2]])) :=
    oAdd_ll (by have:=gone_len here (bx bs k).1;rw [List.length_map,List.length_singleton];omega)
  simp_arith [at_box h,gone_at,a1]
  rw [List.map_append]
  rfl
theorem taken_len (bs:List (Int×Int)) (here:Int) (k:Nat):(takenL bs here k).length≤2:=by
  unfold takenL;have:=gone_len here (bx bs k).1;rw [List.length_append,List.length_singleton];omega
structure Part (bs:List (Int×Int)) (a b:Int) (ms:List Mv):Prop where
  e:ends a ms=some b
  g:∀ m∈ms,m.good bs
theorem Part.app {bs:List (Int×Int)} {a b c:Int} {ms ns:List Mv} (h:Part bs a b ms) (h':Part bs b c ns):Part bs a c (ms++ns) :=
  ⟨by rw [ends_app,h.e];exact h'.e,fun m hm=>(List.mem_append.mp hm).elim (h.g m) (h'.g m)⟩
theorem gone_part (bs:List (Int×Int)) (a b:Int):Part bs a b (goneL a b):=⟨gone_ends a b,gone_good bs a b⟩
theorem taken_part {bs:List (Int×Int)} {here:Int} {k:Nat} (h:k < bs.length):Part bs here (bx bs k).2 (takenL bs here k):=by
  refine (gone_part bs here (bx bs k).1).app ⟨?_,fun m hm=>?_⟩
  · show (if (bx bs k).1=(bx bs k).1 then some (bx bs k).2 else none)=_;rw [if_pos rfl]
  · cases List.mem_singleton.mp hm;exact bx_get h
theorem taken_nums (bs:List (Int×Int)) (here:Int) (k:Nat):nums (takenL bs here k)=[k]:=by
  unfold takenL;rw [nums_app,gone_nums];rfl
theorem perm_at {ls:List Nat} {i:Nat} (h:i < ls.length):(ls[i]::ls.eraseIdx i).Perm ls:=by
  induction ls generalizing i with
  | nil=>exact absurd h (Nat.not_lt_zero _)
  | cons a r ih =>
    cases i with
    | zero=>exact .refl _
    | succ i=>exact (List.Perm.swap a (r[i]'(Nat.lt_of_succ_lt_succ h)) _).trans ((ih (Nat.lt_of_succ_lt_succ h)).cons a)
theorem perm_lt {xs ls:List Nat} {n:Nat} (h:(xs++ls).Perm (List.range n)) {k:Nat} (hk:k∈ls):k < n:=List.mem_range.mp (h.mem_iff.mp (List.mem_append_right _ hk))
theorem drawn_at {home last:Int} {bs:List (Int×Int)} {cells:List Int} (hb:bs.length≤100) (hc:cells.length≤100) :
    ∃ ms,m__law_drawn [.int home,.int last,.lst (bs.map boxD),.lst (cells.map D.int)]=some (.fr (ms.map mvD))∧Part bs home last ms∧(nums ms).Perm (List.range bs.length)∧ms.length≤3*cells.length+2*bs.length+1:=by
  unfold m__law_drawn B__law_drawn
  have hr:bRng1 [.int (bs.length:Int)]=some (.fr ((List.range bs.length).map numD)):=by
    rw [rng1_ok ⟨by omega,by omega⟩]
    unfold rngZ
    rw [List.map_map,Int.toNat_natCast]
    congr 2
    apply List.map_congr_left
    intro k _
    show D.int (0+(k:Int))=D.int k
    rw [Int.zero_add]
  simp_arith -implicitDefEqProofs [hr,List.length_map]
  have app:∀ (ms ns:List Mv),ms.length≤1000→ns.length≤2→oAdd (.lst (ms.map mvD)) (.lst (ns.map mvD))=some (.fr ((ms++ns).map mvD)):=fun ms ns h1 h2=>by
    rw [List.map_append];exact oAdd_ll (by rw [List.length_map,List.length_map];omega)
  obtain ⟨ω',e,ms,here,ls,x7,x8,x9,rfl,h1,h2,h3⟩:=forD_map (g:=gN 7) (b:=L1__law_drawn) D.int cells
    (fun pre ω=>∃ (ms:List Mv) (here:Int) (ls:List Nat) (x7 x8 x9:Option W),ω=[some (.sh (.int home)),some (.sh (.int last)),some (.sh (.lst (bs.map boxD))),some (.sh (.lst (cells.map D.int))),some (.sh (.lst (ms.map mvD))),some (.sh (.int here)),some (.ow (ls.map numD)),x7,x8,x9]∧Part bs home here ms∧(nums ms++ls).Perm (List.range bs.length)∧ms.length≤3*pre.length)
    (fun pre c post ω hd ⟨ms,here,ls,x7,x8,x9,hω,i1,i2,i3⟩=>by
      subst hω
      refine ⟨_,rfl,?_⟩
      have hp:pre.length < cells.length:=by rw [hd,List.length_append,List.length_cons];omega
      have hl3:ms.length≤1000:=by omega
      have fin:∀ (ms':List Mv) (h' t':Int) (ls':List Nat) (y7 y8 y9:Option W),Part bs home h' ms'→(nums ms'++ls').Perm (List.range bs.length)→ms'.length≤3*pre.length+2 →
          ∃ (ms:List Mv) (here:Int) (ls:List Nat) (x7 x8 x9:Option W),[some (W.sh (D.int home)),some (.sh (.int last)),some (.sh (.lst (bs.map boxD))),some (.sh (.lst (cells.map D.int))),some (.sh (.lst ((ms'++goneL h' t').map mvD))),some (.sh (.int t')),some (.ow (ls'.map numD)),y7,y8,y9]=[some (W.sh (D.int home)),some (.sh (.int last)),some (.sh (.lst (bs.map boxD))),some (.sh (.lst (cells.map D.int))),some (.sh (.lst (ms.map mvD))),some (.sh (.int here)),some (.ow (ls.map numD)),x7,x8,x9]∧Part bs home here ms∧(nums ms++ls).Perm (List.range bs.length)∧ms.length≤3*(pre++[c]).length:=fun ms' h' t' ls' y7 y8 y9 a1 a2 a3=>by
        refine ⟨_,_,_,_,_,_,rfl,a1.app (gone_part bs h' t'),by rw [nums_app,gone_nums,List.append_nil];exact a2,?_⟩
        have:=gone_len h' t'
        rw [List.length_append,List.length_append,List.length_singleton];omega
      unfold L1__law_drawn
      by_cases q1:c % 2=0∧ls≠[]
      · obtain ⟨q1,q2⟩:=q1
        have hpos:0 < ls.length:=List.length_pos_iff.mpr q2
        have hmm:oMod (.int (c / 2)) (.int (ls.length:Int))=some (.sh (.int (c / 2 % (ls.length:Int)))):=oMod_ii (by omega)
        have k0:=Int.emod_nonneg (c / 2) (show (ls.length:Int)≠0 by omega)
        have k1:=Int.emod_lt_of_pos (c / 2) (show 0 < (ls.length:Int) by omega)
        have hne:(ls.map numD).isEmpty=false:=by cases ls;exact absurd rfl q2;rfl
        generalize hk:c / 2 % (ls.length:Int)=k at hmm k0 k1
        have hkl:k.toNat < ls.length:=by omega
        have hlen:=i2.length_eq
        rw [List.length_append,List.length_range] at hlen
        have hp':=fun ω=>pop_ok (i:=9) (j:=6) (ω:=ω) (k:=k) (ds:=ls.map numD) k0 (by rw [List.length_map];exact k1) (by rw [List.length_map];omega)
        simp only [List.getElem_map,map_erase,numD_def] at hp'
        have hin:ls[k.toNat] < bs.length:=perm_lt i2 (List.getElem_mem hkl)
        have pm:=perm_at hkl
        generalize ls[k.toNat]=j at hp' hin pm
        generalize ls.eraseIdx k.toNat=ls' at hp' pm
        have tp:=taken_part (here:=here) hin
        have tl:=taken_len bs here j
        have tn:=taken_nums bs here j
        simp_arith -implicitDefEqProofs [q1,oNe_nil (nums_shp ls),hne,hmm,List.length_map,hp',taken_at hin,app ms _ hl3 tl,at_box hin,gone_at,app _ _ (show (ms++takenL bs here j).length≤1000 by rw [List.length_append];omega) (Nat.le_trans (gone_len _ _) (by decide))]
        refine fin (ms++takenL bs here j) _ _ ls' _ _ _ (i1.app tp) ?_ (by rw [List.length_append];omega)
        rw [nums_app,tn,List.append_assoc]
        exact (pm.append_left (nums ms)).trans i2
      · have qf:(c % 2 == 0 && !(ls.map numD).isEmpty)=false:=by
          by_cases z:c % 2=0
          · have:ls=[]:=Classical.byContradiction fun y=>q1 ⟨z,y⟩
            rw [this];simp
          · have:(c % 2 == 0)=false:=by simpa using z
            rw [this];rfl
        simp_arith -implicitDefEqProofs [oNe_nil (nums_shp ls),oNe_nil (boxes_shp bs),qf]
        by_cases q3:c % 4=1∧bs≠[]
        · obtain ⟨q3,q4⟩:=q3
          have hpos:0 < bs.length:=List.length_pos_iff.mpr q4
          have hne:(bs.map boxD).isEmpty=false:=by cases bs;exact absurd rfl q4;rfl
          have hmm:oMod (.int (c / 8)) (.int (bs.length:Int))=some (.sh (.int (c / 8 % (bs.length:Int)))):=oMod_ii (by omega)
          have k0:=Int.emod_nonneg (c / 8) (show (bs.length:Int)≠0 by omega)
          have k1:=Int.emod_lt_of_pos (c / 8) (show 0 < (bs.length:Int) by omega)
          generalize c / 8 % (bs.length:Int)=k at hmm k0 k1
          have hkl:k.toNat < bs.length:=by omega
          have ab:=at_box hkl
          rw [show ((k.toNat:Nat):Int)=k by omega] at ab
          have h2:c / 4 % 2=0∨c / 4 % 2=1:=by omega
          rcases h2 with h2|h2
          · simp_arith -implicitDefEqProofs [q3,hne,hmm,List.length_map,ab,h2,gone_at,app ms _ hl3 (Nat.le_trans (gone_len _ _) (by decide))]
            exact fin ms _ _ ls _ _ _ i1 i2 (by omega)
          · simp_arith -implicitDefEqProofs [q3,hne,hmm,List.length_map,ab,h2,gone_at,app ms _ hl3 (Nat.le_trans (gone_len _ _) (by decide))]
            exact fin ms _ _ ls _ _ _ i1 i2 (by omega)
        · have qg:(c % 4 == 1 && !(bs.map boxD).isEmpty)=false:=by
            by_cases z:c % 4=1
            · have:bs=[]:=Classical.byContradiction fun y=>q3 ⟨z,y⟩
              rw [this];simp
            · have:(c % 4 == 1)=false:=by simpa using z
              rw [this];rfl
          by_cases q5:c % 4=3
          · simp_arith -implicitDefEqProofs [qg,q5,place_at,gone_at,app ms _ hl3 (Nat.le_trans (gone_len _ _) (by decide))]
            exact fin ms _ _ ls _ _ _ i1 i2 (by omega)
          · have q5':(c % 4 == 3)=false:=by simpa using q5
            simp_arith -implicitDefEqProofs [qg,q5',gone_at,app ms _ hl3 (Nat.le_trans (gone_len _ _) (by decide))]
            exact fin ms _ _ ls _ _ _ i1 i2 (by omega))
    ⟨[],home,List.range bs.length,none,none,none,rfl,⟨rfl,fun m hm=>nomatch hm⟩,.refl _,Nat.le_refl _⟩
  simp only [List.map_nil] at e
  simp_arith -implicitDefEqProofs [e]
  have hlen:=h2.length_eq
  rw [List.length_append,List.length_range] at hlen
  obtain ⟨ω',e,ms',here',x7,x8,x9,rfl,g1,g2,g3⟩:=forD_map (g:=gN 9) (b:=L2__law_drawn) numD ls
    (fun pre ω=>∃ (ms':List Mv) (here':Int) (x7 x8 x9:Option W),ω=[some (.sh (.int home)),some (.sh (.int last)),some (.sh (.lst (bs.map boxD))),some (.sh (.lst (cells.map D.int))),some (.sh (.lst (ms'.map mvD))),some (.sh (.int here')),some (.sh (.lst (ls.map numD))),x7,x8,x9]∧Part bs home here' ms'∧nums ms'=nums ms++pre∧ms'.length≤3*cells.length+2*pre.length)
    (fun pre k post ω hd ⟨ms',here',x7,x8,x9,hω,i1,i2,i3⟩=>by
      subst hω
      refine ⟨_,rfl,?_⟩
      have hp:pre.length < ls.length:=by rw [hd,List.length_append,List.length_cons];omega
      have hin:k < bs.length:=perm_lt h2 (by rw [hd];simp)
      have tl:=taken_len bs here' k
      unfold L2__law_drawn
      simp_arith -implicitDefEqProofs [numD_def,taken_at hin,app ms' _ (show ms'.length≤1000 by omega) tl,at_box hin]
      exact ⟨_,_,_,_,_,rfl,i1.app (taken_part hin),by rw [nums_app,taken_nums,i2,List.append_assoc],by rw [List.length_append,List.length_append,List.length_singleton];omega⟩)
    ⟨ms,here,x7,x8,x9,rfl,h1,by rw [List.append_nil],by rw [List.length_nil];omega⟩
  have gl:=gone_len here' last
  simp_arith -implicitDefEqProofs [e,gone_at,app ms' _ (show ms'.length≤1000 by omega) (Nat.le_trans (gone_len here' last) (by decide))]
  exact ⟨_,rfl,g1.app (gone_part bs here' last),by rw [nums_app,gone_nums,List.append_nil,g2];exact h2,by rw [List.length_append];omega⟩
theorem compD_relA {α:Type} {g:FG} {c:FT} {f:FD} (P:WSt→Prop) (q:α→Bool) (B F:α→D):∀ (xs:List α) {ω:WSt},P ω →
    (∀ x∈xs,∀ ω,P ω→∃ w,g (B x) ω=some w∧P w∧c w=some (q x)∧(q x=true→f w=some (F x)))→compD g c f (xs.map B) ω=some ((xs.filter q).map F)
  | [],_,_,_=>rfl
  | x::xs,ω,h,t=>by
    obtain ⟨w,h1,h2,h3,h4⟩:=t x List.mem_cons_self ω h
    have ih:=compD_relA P q B F xs h2 (fun e he=>t e (List.mem_cons_of_mem _ he))
    rw [List.map_cons,compD,h1,Option.bind_some,h3,Option.bind_some]
    cases hq:q x with
    | true=>rw [if_pos rfl,h4 hq,Option.bind_some,ih,List.filter_cons_of_pos hq];rfl
    | false=>rw [if_neg (by decide),ih,List.filter_cons_of_neg (by rw [hq];decide)]
theorem compD_filA {α:Type} {i:Nat} {c:FT} {f:FD} (q:α→Bool) (B F:α→D) (xs:List α) {ω:WSt} (h:∀ x∈xs,c (ω.set i (some (.sh (B x))))=some (q x)∧(q x=true→f (ω.set i (some (.sh (B x))))=some (F x))):compD (gN i) c f (xs.map B) ω=some ((xs.filter q).map F) :=
  compD_relA (g:=gN i) (c:=c) (f:=f) (fun w=>∀ x,w.set i x=ω.set i x) q B F xs (ω:=ω) (fun x=>rfl) fun d hd w hw =>
    ⟨w.set i (some (.sh (B d))),rfl,fun x=>by rw [List.set_set,hw],by rw [hw];exact (h d hd).1,fun z=>by rw [hw];exact (h d hd).2 z⟩
theorem compD_mapA {α:Type} {i:Nat} {f:FD} (B F:α→D) (xs:List α) {ω:WSt} (h:∀ x∈xs,f (ω.set i (some (.sh (B x))))=some (F x)):compD (gN i) tTrue f (xs.map B) ω=some (xs.map F):=by
  have:=compD_filA (c:=tTrue) (i:=i) (f:=f) (fun _=>true) B F xs (ω:=ω) fun x hx=>⟨rfl,fun _=>h x hx⟩
  rw [this,List.filter_eq_self.mpr (fun _ _=>rfl)]
theorem sumI_a {α:Type} (f:α→Int):∀ bs:List α,sumI (bs.map fun p=>D.int (f p))=some (bs.map f).sum
  | []=>rfl
  | b::r=>by
    show (sumI (r.map fun p=>D.int (f p))).map _=_
    rw [sumI_a f r];rfl
theorem bSum_a {α:Type} (f:α→Int) (bs:List α):bSum [.lst (bs.map fun p=>D.int (f p))]=some (.sh (.int (bs.map f).sum)):=by
  show (sumI _).map _=_
  rw [sumI_a];rfl
theorem bAll_a {α:Type} (q:α→Bool):∀ bs:List α,allB (bs.map fun p=>D.bl (q p))=some (bs.all q)
  | []=>rfl
  | b::r=>by
    show (allB (r.map fun p=>D.bl (q p))).map _=_
    rw [bAll_a q r];rfl
structure Lev (P:List Int) (kn:List (Int×Int)) (r:Int×List (List Int)):Prop where
  ne:∀ g∈r.2,g≠[]
  pm:r.2.flatten.Perm P
  tie:∀ e∈kn++(gapsL P).filter (fun q=>decide (q.2 - q.1 < r.1)),∃ g∈r.2,e.1∈g∧e.2∈g
noncomputable def wgh (a:Int):List (Int×List (List Int))→Int
  | []=>0
  | r::rs=>(r.1 - a)*((r.2.length:Int) - 1)+wgh r.1 rs
def risF (a:Int):List (Int×List (List Int))→Prop
  | []=>True
  | r::rs=>a < r.1∧risF r.1 rs
structure Gap (h l:Int) (bs:List (Int×Int)) (g:Int×Int):Prop where
  lt:g.1 < g.2
  h:h≤g.1∨g.2≤h
  l:l≤g.1∨g.2≤l
  b:∀ b∈bs,(b.1≤g.1∨g.2≤b.1)∧(b.2≤g.1∨g.2≤b.2)
noncomputable def absI (c:Int):Int:=if c < 0 then -c else c
noncomputable def su (f:Int→Int) (a:Int):Nat→Int
  | 0=>0
  | n+1=>su f a n+f (a+n+1)
theorem su_leB {f f':Int→Int} {a:Int}:∀ {n:Nat},(∀ x,a < x→x≤a+n→f x≤f' x)→su f a n≤su f' a n
  | 0,_=>Int.le_refl _
  | n+1,h=>by
    show su f a n+f (a+n+1)≤su f' a n+f' (a+n+1)
    exact Int.add_le_add (su_leB fun x h1 h2=>h x h1 (by omega)) (h _ (by omega) (by omega))
theorem su_const {f:Int→Int} {a c:Int}:∀ {n:Nat},(∀ x,a < x→x≤a+n→f x=c)→su f a n=c*n
  | 0,_=>by rw [su];simp
  | n+1,h=>by
    show su f a n+f (a+n+1)=c*((n+1:Nat):Int)
    rw [su_const (f:=f) (n:=n) fun x h1 h2=>h x h1 (by omega),h _ (by omega) (by omega),Int.natCast_add,Int.mul_add]
    simp
theorem su_add (f:Int→Int) (a:Int) (m:Nat):∀ n:Nat,su f a (m+n)=su f a m+su f (a+m) n
  | 0=>by simp [su]
  | n+1=>by
    show su f a (m+n)+f (a+(m+n:Nat)+1)=su f a m+(su f (a+m) n+f (a+m+n+1))
    rw [su_add f a m n,show a+((m+n:Nat):Int)+1=a+m+n+1 by omega,Int.add_assoc]
theorem su_two (f f':Int→Int) (a:Int):∀ n:Nat,su (fun x=>f x+f' x) a n=su f a n+su f' a n
  | 0=>rfl
  | n+1=>by
    show su (fun x=>f x+f' x) a n+(f (a+n+1)+f' (a+n+1))=su f a n+f (a+n+1)+(su f' a n+f' (a+n+1))
    rw [su_two f f' a n];omega
theorem su_list {α:Type} (f:α→Int→Int) (a:Int) (n:Nat):∀ ms:List α,su (fun x=>(ms.map fun m=>f m x).sum) a n=(ms.map fun m=>su (f m) a n).sum
  | []=>by
    have:=su_const (f:=fun _=>(0:Int)) (a:=a) (c:=0) (n:=n) fun _ _ _=>rfl
    simp at this
    exact this
  | m::ms=>by
    have e:=su_two (f m) (fun x=>(ms.map fun m=>f m x).sum) a n
    rw [su_list f a n ms] at e
    rw [List.map_cons,List.sum_cons,←e]
    rfl
noncomputable def xR (x p q:Int):Int:=if p < x∧x≤q then 1 else 0
noncomputable def xA (x p q:Int):Int:=xR x p q+xR x q p
noncomputable def chi (x y:Int):Int:=if x≤y then 1 else 0
theorem xR_nn (x p q:Int):0≤xR x p q:=by unfold xR;split <;> omega
theorem xS_chi (x p q:Int):xR x p q - xR x q p=chi x q - chi x p:=by
  unfold xR chi
  by_cases h1:x≤p <;> by_cases h2:x≤q
  · rw [if_neg (by omega),if_neg (by omega),if_pos h2,if_pos h1];rfl
  · rw [if_neg (by omega),if_pos (by omega),if_neg h2,if_pos h1]
  · rw [if_pos (by omega),if_neg (by omega),if_pos h2,if_neg h1]
  · rw [if_neg (by omega),if_neg (by omega),if_neg h2,if_neg h1]
theorem su_xR {p q:Int} (h:p≤q) (a:Int):∀ n:Nat,su (fun x=>xR x p q) a n≤(if q≤a then 0 else if p≥a+n then 0 else (if q≤a+n then q else a+n) - (if p≤a then a else p))
  | 0=>by show (0:Int)≤_;split;omega;split;omega;split <;> split <;> omega
  | n+1=>by
    have ih:=su_xR h a n
    show su (fun x=>xR x p q) a n+xR (a+n+1) p q≤_
    unfold xR at ih ⊢
    by_cases h1:p < a+n+1∧a+n+1≤q
    · rw [if_pos h1]
      rw [if_neg (by omega:¬q≤a),if_neg (by omega:¬p≥a+((n+1:Nat):Int))]
      rw [if_neg (by omega:¬q≤a)] at ih
      by_cases h2:p≥a+n
      · rw [if_pos h2] at ih
        split <;> split <;> omega
      · rw [if_neg h2] at ih
        rw [if_neg (by omega:¬q≤a+n)] at ih
        split <;> split <;> split at ih <;> omega
    · rw [if_neg h1]
      by_cases h3:q≤a
      · rw [if_pos h3] at ih ⊢;omega
      · rw [if_neg h3] at ih ⊢
        by_cases h4:p≥a+n
        · rw [if_pos h4] at ih
          split
          · omega
          · split <;> split <;> omega
        · rw [if_neg h4] at ih
          rw [if_neg (by omega:¬p≥a+((n+1:Nat):Int))]
          split at ih <;> split at ih <;> split <;> omega
theorem su_xR0 {p q:Int} (h:p≤q) (a:Int) (n:Nat):su (fun x=>xR x p q) a n≤q - p:=by
  have:=su_xR h a n
  split at this
  · omega
  · split at this
    · omega
    · split at this <;> split at this <;> omega
theorem su_xA (p q a:Int) (n:Nat):su (fun x=>xA x p q) a n≤if q - p < 0 then -(q - p) else q - p:=by
  have e:su (fun x=>xA x p q) a n=su (fun x=>xR x p q) a n+su (fun x=>xR x q p) a n:=su_two _ _ a n
  have z:∀ {p q:Int},p≤q→su (fun x=>xR x q p) a n=0:=fun {p q} h=>by
    rw [su_const (f:=fun x=>xR x q p) (c:=0) fun x _ _=>if_neg (by omega)];simp
  rcases Int.le_total p q with h|h
  · rw [if_neg (by omega),e,z h]
    have:=su_xR0 h a n;omega
  · rw [e,z h]
    have:=su_xR0 h a n
    split <;> omega
noncomputable def goF (F:Int→Int→Int):Mv→Int
  | .go p q=>F p q
  | .box _ _ _=>0
noncomputable def bxF (F:Int→Int→Int):Mv→Int
  | .go _ _=>0
  | .box _ p q=>F p q
theorem sum_split (F:Int→Int→Int):∀ ms:List Mv,(ms.map fun m=>F m.frm m.to).sum=(ms.map (goF F)).sum+(ms.map (bxF F)).sum
  | []=>rfl
  | m::ms=>by
    rw [List.map_cons,List.map_cons,List.map_cons,List.sum_cons,List.sum_cons,List.sum_cons,sum_split F ms]
    cases m <;> simp only [goF,bxF,Mv.frm,Mv.to] <;> omega
theorem sum_perm {l m:List Int} (h:l.Perm m):l.sum=m.sum:=by
  induction h with
  | nil=>rfl
  | cons x _ ih=>rw [List.sum_cons,List.sum_cons,ih]
  | swap x y l=>rw [List.sum_cons,List.sum_cons,List.sum_cons,List.sum_cons];omega
  | trans _ _ h1 h2=>rw [h1,h2]
theorem bx_sum {bs:List (Int×Int)} (F:Int→Int→Int):∀ ms:List Mv,(∀ m∈ms,m.good bs)→(ms.map (bxF F)).sum=((nums ms).map fun k=>F (bs.getD k (0,0)).1 (bs.getD k (0,0)).2).sum
  | [],_=>rfl
  | m::ms,h=>by
    have ih:=bx_sum F ms fun m hm=>h m (List.mem_cons_of_mem _ hm)
    have hm:=h m List.mem_cons_self
    rw [List.map_cons,List.sum_cons,ih]
    show _=((Mv.num m++nums ms).map _).sum
    rw [List.map_append,List.sum_append]
    cases m with
    | go p q=>rfl
    | box k p q =>
      have e:bs.getD k (0,0)=(p,q):=by rw [List.getD_eq_getElem?_getD,show bs[k]?=some (p,q) from hm];rfl
      simp only [bxF,Mv.num,List.map_cons,List.map_nil,List.sum_cons,List.sum_nil,e];omega
theorem range_get {α:Type} (d:α):∀ bs:List α,(List.range bs.length).map (fun k=>bs.getD k d)=bs:=fun bs=>by
  apply List.ext_getElem
  · rw [List.length_map,List.length_range]
  · intro i h1 h2
    rw [List.getElem_map,List.getElem_range,List.getD_eq_getElem?_getD,List.getElem?_eq_getElem h2];rfl
theorem bx_all {bs:List (Int×Int)} (F:Int→Int→Int) {ms:List Mv} (h:∀ m∈ms,m.good bs) (hp:(nums ms).Perm (List.range bs.length)):(ms.map (bxF F)).sum=(bs.map fun b=>F b.1 b.2).sum:=by
  rw [bx_sum F ms h,sum_perm (hp.map _)]
  have:=congrArg (List.map fun b:Int×Int=>F b.1 b.2) (range_get (0,0) bs)
  rw [List.map_map] at this
  rw [←this]
  rfl
theorem tele (x:Int):∀ (ms:List Mv) (h l:Int),ends h ms=some l→(ms.map fun m=>xR x m.frm m.to - xR x m.to m.frm).sum=chi x l - chi x h
  | [],h,l,e=>by cases e;show (0:Int)=_;omega
  | m::ms,h,l,e=>by
    have e':(if m.frm=h then ends m.to ms else none)=some l:=e
    by_cases z:m.frm=h
    · rw [if_pos z] at e'
      rw [List.map_cons,List.sum_cons,tele x ms _ _ e',xS_chi,z];omega
    · rw [if_neg z] at e';cases e'
noncomputable def eR (x:Int) (ms:List Mv):Int:=(ms.map (goF fun p q=>xR x p q)).sum
noncomputable def eL (x:Int) (ms:List Mv):Int:=(ms.map (goF fun p q=>xR x q p)).sum
theorem goF_nn {F:Int→Int→Int} (h:∀ p q,0≤F p q):∀ ms:List Mv,0≤(ms.map (goF F)).sum
  | []=>Int.le_refl _
  | m::ms=>by
    rw [List.map_cons,List.sum_cons]
    have:=goF_nn h ms
    have:0≤goF F m:=by cases m with|go p q=>exact h p q|box=>exact Int.le_refl _
    omega
theorem goF_zero {F:Int→Int→Int} (h:∀ p q,0≤F p q):∀ ms:List Mv,(ms.map (goF F)).sum=0→∀ p q,Mv.go p q∈ms→F p q=0
  | [],_,p,q,hm=>by cases hm
  | m::ms,e,p,q,hm=>by
    rw [List.map_cons,List.sum_cons] at e
    have h1:=goF_nn h ms
    have h2:0≤goF F m:=by cases m with|go p q=>exact h p q|box=>exact Int.le_refl _
    rcases List.mem_cons.mp hm with rfl|hm
    · have:goF F (.go p q)=F p q:=rfl
      have:=h p q;omega
    · exact goF_zero h ms (by omega) p q hm
theorem xR_over {g:Int×Int} {x p q:Int} (hp:p≤g.1∨g.2≤p) (hq:q≤g.1∨g.2≤q) (h1:g.1 < x) (h2:x≤g.2):xR x p q=if over p q g=true then 1 else 0:=by
  unfold xR over
  by_cases z1:p≤g.1 <;> by_cases z2:g.2≤q
  · rw [if_pos (by omega),if_pos (by rw [decide_eq_true z1,decide_eq_true z2];rfl)]
  · rw [if_neg (by omega),if_neg (by rw [decide_eq_false z2];simp)]
  · rw [if_neg (by omega),if_neg (by rw [decide_eq_false z1];simp)]
  · rw [if_neg (by omega),if_neg (by rw [decide_eq_false z1];simp)]
theorem cnt_sum (F:Int×Int→Bool):∀ bs:List (Int×Int),(bs.map fun b=>if F b=true then (1:Int) else 0).sum=((bs.filter F).length:Nat)
  | []=>rfl
  | b::bs=>by
    rw [List.map_cons,List.sum_cons,cnt_sum F bs,List.filter_cons]
    split <;> simp <;> omega
theorem rts_x {h l:Int} {bs:List (Int×Int)} {g:Int×Int} (G:Gap h l bs g) {x:Int} (h1:g.1 < x) (h2:x≤g.2):(bs.map fun b=>xR x b.1 b.2).sum=rts bs g∧(bs.map fun b=>xR x b.2 b.1).sum=lfs bs g:=by
  unfold rts lfs
  rw [←cnt_sum,←cnt_sum]
  exact ⟨congrArg _ (List.map_congr_left fun b hb=>xR_over (G.b b hb).1 (G.b b hb).2 h1 h2),congrArg _ (List.map_congr_left fun b hb=>xR_over (G.b b hb).2 (G.b b hb).1 h1 h2)⟩
theorem lack_x {h l:Int} {bs:List (Int×Int)} {g:Int×Int} {ms:List Mv} (G:Gap h l bs g) (hm:Part bs h l ms) (hp:(nums ms).Perm (List.range bs.length)) {x:Int} (h1:g.1 < x) (h2:x≤g.2) :
    eR x ms - eL x ms=lackI h l bs g:=by
  have t:=tele x ms h l hm.e
  have s1:=sum_split (fun p q=>xR x p q) ms
  have s2:=sum_split (fun p q=>xR x q p) ms
  rw [bx_all _ hm.g hp] at s1 s2
  obtain ⟨r1,r2⟩:=rts_x G h1 h2
  have e:∀ ms:List Mv,(ms.map fun m=>xR x m.frm m.to - xR x m.to m.frm).sum=(ms.map fun m=>xR x m.frm m.to).sum - (ms.map fun m=>xR x m.to m.frm).sum:=fun ms=>by
    induction ms with
    | nil=>rfl
    | cons m ms ih=>rw [List.map_cons,List.map_cons,List.map_cons,List.sum_cons,List.sum_cons,List.sum_cons,ih];omega
  have o:rts [(h,l)] g - lfs [(h,l)] g=chi x l - chi x h:=by
    rw [←xS_chi,xR_over G.h G.l h1 h2,xR_over G.l G.h h1 h2]
    unfold rts lfs
    rw [←cnt_sum,←cnt_sum]
    simp
  unfold eR eL lackI
  rw [e] at t
  omega
theorem abs_le' {a b c:Int} (h:a - b=c) (ha:0≤a) (hb:0≤b):(if c < 0 then -c else c)≤a+b:=by split <;> omega
def walked (h l:Int) (bs:List (Int×Int)) (ms:List Mv) (g:Int×Int):Prop:=lackI h l bs g=0∧∀ x,g.1 < x→x≤g.2→eR x ms+eL x ms≠0
open Classical in
theorem gap_le {h l:Int} {bs:List (Int×Int)} {g:Int×Int} {ms:List Mv} (G:Gap h l bs g) (hm:Part bs h l ms) (hp:(nums ms).Perm (List.range bs.length)) :
    (g.2 - g.1)*(rts bs g+lfs bs g+absI (lackI h l bs g))+(if walked h l bs ms g then 2*(g.2 - g.1) else 0)≤su (fun x=>(ms.map fun m=>xA x m.frm m.to).sum) g.1 (g.2 - g.1).toNat:=by
  have hn:((g.2 - g.1).toNat:Int)=g.2 - g.1:=by have:=G.lt;omega
  have key:∀ c:Int,(∀ x,g.1 < x→x≤g.2→c≤(ms.map fun m=>xA x m.frm m.to).sum)→(g.2 - g.1)*c≤su (fun x=>(ms.map fun m=>xA x m.frm m.to).sum) g.1 (g.2 - g.1).toNat:=fun c hc=>by
    have e:=su_const (f:=fun _=>c) (a:=g.1) (c:=c) (n:=(g.2 - g.1).toNat) fun _ _ _=>rfl
    rw [hn,Int.mul_comm] at e
    rw [←e]
    exact su_leB fun x h1 h2=>hc x h1 (by omega)
  have tot:∀ x,g.1 < x→x≤g.2→(ms.map fun m=>xA x m.frm m.to).sum=eR x ms+eL x ms+rts bs g+lfs bs g:=fun x h1 h2=>by
    have s1:=sum_split (fun p q=>xA x p q) ms
    rw [bx_all _ hm.g hp] at s1
    obtain ⟨r1,r2⟩:=rts_x G h1 h2
    have e:∀ ms:List Mv,(ms.map (goF fun p q=>xA x p q)).sum=eR x ms+eL x ms:=fun ms=>by
      unfold eR eL
      induction ms with
      | nil=>rfl
      | cons m ms ih =>
        rw [List.map_cons,List.map_cons,List.map_cons,List.sum_cons,List.sum_cons,List.sum_cons,ih]
        cases m <;> simp only [goF,xA] <;> omega
    have e2:∀ bs:List (Int×Int),(bs.map fun b=>xA x b.1 b.2).sum=(bs.map fun b=>xR x b.1 b.2).sum+(bs.map fun b=>xR x b.2 b.1).sum:=fun bs=>by
      induction bs with
      | nil=>rfl
      | cons b bs ih=>rw [List.map_cons,List.map_cons,List.map_cons,List.sum_cons,List.sum_cons,List.sum_cons,ih];unfold xA;omega
    rw [e,e2,r1,r2] at s1
    omega
  have nR:∀ x,0≤eR x ms:=fun x=>goF_nn (fun _ _=>xR_nn _ _ _) ms
  have nL:∀ x,0≤eL x ms:=fun x=>goF_nn (fun _ _=>xR_nn _ _ _) ms
  by_cases w:walked h l bs ms g
  · rw [if_pos w]
    have z:absI (lackI h l bs g)=0:=by rw [w.1];rfl
    have k:=key (rts bs g+lfs bs g+2) fun x h1 h2=>by
      rw [tot x h1 h2]
      have:=lack_x G hm hp h1 h2
      have:=w.1
      have:=w.2 x h1 h2
      have:=nR x
      have:=nL x
      omega
    rw [z,Int.add_zero,Int.mul_comm 2,←Int.mul_add]
    exact k
  · rw [if_neg w,Int.add_zero]
    refine key _ fun x h1 h2=>?_
    rw [tot x h1 h2]
    have:=abs_le' (lack_x G hm hp h1 h2) (nR x) (nL x)
    unfold absI
    omega
theorem gaps_cons (a b:Int) (r:List Int):gapsL (a::b::r)=(a,b)::gapsL (b::r):=rfl
theorem su_gaps (f:Int→Int):∀ (r:List Int) (k:Int),(k::r).Pairwise (· < ·)→∃ N:Nat,su f k N=((gapsL (k::r)).map fun g=>su f g.1 (g.2 - g.1).toNat).sum
  | [],k,_=>⟨0,rfl⟩
  | k1::r,k,hp=>by
    have hk:k < k1:=(List.pairwise_cons.mp hp).1 k1 List.mem_cons_self
    obtain ⟨N,e⟩:=su_gaps f r k1 (List.pairwise_cons.mp hp).2
    refine ⟨(k1 - k).toNat+N,?_⟩
    rw [su_add,gaps_cons,List.map_cons,List.sum_cons,←e,show k+(((k1 - k).toNat:Nat):Int)=k1 by omega]
theorem sum_le {α:Type} {f f':α→Int}:∀ {xs:List α},(∀ x∈xs,f x≤f' x)→(xs.map f).sum≤(xs.map f').sum
  | [],_=>Int.le_refl _
  | x::xs,h=>by
    rw [List.map_cons,List.map_cons,List.sum_cons,List.sum_cons]
    have:=sum_le (xs:=xs) fun y hy=>h y (List.mem_cons_of_mem _ hy)
    have:=h x List.mem_cons_self
    omega
noncomputable def wayI (m:Mv):Int:=if m.to - m.frm < 0 then -(m.to - m.frm) else m.to - m.frm
open Classical in
theorem way_ge {h l:Int} {bs:List (Int×Int)} {P:List Int} {ms:List Mv} (hP:P.Pairwise (· < ·)) (hne:P≠[]) (G:∀ g∈gapsL P,Gap h l bs g) (hm:Part bs h l ms) (hp:(nums ms).Perm (List.range bs.length)) :
    ((gapsL P).map fun g=>(g.2 - g.1)*(rts bs g+lfs bs g+absI (lackI h l bs g))).sum+((gapsL P).map fun g=>if walked h l bs ms g then 2*(g.2 - g.1) else 0).sum≤(ms.map wayI).sum:=by
  cases P with
  | nil=>exact absurd rfl hne
  | cons k r =>
    obtain ⟨N,e⟩:=su_gaps (fun x=>(ms.map fun m=>xA x m.frm m.to).sum) r k hP
    have e2:=su_list (fun (m:Mv) x=>xA x m.frm m.to) k N ms
    have h1:(ms.map fun m=>su (fun x=>xA x m.frm m.to) k N).sum≤(ms.map wayI).sum:=sum_le fun m _=>su_xA _ _ _ _
    have h2:=sum_le (xs:=gapsL (k::r)) fun g hg=>gap_le (ms:=ms) (G g hg) hm hp
    have e3:∀ (f f':Int×Int→Int) (xs:List (Int×Int)),(xs.map fun g=>f g+f' g).sum=(xs.map f).sum+(xs.map f').sum:=fun f f' xs=>by
      induction xs with
      | nil=>rfl
      | cons x xs ih=>rw [List.map_cons,List.map_cons,List.map_cons,List.sum_cons,List.sum_cons,List.sum_cons,ih];omega
    rw [e3] at h2
    omega
noncomputable def lab (f:Int→Nat) (X:Int×Int→Int):List Int→Int→Nat
  | [],_=>0
  | [k],_=>f k
  | k::k1::r,y=>if y < X (k,k1) then f k else lab f X (k1::r) y
theorem lab_low {f:Int→Nat} {X:Int×Int→Int}:∀ {r:List Int} {k y:Int},(∀ g∈gapsL (k::r),g.1 < X g∧X g≤g.2)→y≤k→lab f X (k::r) y=f k
  | [],k,y,_,_=>rfl
  | k1::r,k,y,hX,h=>by
    have:=(hX (k,k1) (by rw [gaps_cons];exact List.mem_cons_self)).1
    show (if y < X (k,k1) then f k else _)=f k
    rw [if_pos (show y < X (k,k1) by simp only at this;omega)]
theorem lab_stop {f:Int→Nat} {X:Int×Int→Int}:∀ {r:List Int} {k:Int},(k::r).Pairwise (· < ·)→(∀ g∈gapsL (k::r),g.1 < X g∧X g≤g.2)→∀ p∈k::r,lab f X (k::r) p=f p
  | r,k,hp,hX,p,hm=>by
    rcases List.mem_cons.mp hm with rfl|hm
    · exact lab_low hX (Int.le_refl _)
    · cases r with
      | nil=>cases hm
      | cons k1 r =>
        have hx:=(hX (k,k1) (by rw [gaps_cons];exact List.mem_cons_self)).2
        have hk:k1≤p:=by
          rcases List.mem_cons.mp hm with rfl|hm
          · exact Int.le_refl _
          · exact Int.le_of_lt ((List.pairwise_cons.mp (List.pairwise_cons.mp hp).2).1 p hm)
        show (if p < X (k,k1) then f k else lab f X (k1::r) p)=f p
        rw [if_neg (show ¬p < X (k,k1) by simp only at hx;omega)]
        exact lab_stop (List.pairwise_cons.mp hp).2 (fun g hg=>hX g (by rw [gaps_cons];exact List.mem_cons_of_mem _ hg)) p hm
theorem lab_go {f:Int→Nat} {X:Int×Int→Int}:∀ {r:List Int} {k:Int},(∀ g∈gapsL (k::r),g.1 < X g∧X g≤g.2)→∀ {p q:Int},p≤q→(∀ g∈gapsL (k::r),p < X g→X g≤q→f g.1=f g.2)→lab f X (k::r) p=lab f X (k::r) q
  | [],k,_,p,q,_,_=>rfl
  | k1::r,k,hX,p,q,h,hf=>by
    have g0:(k,k1)∈gapsL (k::k1::r):=by rw [gaps_cons];exact List.mem_cons_self
    have hx:=hX _ g0
    have hX':∀ g∈gapsL (k1::r),g.1 < X g∧X g≤g.2:=fun g hg=>hX g (by rw [gaps_cons];exact List.mem_cons_of_mem _ hg)
    have ih:=lab_go hX' h (fun g hg=>hf g (by rw [gaps_cons];exact List.mem_cons_of_mem _ hg))
    show (if p < X (k,k1) then f k else lab f X (k1::r) p)=if q < X (k,k1) then f k else lab f X (k1::r) q
    by_cases h1:p < X (k,k1)
    · rw [if_pos h1]
      by_cases h2:q < X (k,k1)
      · rw [if_pos h2]
      · rw [if_neg h2,←ih,lab_low hX' (by simp only at hx;omega)]
        exact hf _ g0 h1 (by omega)
    · rw [if_neg h1,if_neg (by omega),ih]
theorem lab_walk {f:Int→Nat} {X:Int×Int→Int} {r:List Int} {k:Int} {bs:List (Int×Int)} (hP:(k::r).Pairwise (· < ·)) (hX:∀ g∈gapsL (k::r),g.1 < X g∧X g≤g.2)
    (hb:∀ b∈bs,b.1∈k::r∧b.2∈k::r∧f b.1=f b.2):∀ (ms:List Mv) (y l:Int),ends y ms=some l→(∀ m∈ms,m.good bs) →
    (∀ p q,Mv.go p q∈ms→∀ g∈gapsL (k::r),((p < X g∧X g≤q)∨(q < X g∧X g≤p))→f g.1=f g.2)→∀ m∈ms,lab f X (k::r) m.frm=lab f X (k::r) y
  | [],_,_,_,_,_,m,hm=>by cases hm
  | m::ms,y,l,e,hg,hc,m',hm'=>by
    have e':(if m.frm=y then ends m.to ms else none)=some l:=e
    by_cases z:m.frm=y
    · rw [if_pos z] at e'
      rcases List.mem_cons.mp hm' with rfl|hm'
      · rw [z]
      · rw [lab_walk hP hX hb ms m.to l e' (fun m hm=>hg m (List.mem_cons_of_mem _ hm)) (fun p q hpq=>hc p q (List.mem_cons_of_mem _ hpq)) m' hm',←z]
        have gm:=hg m List.mem_cons_self
        have cm:=hc
        cases m with
        | go p q =>
          show lab f X (k::r) q=lab f X (k::r) p
          rcases Int.le_total p q with h|h
          · exact (lab_go hX h fun g hg h1 h2=>hc p q List.mem_cons_self g hg (.inl ⟨h1,h2⟩)).symm
          · exact lab_go hX h fun g hg h1 h2=>hc p q List.mem_cons_self g hg (.inr ⟨h1,h2⟩)
        | box j p q =>
          have hm:(p,q)∈bs:=List.mem_of_getElem? (show bs[j]?=some (p,q) from gm)
          obtain ⟨b1,b2,b3⟩:=hb _ hm
          show lab f X (k::r) q=lab f X (k::r) p
          rw [lab_stop hP hX q b2,lab_stop hP hX p b1]
          exact b3.symm
    · rw [if_neg z] at e';cases e'
theorem carried {bs:List (Int×Int)} {ms:List Mv} (hg:∀ m∈ms,m.good bs) (hp:(nums ms).Perm (List.range bs.length)) {b:Int×Int} (hb:b∈bs):∃ m∈ms,m.frm=b.1:=by
  obtain ⟨k,hk,rfl⟩:=List.mem_iff_getElem.mp hb
  have:k∈nums ms:=hp.mem_iff.mpr (List.mem_range.mpr hk)
  unfold nums at this
  obtain ⟨m,hm,hn⟩:=List.mem_flatMap.mp this
  refine ⟨m,hm,?_⟩
  have gm:=hg m hm
  cases m with
  | go p q=>cases hn
  | box j p q =>
    cases List.mem_singleton.mp hn
    rw [show bs[k]=(p,q) from Option.some.inj (by rw [←List.getElem?_eq_getElem hk];exact gm)]
    rfl
theorem one_lab {f:Int→Nat} {P:List Int} {h l:Int} {bs:List (Int×Int)} {ms:List Mv} (hP:P.Pairwise (· < ·)) (hm:Part bs h l ms) (hp:(nums ms).Perm (List.range bs.length))
    (mem:∀ p,p∈P↔p=h∨p=l∨∃ b∈bs,p=b.1∨p=b.2) (hb:∀ b∈bs,f b.1=f b.2) (hl:f h=f l)
    (hg:∀ g∈gapsL P,g.1 < g.2∧(f g.1=f g.2∨∃ x,g.1 < x∧x≤g.2∧eR x ms+eL x ms=0)):∀ p∈P,f p=f h:=by
  cases P with
  | nil=>intro p hp;cases hp
  | cons k r =>
    have ex:∀ g:Int×Int,∃ x,g∈gapsL (k::r)→(g.1 < x∧x≤g.2)∧(f g.1=f g.2∨eR x ms+eL x ms=0):=fun g=>by
      by_cases z:g∈gapsL (k::r)
      · obtain ⟨h1,h2|⟨x,h3,h4,h5⟩⟩:=hg g z
        · exact ⟨g.2,fun _=>⟨⟨h1,Int.le_refl _⟩,.inl h2⟩⟩
        · exact ⟨x,fun _=>⟨⟨h3,h4⟩,.inr h5⟩⟩
      · exact ⟨0,fun h=>absurd h z⟩
    let X:=fun g=>Classical.choose (ex g)
    have hX:∀ g∈gapsL (k::r),(g.1 < X g∧X g≤g.2)∧(f g.1=f g.2∨eR (X g) ms+eL (X g) ms=0):=fun g hg=>Classical.choose_spec (ex g) hg
    have hX':=fun g hg=>(hX g hg).1
    have w:=lab_walk (f:=f) hP hX' (bs:=bs) (fun b hbm=>⟨(mem _).mpr (.inr (.inr ⟨b,hbm,.inl rfl⟩)),(mem _).mpr (.inr (.inr ⟨b,hbm,.inr rfl⟩)),hb b hbm⟩) ms h l hm.e hm.g (fun p q hpq g hgm hc=>by
      rcases (hX g hgm).2 with z|z
      · exact z
      · exfalso
        have n1:0≤eR (X g) ms:=goF_nn (fun _ _=>xR_nn _ _ _) ms
        have n2:0≤eL (X g) ms:=goF_nn (fun _ _=>xR_nn _ _ _) ms
        have z1:=goF_zero (F:=fun p q=>xR (X g) p q) (fun _ _=>xR_nn _ _ _) ms (show eR (X g) ms=0 by omega) p q hpq
        have z2:=goF_zero (F:=fun p q=>xR (X g) q p) (fun _ _=>xR_nn _ _ _) ms (show eL (X g) ms=0 by omega) p q hpq
        rcases hc with hc|hc
        · have:xR (X g) p q=1:=if_pos hc
          rw [z1] at this;cases this
        · have:xR (X g) q p=1:=if_pos hc
          rw [z2] at this;cases this)
    have st:=fun p hp=>lab_stop (f:=f) hP hX' p hp
    have bx:∀ b∈bs,f b.1=f h:=fun b hbm=>by
      obtain ⟨m,hm',e⟩:=carried hm.g hp hbm
      have:=w m hm'
      rw [e,st _ ((mem _).mpr (.inr (.inr ⟨b,hbm,.inl rfl⟩))),st _ ((mem _).mpr (.inl rfl))] at this
      exact this
    intro p hpm
    rcases (mem p).mp hpm with rfl|rfl|⟨b,hbm,rfl|rfl⟩
    · rfl
    · exact hl.symm
    · exact bx b hbm
    · rw [←hb b hbm];exact bx b hbm
noncomputable def mrg (f:Int→Nat) (e:Int×Int):Int→Nat:=fun p=>if f p=f e.2 then f e.1 else f p
noncomputable def hitB (P:List Int) (f:Int→Nat) (k:Nat):Bool:=P.any fun p=>f p == k
noncomputable def cntG (P:List Int) (m:Nat) (f:Int→Nat):Nat:=((List.range m).filter (hitB P f)).length
theorem filt_j {q q':Nat→Bool} {j:Nat}:∀ l:List Nat,(∀ x∈l,q x=true→q' x=true∨x=j)→(l.filter q).length≤(l.filter q').length+(l.filter fun x=>decide (x=j)).length
  | [],_=>Nat.le_refl _
  | x::l,h=>by
    have ih:=filt_j l fun y hy=>h y (List.mem_cons_of_mem _ hy)
    have hx:=h x List.mem_cons_self
    rw [List.filter_cons,List.filter_cons,List.filter_cons]
    by_cases h1:q x=true
    · rcases hx h1 with h2|h2
      · rw [if_pos h1,if_pos h2]
        split <;> simp only [List.length_cons] <;> omega
      · rw [if_pos h1,if_pos (decide_eq_true h2)]
        split <;> simp only [List.length_cons] <;> omega
    · rw [if_neg h1]
      split <;> split <;> (try simp only [List.length_cons]) <;> omega
theorem filt_one (j:Nat):∀ l:List Nat,l.Nodup→(l.filter fun x=>decide (x=j)).length≤1
  | [],_=>Nat.zero_le _
  | x::l,h=>by
    have hn:=List.nodup_cons.mp h
    rw [List.filter_cons]
    by_cases z:x=j
    · rw [if_pos (decide_eq_true z)]
      have:l.filter (fun x=>decide (x=j))=[]:=List.filter_eq_nil_iff.mpr fun y hy e=>hn.1 (by rw [z,←of_decide_eq_true e];exact hy)
      rw [this];exact Nat.le_refl _
    · rw [if_neg (by simpa using z)];exact filt_one j l hn.2
theorem cnt_mrg (P:List Int) (m:Nat) (f:Int→Nat) (e:Int×Int):cntG P m f≤cntG P m (mrg f e)+1:=by
  have h1:=filt_j (q:=hitB P f) (q':=hitB P (mrg f e)) (j:=f e.2) (List.range m) fun k _ hk=>by
    by_cases z:k=f e.2
    · exact .inr z
    · left
      obtain ⟨p,hp,e1⟩:=List.any_eq_true.mp hk
      have e1:f p=k:=by simpa using e1
      refine List.any_eq_true.mpr ⟨p,hp,?_⟩
      have:mrg f e p=k:=by unfold mrg;rw [if_neg (by rw [e1];exact z)];exact e1
      rw [this];simp
  have h2:=filt_one (f e.2) (List.range m) List.nodup_range
  unfold cntG
  omega
theorem cnt_fold (P:List Int) (m:Nat):∀ (ex:List (Int×Int)) (f:Int→Nat),cntG P m f≤cntG P m (ex.foldl mrg f)+ex.length
  | [],f=>Nat.le_refl _
  | e::ex,f=>by
    have h1:=cnt_mrg P m f e
    have h2:=cnt_fold P m ex (mrg f e)
    rw [List.foldl_cons,List.length_cons];omega
theorem mrg_keep {f:Int→Nat} {e:Int×Int} {u v:Int} (h:f u=f v):mrg f e u=mrg f e v:=by unfold mrg;rw [h]
theorem fold_keep:∀ (ex:List (Int×Int)) {f:Int→Nat} {u v:Int},f u=f v→(ex.foldl mrg f) u=(ex.foldl mrg f) v
  | [],_,_,_,h=>h
  | e::ex,f,u,v,h=>by rw [List.foldl_cons];exact fold_keep ex (mrg_keep h)
theorem fold_tie:∀ (ex:List (Int×Int)) {f:Int→Nat} {e:Int×Int},e∈ex→(ex.foldl mrg f) e.1=(ex.foldl mrg f) e.2
  | [],_,_,h=>by cases h
  | e'::ex,f,e,h=>by
    rw [List.foldl_cons]
    rcases List.mem_cons.mp h with rfl|h
    · refine fold_keep ex ?_
      unfold mrg
      rw [if_pos (rfl:f e.2=f e.2)]
      split <;> rfl
    · exact fold_tie ex h
theorem cnt_one {P:List Int} {m c:Nat} {f:Int→Nat} (h:∀ p∈P,f p=c):cntG P m f≤1:=by
  have h1:=filt_j (q:=hitB P f) (q':=fun _=>false) (j:=c) (List.range m) fun k _ hk=>by
    obtain ⟨p,hp,e1⟩:=List.any_eq_true.mp hk
    have e1:f p=k:=by simpa using e1
    exact .inr (by rw [←e1];exact h p hp)
  have h2:=filt_one c (List.range m) List.nodup_range
  have h3:((List.range m).filter fun _=>false).length=0:=by simp
  unfold cntG
  omega
noncomputable def idxG:List (List Int)→Int→Nat
  | [],_=>0
  | g::gs,p=>if p∈g then 0 else idxG gs p+1
theorem idx_at:∀ {gs:List (List Int)},gs.flatten.Nodup→∀ {k:Nat} {g:List Int} {p:Int},gs[k]?=some g→p∈g→idxG gs p=k
  | [],_,k,g,p,h,_=>by cases h
  | g'::gs,hn,k,g,p,h,hp=>by
    rw [List.flatten_cons,List.nodup_append] at hn
    cases k with
    | zero=>cases h;exact if_pos hp
    | succ k =>
      have hg:gs[k]?=some g:=h
      have hf:p∈gs.flatten:=List.mem_flatten.mpr ⟨g,List.mem_of_getElem? hg,hp⟩
      show (if p∈g' then 0 else idxG gs p+1)=k+1
      rw [if_neg (fun z=>hn.2.2 p z p hf rfl),idx_at hn.2.1 hg hp]
theorem idx_same {gs:List (List Int)} (hn:gs.flatten.Nodup) {g:List Int} (hg:g∈gs) {p q:Int} (hp:p∈g) (hq:q∈g):idxG gs p=idxG gs q:=by
  obtain ⟨k,hk,rfl⟩:=List.mem_iff_getElem.mp hg
  rw [idx_at hn (List.getElem?_eq_getElem hk) hp,idx_at hn (List.getElem?_eq_getElem hk) hq]
open Classical in
theorem lev_le {P:List Int} {h l:Int} {bs:List (Int×Int)} {ms:List Mv} {r:Int×List (List Int)} (hP:P.Pairwise (· < ·)) (hm:Part bs h l ms) (hp:(nums ms).Perm (List.range bs.length))
    (mem:∀ p,p∈P↔p=h∨p=l∨∃ b∈bs,p=b.1∨p=b.2) (lt:∀ g∈gapsL P,g.1 < g.2)
    (L:Lev P (bs++[(h,l)]++(gapsL P).filter fun q=>!(lackI h l bs q == 0)) r) :
    r.2.length≤(((gapsL P).filter fun g=>decide (walked h l bs ms g)).filter fun g=>decide (r.1≤g.2 - g.1)).length+1:=by
  have hPn:P.Nodup:=hP.imp fun {a b} h e=>by omega
  have hn:r.2.flatten.Nodup:=L.pm.nodup_iff.mpr hPn
  generalize hex:(((gapsL P).filter fun g=>decide (walked h l bs ms g)).filter fun g=>decide (r.1≤g.2 - g.1))=ex
  have full:cntG P r.2.length (idxG r.2)=r.2.length:=by
    unfold cntG
    rw [List.filter_eq_self.mpr fun k hk=>?_,List.length_range]
    have hk:=List.mem_range.mp hk
    have hne:=L.ne _ (List.getElem_mem hk)
    obtain ⟨p,hp⟩:=List.exists_mem_of_ne_nil _ hne
    refine List.any_eq_true.mpr ⟨p,L.pm.mem_iff.mp (List.mem_flatten.mpr ⟨_,List.getElem_mem hk,hp⟩),?_⟩
    rw [idx_at hn (List.getElem?_eq_getElem hk) hp];simp
  have tie:∀ e∈(bs++[(h,l)]++(gapsL P).filter fun q=>!(lackI h l bs q == 0))++(gapsL P).filter (fun q=>decide (q.2 - q.1 < r.1)),(ex.foldl mrg (idxG r.2)) e.1=(ex.foldl mrg (idxG r.2)) e.2:=fun e he=>by
    obtain ⟨g,hg,h1,h2⟩:=L.tie e he
    exact fold_keep ex (idx_same hn hg h1 h2)
  have one:=one_lab (f:=ex.foldl mrg (idxG r.2)) hP hm hp mem (fun b hb=>tie b (by simp [hb])) (tie (h,l) (by simp)) fun g hg=>by
    refine ⟨lt g hg,?_⟩
    by_cases z1:lackI h l bs g=0
    · by_cases z2:g.2 - g.1 < r.1
      · exact .inl (tie g (List.mem_append_right _ (List.mem_filter.mpr ⟨hg,decide_eq_true z2⟩)))
      · by_cases z3:walked h l bs ms g
        · exact .inl (fold_tie ex (by rw [←hex];exact List.mem_filter.mpr ⟨List.mem_filter.mpr ⟨hg,decide_eq_true z3⟩,decide_eq_true (by omega)⟩))
        · right
          have:¬∀ x,g.1 < x→x≤g.2→eR x ms+eL x ms≠0:=fun z=>z3 ⟨z1,z⟩
          obtain ⟨x,hx⟩:=Classical.not_forall.mp this
          obtain ⟨a1,hx⟩:=Classical.not_imp.mp hx
          obtain ⟨a2,hx⟩:=Classical.not_imp.mp hx
          exact ⟨x,a1,a2,Classical.not_not.mp hx⟩
    · exact .inl (tie g (List.mem_append_left _ (List.mem_append_right _ (List.mem_filter.mpr ⟨hg,by simpa using z1⟩))))
  have h1:=cnt_fold P r.2.length ex (idxG r.2)
  have h2:=cnt_one (m:=r.2.length) one
  omega
theorem fil_sum {α:Type} (c:Int) (q:α→Bool):∀ S:List α,c*((S.filter q).length:Int)=(S.map fun g=>if q g=true then c else 0).sum
  | []=>by simp
  | g::S=>by
    rw [List.filter_cons,List.map_cons,List.sum_cons,←fil_sum c q S]
    split
    · rw [List.length_cons,Int.natCast_add,Int.mul_add];simp;omega
    · omega
theorem wgh_le (S:List (Int×Int)):∀ (rows:List (Int×List (List Int))) (a:Int),risF a rows→(∀ r∈rows,r.2.length≤(S.filter fun g=>decide (r.1≤g.2 - g.1)).length+1) →
    wgh a rows≤(S.map fun g=>if g.2 - g.1 < a then 0 else g.2 - g.1 - a).sum
  | [],a,_,_=>by
    show (0:Int)≤_
    have:=sum_le (f:=fun _=>(0:Int)) (f':=fun g:Int×Int=>if g.2 - g.1 < a then 0 else g.2 - g.1 - a) (xs:=S) fun g _=>by split <;> omega
    have z:(S.map fun _=>(0:Int)).sum=0:=by
      have:=fil_sum (0:Int) (fun _=>true) S
      simpa using this.symm
    omega
  | r::rs,a,⟨h1,h2⟩,h=>by
    have ih:=wgh_le S rs r.1 h2 fun x hx=>h x (List.mem_cons_of_mem _ hx)
    have hr:=h r List.mem_cons_self
    show (r.1 - a)*((r.2.length:Int) - 1)+wgh r.1 rs≤_
    have s1:(r.1 - a)*((r.2.length:Int) - 1)≤(r.1 - a)*((S.filter fun g=>decide (r.1≤g.2 - g.1)).length:Int):=Int.mul_le_mul_of_nonneg_left (by omega) (by omega)
    rw [fil_sum] at s1
    have e3:∀ (f f':Int×Int→Int) (xs:List (Int×Int)),(xs.map fun g=>f g+f' g).sum=(xs.map f).sum+(xs.map f').sum:=fun f f' xs=>by
      induction xs with
      | nil=>rfl
      | cons x xs ih=>rw [List.map_cons,List.map_cons,List.map_cons,List.sum_cons,List.sum_cons,List.sum_cons,ih];omega
    have s2:=sum_le (xs:=S) (f:=fun g=>(if decide (r.1≤g.2 - g.1)=true then r.1 - a else 0)+(if g.2 - g.1 < r.1 then 0 else g.2 - g.1 - r.1)) (f':=fun g=>if g.2 - g.1 < a then 0 else g.2 - g.1 - a) fun g _=>by
      by_cases z:r.1≤g.2 - g.1
      · rw [if_pos (decide_eq_true z),if_neg (by omega),if_neg (by omega)];omega
      · rw [if_neg (by simpa using z),if_pos (by omega)];split <;> omega
    rw [e3] at s2
    omega
open Classical in
theorem low_bound {P:List Int} {h l:Int} {bs:List (Int×Int)} {ms:List Mv} {rows:List (Int×List (List Int))} (hP:P.Pairwise (· < ·)) (hne:P≠[]) (hm:Part bs h l ms) (hp:(nums ms).Perm (List.range bs.length))
    (mem:∀ p,p∈P↔p=h∨p=l∨∃ b∈bs,p=b.1∨p=b.2) (G:∀ g∈gapsL P,Gap h l bs g) (ris:risF 0 rows)
    (L:∀ r∈rows,Lev P (bs++[(h,l)]++(gapsL P).filter fun q=>!(lackI h l bs q == 0)) r) :
    ((gapsL P).map fun g=>(g.2 - g.1)*(rts bs g+lfs bs g+absI (lackI h l bs g))).sum+2*wgh 0 rows≤(ms.map wayI).sum:=by
  have w:=way_ge hP hne G hm hp
  have lv:=wgh_le ((gapsL P).filter fun g=>decide (walked h l bs ms g)) rows 0 ris fun r hr=>lev_le hP hm hp mem (fun g hg=>(G g hg).lt) (L r hr)
  have s:∀ xs:List (Int×Int),(∀ g∈xs,g.1 < g.2)→2*((xs.filter fun g=>decide (walked h l bs ms g)).map fun g=>if g.2 - g.1 < 0 then 0 else g.2 - g.1 - 0).sum=(xs.map fun g=>if walked h l bs ms g then 2*(g.2 - g.1) else 0).sum:=fun xs hx=>by
    induction xs with
    | nil=>rfl
    | cons g xs ih =>
      have ih:=ih fun g hg=>hx g (List.mem_cons_of_mem _ hg)
      have hg:=hx g List.mem_cons_self
      rw [List.filter_cons,List.map_cons,List.sum_cons,←ih]
      by_cases z:walked h l bs ms g
      · rw [if_pos (decide_eq_true z),if_pos z,List.map_cons,List.sum_cons,if_neg (by omega)];omega
      · rw [if_neg (by simpa using z),if_neg z];omega
  have s':=s (gapsL P) fun g hg=>(G g hg).lt
  omega
theorem Cls.low {ts:List Int} {es:List (Int×Int)} {g:List Int} {a:Int} (c:Cls ts es g a):∀ x∈g,a≤x:=fun x hx=>by
  have h:=c.hd
  have u:=c.up
  cases g with
  | nil=>cases hx
  | cons b r =>
    cases h
    rcases List.mem_cons.mp hx with rfl|hx
    · exact Int.le_refl _
    · exact Int.le_of_lt ((List.pairwise_cons.mp u).1 x hx)
theorem GS.apart {ts:List Int} {es:List (Int×Int)} {gs:List (List Int)} {hs:List Int} (h:GS ts es gs hs) {i j:Nat} {g g':List Int} {c:Int} (e1:gs[i]?=some g) (e2:gs[j]?=some g') (h1:c∈g) (h2:c∈g'):i=j:=by
  have li:=(List.getElem?_eq_some_iff.mp e1).1
  have lj:=(List.getElem?_eq_some_iff.mp e2).1
  rw [h.len] at li lj
  have c1:=h.cls i g _ e1 (List.getElem?_eq_getElem li)
  have c2:=h.cls j g' _ e2 (List.getElem?_eq_getElem lj)
  have r1:=(c1.mem c).mp h1
  have r2:=(c2.mem c).mp h2
  have a1:=c1.low _ ((c1.mem _).mpr (r1.trans r2.symm))
  have a2:=c2.low _ ((c2.mem _).mpr (r2.trans r1.symm))
  rcases Nat.lt_trichotomy i j with z|z|z
  · have:=List.pairwise_iff_getElem.mp h.up i j li lj z;omega
  · exact z
  · have:=List.pairwise_iff_getElem.mp h.up j i lj li z;omega
theorem flat_nd:∀ {gs:List (List Int)},(∀ g∈gs,g.Nodup)→(∀ (i j:Nat) g g' c,gs[i]?=some g→gs[j]?=some g'→c∈g→c∈g'→i=j)→gs.flatten.Nodup
  | [],_,_=>List.nodup_nil
  | g::gs,h1,h2=>by
    rw [List.flatten_cons,List.nodup_append]
    refine ⟨h1 g List.mem_cons_self,flat_nd (fun g hg=>h1 g (List.mem_cons_of_mem _ hg)) (fun i j a b c e1 e2 m1 m2=>?_),fun x hx y hy e=>?_⟩
    · have:=h2 (i+1) (j+1) a b c e1 e2 m1 m2;omega
    · subst e
      obtain ⟨g',hg',hx'⟩:=List.mem_flatten.mp hy
      obtain ⟨j,hj,rfl⟩:=List.mem_iff_getElem.mp hg'
      have:=h2 0 (j+1) g _ x rfl (List.getElem?_eq_getElem hj) hx hx'
      omega
theorem GS.flat {ts:List Int} {es:List (Int×Int)} {gs:List (List Int)} {hs:List Int} (ok:Ok ts es) (h:GS ts es gs hs) (all:∀ t∈ts,∃ g∈gs,t∈g):gs.flatten.Perm ts:=by
  have nd:gs.flatten.Nodup:=flat_nd (fun g hg=>by
    obtain ⟨a,_,c⟩:=h.one hg
    exact c.up.imp fun {a b} h e=>by omega) fun i j g g' c e1 e2 m1 m2=>h.apart e1 e2 m1 m2
  refine (List.perm_ext_iff_of_nodup nd ok.nd).mpr fun x=>⟨fun hx=>?_,fun hx=>?_⟩
  · obtain ⟨g,hg,hx⟩:=List.mem_flatten.mp hx
    obtain ⟨a,_,c⟩:=h.one hg
    exact ((c.mem x).mp hx).mem ok c.inn
  · obtain ⟨g,hg,hx⟩:=all x hx
    exact List.mem_flatten.mpr ⟨g,hg,hx⟩
theorem gs_lev {P:List Int} {es kn:List (Int×Int)} {gs:List (List Int)} {hs:List Int} {t:Int} (ok:Ok P es) (h:GS P es gs hs) (all:∀ t∈P,∃ g∈gs,t∈g)
    (sub:∀ e∈kn++(gapsL P).filter (fun q=>decide (q.2 - q.1 < t)),e∈es):Lev P kn (t,gs) where
  ne:=fun g hg e=>by
    obtain ⟨a,_,c⟩:=h.one hg
    have:=c.hd
    rw [e] at this;cases this
  pm:=h.flat ok all
  tie:=fun e he=>by
    have he:=sub e he
    obtain ⟨g,hg,h1⟩:=all _ (ok.inn e he).1
    obtain ⟨a,_,c⟩:=h.one hg
    exact ⟨g,hg,h1,(c.mem _).mpr (((c.mem _).mp h1).step (.inl he))⟩
theorem lev_rev {P:List Int} {kn:List (Int×Int)} {gs:List (List Int)} {t:Int} (L:Lev P kn (t,gs)):Lev P kn (t,gs.reverse.map List.reverse) where
  ne:=fun g hg e=>by
    obtain ⟨g',h1,rfl⟩:=List.mem_map.mp hg
    exact L.ne g' (List.mem_reverse.mp h1) (List.reverse_eq_nil_iff.mp e)
  pm:=by
    have e:(gs.reverse.map List.reverse).flatten=gs.flatten.reverse:=by rw [List.reverse_flatten,List.map_reverse]
    show (gs.reverse.map List.reverse).flatten.Perm P
    rw [e]
    exact (List.reverse_perm _).trans L.pm
  tie:=fun e he=>by
    obtain ⟨g,hg,h1,h2⟩:=L.tie e he
    exact ⟨g.reverse,List.mem_map.mpr ⟨g,List.mem_reverse.mpr hg,rfl⟩,List.mem_reverse.mpr h1,List.mem_reverse.mpr h2⟩
noncomputable def nmP:Nat→List (List Int)→List (Nat×List Int)
  | _,[]=>[]
  | k,g::gs=>(k,g)::nmP (k+1) gs
noncomputable def kkP (ps:List (Nat×List Int)):List Int:=ps.flatMap (·.2)
noncomputable def vvP (ps:List (Nat×List Int)):List D:=ps.flatMap fun p=>p.2.map fun _=>D.int (p.1:Int)
theorem kk_flat:∀ (k:Nat) (gs:List (List Int)),kkP (nmP k gs)=gs.flatten
  | _,[]=>rfl
  | k,g::gs=>by show g++kkP (nmP (k+1) gs)=_;rw [kk_flat];rfl
theorem val_one {α:Type} (v:α):∀ (g:List Int) {x:Int},x∈g→valD g (g.map fun _=>v) x=some v
  | [],_,h=>by cases h
  | y::g,x,h=>by
    show (if y=x then some v else valD g (g.map fun _=>v) x)=some v
    by_cases z:y=x
    · rw [if_pos z]
    · rw [if_neg z]
      rcases List.mem_cons.mp h with rfl|h
      · exact absurd rfl z
      · exact val_one v g h
theorem val_left {α:Type}:∀ {a:List Int} {c:List α} {b:List Int} {d:List α} {x:Int},a.length=c.length→x∈a→valD (a++b) (c++d) x=valD a c x
  | [],_,_,_,_,_,h=>by cases h
  | _::_,[],_,_,_,h,_=>by simp at h
  | y::a,v::c,b,d,x,hl,h=>by
    show (if y=x then some v else valD (a++b) (c++d) x)=if y=x then some v else valD a c x
    by_cases z:y=x
    · rw [if_pos z,if_pos z]
    · rw [if_neg z,if_neg z]
      rcases List.mem_cons.mp h with rfl|h
      · exact absurd rfl z
      · exact val_left (by simpa using hl) h
theorem val_right {α:Type}:∀ {a:List Int} {c:List α} {b:List Int} {d:List α} {x:Int},a.length=c.length→x∉a→valD (a++b) (c++d) x=valD b d x
  | [],[],_,_,_,_,_=>rfl
  | [],_::_,_,_,_,h,_=>by simp at h
  | _::_,[],_,_,_,h,_=>by simp at h
  | y::a,v::c,b,d,x,hl,h=>by
    show (if y=x then some v else valD (a++b) (c++d) x)=_
    rw [if_neg (fun z=>h (by rw [z];exact List.mem_cons_self))]
    exact val_right (by simpa using hl) fun z=>h (List.mem_cons_of_mem _ z)
theorem val_nm:∀ {gs:List (List Int)} {k:Nat},gs.flatten.Nodup→∀ {j:Nat} {g:List Int} {x:Int},gs[j]?=some g→x∈g→valD (kkP (nmP k gs)) (vvP (nmP k gs)) x=some (.int ((k+j:Nat):Int))
  | [],k,_,j,g,x,h,_=>by cases h
  | g'::gs,k,hn,j,g,x,h,hx=>by
    rw [List.flatten_cons,List.nodup_append] at hn
    show valD (g'++kkP (nmP (k+1) gs)) ((g'.map fun _=>D.int (k:Int))++vvP (nmP (k+1) gs)) x=_
    cases j with
    | zero=>cases h;rw [val_left (by rw [List.length_map]) hx,val_one _ _ hx];rfl
    | succ j =>
      have hg:gs[j]?=some g:=h
      have hf:x∈gs.flatten:=List.mem_flatten.mpr ⟨g,List.mem_of_getElem? hg,hx⟩
      rw [val_right (by rw [List.length_map]) (fun z=>hn.2.2 x z x hf rfl),val_nm hn.2.1 hg hx,show k+1+j=k+(j+1) by omega]
theorem val_same {gs:List (List Int)} (hn:gs.flatten.Nodup) {g:List Int} (hg:g∈gs) {p q:Int} (hp:p∈g) (hq:q∈g):∃ i:Int,valD (kkP (nmP 0 gs)) (vvP (nmP 0 gs)) p=some (.int i)∧valD (kkP (nmP 0 gs)) (vvP (nmP 0 gs)) q=some (.int i):=by
  obtain ⟨k,hk,rfl⟩:=List.mem_iff_getElem.mp hg
  exact ⟨_,val_nm hn (List.getElem?_eq_getElem hk) hp,val_nm hn (List.getElem?_eq_getElem hk) hq⟩
theorem put_add {α:Type} {ks:List Int} {xs:List α} {k:Int} (y:α) (h:k∉ks):putKs ks k=ks++[k]∧putA ks xs k y=xs++[y]:=by
  unfold putKs putA;rw [if_neg h,if_neg h];exact ⟨rfl,rfl⟩
noncomputable def levD (r:Int×List (List Int)):D:=.tup [.int r.1,.lst (r.2.map gD)]
noncomputable def cntD (bs:List (Int×Int)) (q:Int×Int):D:=.tup [.int q.1,.int q.2,.int (rts bs q),.int (lfs bs q)]
noncomputable def edD (q:Int×Int):D:=.tup [.int q.1,.int q.2,.int (q.2 - q.1)]
noncomputable def Pz (h l:Int) (bs:List (Int×Int)):List Int:=sortU (plc h l bs)
noncomputable def Kn (h l:Int) (bs:List (Int×Int)):List (Int×Int):=bs++[(h,l)]++(gapsL (Pz h l bs)).filter fun q=>!(lackI h l bs q == 0)
theorem gp_len {h l:Int} {bs:List (Int×Int)} (hb:bs.length≤30):(gapsL (Pz h l bs)).length≤1000:=by
  rw [gapsL_len];have:=(stp h l hb).len;unfold Pz;omega
theorem pz_rise (h l:Int) (bs:List (Int×Int)):(Pz h l bs).Pairwise (· < ·):=rise_sortU
theorem pz_len {h l:Int} {bs:List (Int×Int)} (hb:bs.length≤30):(Pz h l bs).length < 64:=by
  have h1:(Pz h l bs).length≤(plc h l bs).length:=sortU_len _
  have h2:(plc h l bs).length=2*bs.length+2:=by show (flat bs).length+1+1=_;rw [flat_len]
  omega
theorem counts_of_at {h l:Int} {bs:List (Int×Int)} (hb:bs.length≤30):m_counts_of [.int h,.int l,.lst (bs.map boxD)]=some (.fr ((gapsL (Pz h l bs)).map (cntD bs))):=by
  unfold m_counts_of B_counts_of
  have hl:((gapsL (Pz h l bs)).map boxD).length≤1000000:=by rw [List.length_map];have:=gp_len (h:=h) (l:=l) hb;omega
  have cm:=compD_mapA (i:=0) (f:=E1_counts_of) boxD (cntD bs) (gapsL (Pz h l bs)) (ω:=[none,some (.sh (.lst (bs.map boxD)))]) (fun q hq=>by
    have c:=crossed_at (bs:=bs) (q:=q) (by omega)
    have ha:oAdd (boxD q) (.tup [.int (rts bs q),.int (lfs bs q)])=some (.sh (cntD bs q)):=rfl
    unfold E1_counts_of
    simp_arith [c,ha])
  have g:=gaps_at (h:=h) (l:=l) hb
  rw [show sortU (plc h l bs)=Pz h l bs from rfl] at g
  simp_arith [g,e_cp hl,inW,shOf,cm]
theorem whole_i (n:Int):m_is_whole [.int n]=some (.sh (.bl true)):=whole_at (d:=.int n) rfl
theorem comp_whole (ns:List Int):compD (gN 0) tTrue E1_all_whole (ns.map D.int) [none]=some (ns.map fun _=>D.bl true):=compD_mapA D.int (fun _=>D.bl true) ns fun n _=>by
  unfold E1_all_whole
  simp_arith [whole_i]
theorem all_t {α:Type} (xs:List α):allB (xs.map fun _=>D.bl true)=some true:=by
  rw [bAll_a (fun _=>true) xs];simp
theorem wholes_t {ns:List Int} (h:ns.length≤1000):m_all_whole [.tup (ns.map D.int)]=some (.sh (.bl true)):=by
  unfold m_all_whole B_all_whole
  have hl:(ns.map D.int).length≤1000000:=by rw [List.length_map];omega
  simp_arith [e_cp hl,inW,shOf,comp_whole,bAll,all_t]
theorem wholes_l {ns:List Int} (h:ns.length≤1000):m_all_whole [.lst (ns.map D.int)]=some (.sh (.bl true)):=by
  unfold m_all_whole B_all_whole
  have hl:(ns.map D.int).length≤1000000:=by rw [List.length_map];omega
  simp_arith [e_cp hl,inW,shOf,comp_whole,bAll,all_t]
theorem cnt_lay (bs:List (Int×Int)) (q:Int×Int):(cntD bs q).py.canLay0=true∧(cntD bs q).py.depth≤2:=⟨rfl,by show 1≤2;decide⟩
theorem cnts_shp (bs gs:List (Int×Int)):shp (.lst (gs.map (cntD bs)))=true:=shp_lst 2 (by decide) fun d hd=>by
  obtain ⟨q,_,rfl⟩:=List.mem_map.mp hd;exact cnt_lay bs q
theorem are_counts_at {bs gs:List (Int×Int)} (h:gs.length≤1000):m_are_counts [.lst (gs.map (cntD bs)),.lst (gs.map (cntD bs))]=some (.sh (.bl true)):=by
  unfold m_are_counts B_are_counts
  have hl:(gs.map (cntD bs)).length≤1000000:=by rw [List.length_map];omega
  have cm:=compD_mapA (i:=0) (f:=E1_are_counts) (cntD bs) (fun _=>D.bl true) gs (ω:=[none]) (fun q hq=>by
    have w:=wholes_t (ns:=[q.1,q.2,rts bs q,lfs bs q]) (by show 4≤1000;decide)
    rw [show D.tup ([q.1,q.2,rts bs q,lfs bs q].map D.int)=cntD bs q from rfl] at w
    unfold E1_are_counts
    simp_arith [w])
  simp_arith [oEq_self (cnts_shp bs gs),e_cp hl,inW,shOf,cm,bAll,all_t]
theorem is_group_at {g:List Int} (hn:g≠[]) (h:g.length≤1000):m_is_group [gD g]=some (.sh (.bl true)):=by
  unfold m_is_group B_is_group gD
  have w:=wholes_l h
  have hp:(0:Int) < (g.length:Nat):=by have:=List.length_pos_iff.mpr hn;omega
  simp_arith [w,hp,decide_true]
theorem flat_sort {P:List Int} {gs:List (List Int)} (hP:P.Pairwise (· < ·)) (h:gs.flatten.Perm P):sortZ gs.flatten=P:=by
  have hn:P.Nodup:=hP.imp fun {a b} z=>Int.ne_of_lt z
  exact le_perm_eq sortZ_le (hP.imp fun {a b} z=>Int.le_of_lt z) ((sortZ_perm (l:=gs.flatten)).trans h)
theorem ints_shp (ns:List Int):shp (.lst (ns.map D.int))=true:=shp_lst 2 (by decide) fun d hd=>by
  obtain ⟨q,_,rfl⟩:=List.mem_map.mp hd;exact ⟨rfl,by show 0≤2;decide⟩
theorem len_flat_le:∀ {gs:List (List Int)} {g:List Int},g∈gs→g.length≤gs.flatten.length
  | g'::gs,g,h=>by
    rw [List.flatten_cons,List.length_append]
    rcases List.mem_cons.mp h with rfl|h
    · omega
    · have:=len_flat_le h;omega
theorem len_gs_le:∀ {gs:List (List Int)},(∀ g∈gs,g≠[])→gs.length≤gs.flatten.length
  | [],_=>Nat.le_refl _
  | g::gs,h=>by
    rw [List.flatten_cons,List.length_append,List.length_cons]
    have:=len_gs_le (gs:=gs) fun g hg=>h g (List.mem_cons_of_mem _ hg)
    have:=List.length_pos_iff.mpr (h g List.mem_cons_self)
    omega
theorem are_groups_at {P:List Int} {gs:List (List Int)} (hP:P.Pairwise (· < ·)) (hl:P.length < 64) (ne:∀ g∈gs,g≠[]) (pm:gs.flatten.Perm P):m_are_groups [.lst (gs.map gD),.lst (P.map D.int)]=some (.sh (.bl true)):=by
  unfold m_are_groups B_are_groups
  have fl:gs.flatten.length < 64:=by rw [pm.length_eq];exact hl
  have gl:=len_gs_le ne
  have hl2:(gs.map gD).length≤1000000:=by rw [List.length_map];omega
  have cm:=compD_mapA (i:=0) (f:=E1_are_groups) gD (fun _=>D.bl true) gs (ω:=[none]) (fun g hg=>by
    have w:=is_group_at (ne g hg) (by have:=len_flat_le hg;omega)
    unfold E1_are_groups
    simp_arith [w])
  simp_arith [e_cp hl2,inW,shOf,cm,bAll,all_t]
  obtain ⟨ω',e,x3,rfl⟩:=forD_map (g:=gN 3) (b:=L1_are_groups) gD gs
    (fun pre ω=>∃ x3,ω=[some (.sh (.lst (gs.map gD))),some (.sh (.lst (P.map D.int))),some (.ow (pre.flatten.map D.int)),x3])
    (fun pre g post ω hd ⟨x3,hω⟩=>by
      subst hω
      refine ⟨_,rfl,?_⟩
      have hle:(pre.flatten.map D.int).length+(g.map D.int).length≤1000000:=by
        have:=congrArg (fun z=>z.flatten.length) hd
        simp only [List.flatten_append,List.flatten_cons,List.length_append] at this
        rw [List.length_map,List.length_map];omega
      have e1:=e_es_l (i:=2) (ω:=[some (.sh (.lst (gs.map gD))),some (.sh (.lst (P.map D.int))),some (.ow (pre.flatten.map D.int)),some (.sh (.lst (g.map D.int)))]) (ds:=pre.flatten.map D.int) (ds':=g.map D.int) hle
      unfold L1_are_groups
      show stepS (sExt 2 (dOf (fVar 3)) [some (.sh (.lst (gs.map gD))),some (.sh (.lst (P.map D.int))),some (.ow (pre.flatten.map D.int)),some (.sh (.lst (g.map D.int)))]) _
      simp_arith [e1]
      have ef:(pre++[g]).flatten=pre.flatten++g:=by rw [List.flatten_append,List.flatten_cons,List.flatten_nil,List.append_nil]
      rw [ef,List.map_append]
      exact ⟨_,rfl⟩)
    (ω:=[some (.sh (.lst (gs.map gD))),some (.sh (.lst (P.map D.int))),some (.ow []),none]) ⟨none,rfl⟩
  simp_arith [e,sort_ok fl,flat_sort hP pm,oEq_self (ints_shp P)]
noncomputable def nmD (p:Nat×List Int):D:=.tup [.int (p.1:Int),gD p.2]
theorem enum_nm:∀ (k:Nat) (gs:List (List Int)),enumL k (gs.map gD)=(nmP k gs).map nmD
  | _,[]=>rfl
  | k,g::gs=>by show D.tup [.int (k:Int),gD g]::enumL (k+1) (gs.map gD)=_;rw [enum_nm];rfl
theorem kk_app (a b:List (Nat×List Int)):kkP (a++b)=kkP a++kkP b:=by unfold kkP;rw [List.flatMap_append]
theorem vv_app (a b:List (Nat×List Int)):vvP (a++b)=vvP a++vvP b:=by unfold vvP;rw [List.flatMap_append]
theorem numbers_of {gs:List (List Int)} (nd:gs.flatten.Nodup) (fl:gs.flatten.length < 64):m_group_numbers [.lst (gs.map gD)]=some (.sh (.dic (kkP (nmP 0 gs)) (vvP (nmP 0 gs)))):=by
  unfold m_group_numbers B_group_numbers
  simp_arith [enum_nm]
  have nd':(kkP (nmP 0 gs)).Nodup:=by rw [kk_flat];exact nd
  have fl':(kkP (nmP 0 gs)).length < 64:=by rw [kk_flat];exact fl
  generalize nmP 0 gs=ps at nd' fl'
  obtain ⟨ω',e,x2,x3,x4,rfl⟩:=forD_map (g:=gT 2 (gsCons (gN 2) (gsCons (gN 3) gsNil))) (b:=L2_group_numbers) nmD ps
    (fun pre ω=>∃ x2 x3 x4,ω=[some (.sh (.lst (gs.map gD))),some (.od (kkP pre) (vvP pre)),x2,x3,x4])
    (fun pre p post ω hd ⟨x2,x3,x4,hω⟩=>by
      subst hω
      refine ⟨_,rfl,?_⟩
      unfold L2_group_numbers
      obtain ⟨k,g⟩:=p
      rw [hd,kk_app] at nd' fl'
      show stepS (sFor _ _ _ [some (.sh (.lst (gs.map gD))),some (.od (kkP pre) (vvP pre)),some (.sh (.int (k:Int))),some (.sh (.lst (g.map D.int))),x4]) _
      simp_arith [e_seq]
      obtain ⟨ω',e,y4,rfl⟩:=forD_map (g:=gN 4) (b:=L1_group_numbers) D.int g
        (fun pre' ω=>∃ y4,ω=[some (.sh (.lst (gs.map gD))),some (.od (kkP pre++pre') (vvP pre++pre'.map fun _=>D.int (k:Int))),some (.sh (.int (k:Int))),some (.sh (.lst (g.map D.int))),y4])
        (fun pre' c post' ω hd' ⟨y4,hω⟩=>by
          subst hω
          refine ⟨_,rfl,?_⟩
          have nd2:(kkP pre++(pre'++c::post')).Nodup:=by
            have:(kkP pre++(g++kkP post)).Nodup:=nd'
            rw [hd',←List.append_assoc] at this
            exact (List.nodup_append.mp this).1
          have hnew:c∉kkP pre++pre':=fun m=>by
            rw [←List.append_assoc] at nd2
            exact (List.nodup_append.mp nd2).2.2 c m c List.mem_cons_self rfl
          have hlen:(kkP pre++pre').length < 1000000:=by
            have:(kkP pre++(g++kkP post)).length < 64:=fl'
            rw [hd'] at this
            simp only [List.length_append,List.length_cons] at this ⊢;omega
          obtain ⟨p1,p2⟩:=put_add (xs:=vvP pre++pre'.map fun _=>D.int (k:Int)) (D.int (k:Int)) hnew
          unfold L1_group_numbers
          simp_arith [dset_ok hlen,p1,p2,List.append_assoc]
          exact ⟨_,by rw [List.map_append];rfl⟩)
        (ω:=[some (.sh (.lst (gs.map gD))),some (.od (kkP pre) (vvP pre)),some (.sh (.int (k:Int))),some (.sh (.lst (g.map D.int))),x4]) ⟨x4,by rw [List.append_nil,List.map_nil,List.append_nil]⟩
      simp_arith [e]
      have ek:kkP (pre++[(k,g)])=kkP pre++g:=by
        rw [kk_app];show kkP pre++(g++[])=_;rw [List.append_nil]
      have ev:vvP (pre++[(k,g)])=vvP pre++g.map fun _=>D.int (k:Int):=by
        rw [vv_app];show vvP pre++((g.map fun _=>D.int (k:Int))++[])=_;rw [List.append_nil]
      rw [ek,ev]
      exact ⟨_,_,_,rfl⟩)
    (ω:=[some (.sh (.lst (gs.map gD))),some (.od [] []),none,none,none]) ⟨none,none,none,rfl⟩
  simp_arith [e]
theorem holds_at {gs:List (List Int)} {ds:List D} (nd:gs.flatten.Nodup) (fl:gs.flatten.length < 64) (hl:ds.length≤10000) (h:∀ d∈ds,∃ a b r,d=.tup (.int a::.int b::r)∧∃ g∈gs,a∈g∧b∈g) :
    m_holds_together [.lst (gs.map gD),.lst ds]=some (.sh (.bl true)):=by
  unfold m_holds_together B_holds_together
  have hl2:ds.length≤1000000:=by omega
  have cm:=compD_map (i:=0) (f:=E1_holds_together) (fun _=>D.bl true) ds (ω:=[none,some (.sh (.dic (kkP (nmP 0 gs)) (vvP (nmP 0 gs))))]) (fun d hd=>by
    obtain ⟨a,b,r,rfl,g,hg,h1,h2⟩:=h d hd
    obtain ⟨i,v1,v2⟩:=val_same nd hg h1 h2
    unfold E1_holds_together
    have q:oEq false (.int i) (.int i)=some (.sh (.bl true)):=oEq_self rfl
    simp_arith [v1,v2,q])
  simp_arith [numbers_of nd fl,e_cp hl2,inW,shOf,cm,bAll,all_t]
theorem cost_at (q:Int×Int):m_cost [edD q]=some (.sh (.int (q.2 - q.1))):=by
  unfold m_cost B_cost edD
  simp_arith [e_seq]
theorem is_level_at {P:List Int} {kn:List (Int×Int)} {r:Int×List (List Int)} (hP:P.Pairwise (· < ·)) (hl:P.length < 64) (hk:kn.length≤1000) (L:Lev P kn r) :
    m_is_level [levD r,.lst (P.map D.int),.lst (kn.map boxD),.lst ((gapsL P).map edD)]=some (.sh (.bl true)):=by
  obtain ⟨t,gs⟩:=r
  have hPn:P.Nodup:=hP.imp fun {a b} z=>Int.ne_of_lt z
  have nd:gs.flatten.Nodup:=L.pm.nodup_iff.mpr hPn
  have fl:gs.flatten.length < 64:=by rw [L.pm.length_eq];exact hl
  have glen:(gapsL P).length≤64:=by rw [gapsL_len];omega
  unfold m_is_level B_is_level levD
  have ag:=are_groups_at hP hl L.ne L.pm
  have hl2:((gapsL P).map edD).length≤1000000:=by rw [List.length_map];omega
  have cm:=compD_filA (i:=0) (c:=T1_is_level) (f:=E1_is_level) (fun q=>decide (q.2 - q.1 < t)) edD edD (gapsL P) (ω:=[none,some (.sh (.tup [.int t,.lst (gs.map gD)]))]) (fun q hq=>by
    unfold T1_is_level E1_is_level
    have c:=cost_at q
    simp_arith [c]
    exact ⟨trivial,fun _=>trivial⟩)
  have fil_len:((gapsL P).filter fun q=>decide (q.2 - q.1 < t)).length≤64:=Nat.le_trans (List.length_filter_le _ _) glen
  have ad:oAdd (.lst (kn.map boxD)) (.lst (((gapsL P).filter fun q=>decide (q.2 - q.1 < t)).map edD))=some (.fr (kn.map boxD++((gapsL P).filter fun q=>decide (q.2 - q.1 < t)).map edD)):=oAdd_ll (by rw [List.length_map,List.length_map];omega)
  have ho:=holds_at (gs:=gs) (ds:=kn.map boxD++((gapsL P).filter fun q=>decide (q.2 - q.1 < t)).map edD) nd fl (by rw [List.length_append,List.length_map,List.length_map];omega) fun d hd=>by
    rcases List.mem_append.mp hd with z|z
    · obtain ⟨q,hq,rfl⟩:=List.mem_map.mp z
      exact ⟨q.1,q.2,[],rfl,L.tie q (List.mem_append_left _ hq)⟩
    · obtain ⟨q,hq,rfl⟩:=List.mem_map.mp z
      exact ⟨q.1,q.2,[.int (q.2 - q.1)],rfl,L.tie q (List.mem_append_right _ hq)⟩
  have l2:(((2:Nat):Int) == 2)=true:=rfl
  simp_arith [l2,whole_i,ag,e_cp hl2,inW,shOf,cm,ad,ho]
theorem tup_zip:∀ (xs ys:List Int),tupL (xs.map D.int) (ys.map D.int)=(xs.zip ys).map boxD
  | x::xs,y::ys=>by show D.tup [.int x,.int y]::tupL (xs.map D.int) (ys.map D.int)=_;rw [tup_zip xs ys];rfl
  | [],ys=>by cases ys <;> rfl
  | x::xs,[]=>rfl
theorem ris_all:∀ {rows:List (Int×List (List Int))} {a:Int},risF a rows→((a::rows.map (·.1)).zip (rows.map (·.1))).all (fun p=>decide (p.1 < p.2))=true
  | [],a,_=>rfl
  | r::rs,a,⟨h1,h2⟩=>by
    show (decide (a < r.1) && ((r.1::rs.map (·.1)).zip (rs.map (·.1))).all (fun p=>decide (p.1 < p.2)))=true
    rw [decide_eq_true h1,ris_all h2];rfl
theorem rise_at {rows:List (Int×List (List Int))} (h:risF 0 rows) (hl:rows.length≤1000):m_rise_from_one [.lst (rows.map fun r=>D.int r.1)]=some (.sh (.bl true)):=by
  unfold m_rise_from_one B_rise_from_one
  have e0:(rows.map fun r=>D.int r.1)=(rows.map (·.1)).map D.int:=by rw [List.map_map];rfl
  have ad:oAdd (.lst [.int 0]) (.lst ((rows.map (·.1)).map D.int))=some (.fr ((0::rows.map (·.1)).map D.int)):=oAdd_ll (by rw [List.length_map,List.length_map,List.length_singleton];omega)
  have hl2:(((0::rows.map (·.1)).zip (rows.map (·.1))).map boxD).length≤1000000:=by rw [List.length_map,List.length_zip,List.length_map];omega
  have cm:=compD_relA (g:=gT 2 (gsCons (gN 0) (gsCons (gN 1) gsNil))) (c:=tTrue) (f:=E1_rise_from_one) (fun w=>∃ a b,w=[a,b]) (fun _=>true) boxD (fun p=>D.bl (decide (p.1 < p.2))) ((0::rows.map (·.1)).zip (rows.map (·.1))) (ω:=[none,none]) ⟨_,_,rfl⟩ (fun p _ w ⟨a,b,hw⟩=>by
    subst hw
    refine ⟨[some (.sh (.int p.1)),some (.sh (.int p.2))],rfl,⟨_,_,rfl⟩,rfl,fun _=>?_⟩
    unfold E1_rise_from_one
    simp_arith [e_seq])
  rw [List.filter_eq_self.mpr (fun _ _=>rfl)] at cm
  rw [e0]
  have tz:tupL (.int 0::(rows.map (·.1)).map D.int) ((rows.map (·.1)).map D.int)=(((0:Int)::rows.map (·.1)).zip (rows.map (·.1))).map boxD:=tup_zip (0::List.map Prod.fst rows) (List.map Prod.fst rows)
  simp_arith [ad,tz,e_cp hl2,inW,shOf,cm,bAll,bAll_a,ris_all h]
theorem edges_at {h l:Int} {bs:List (Int×Int)} (hb:bs.length≤30):m_gap_edges [.int h,.int l,.lst (bs.map boxD)]=some (.fr ((gapsL (Pz h l bs)).map edD)):=by
  unfold m_gap_edges B_gap_edges
  have hl:((gapsL (Pz h l bs)).map boxD).length≤1000000:=by rw [List.length_map];have:=gp_len (h:=h) (l:=l) hb;omega
  have cm:=compD_mapA (i:=0) (f:=E1_gap_edges) boxD edD (gapsL (Pz h l bs)) (ω:=[none]) (fun q hq=>by
    obtain ⟨a,b⟩:=q
    unfold E1_gap_edges boxD edD
    simp_arith [e_seq])
  have g:=gaps_at (h:=h) (l:=l) hb
  rw [show sortU (plc h l bs)=Pz h l bs from rfl] at g
  simp_arith [g,e_cp hl,inW,shOf,cm]
theorem kn_len {h l:Int} {bs:List (Int×Int)} (hb:bs.length≤30):(Kn h l bs).length≤1000:=by
  unfold Kn
  have h1:=List.length_filter_le (fun q=>!(lackI h l bs q == 0)) (gapsL (Pz h l bs))
  have h2:(gapsL (Pz h l bs)).length≤64:=by rw [gapsL_len];have:=pz_len (h:=h) (l:=l) hb;omega
  rw [List.length_append,List.length_append,List.length_singleton];omega
theorem are_levels_at {h l:Int} {bs:List (Int×Int)} {rows:List (Int×List (List Int))} (hb:bs.length≤30) (hr:rows.length≤1000) (ris:risF 0 rows) (L:∀ r∈rows,Lev (Pz h l bs) (Kn h l bs) r) :
    m_are_levels [.int h,.int l,.lst (bs.map boxD),.lst (rows.map levD)]=some (.sh (.bl true)):=by
  unfold m_are_levels B_are_levels
  have s:=stops_at (h:=h) (l:=l) hb
  have k:=knots_at (h:=h) (l:=l) hb
  rw [show sortU (plc h l bs)=Pz h l bs from rfl] at s k
  rw [show (bs++[(h,l)]++(gapsL (Pz h l bs)).filter fun q=>!(lackI h l bs q == 0))=Kn h l bs from rfl] at k
  have ed:=edges_at (h:=h) (l:=l) hb
  have hl:(rows.map levD).length≤1000000:=by rw [List.length_map];omega
  have c1:=compD_mapA (i:=0) (f:=E1_are_levels) levD (fun _=>D.bl true) rows (ω:=[none,some (.sh (.lst ((Pz h l bs).map D.int))),some (.sh (.lst ((Kn h l bs).map boxD))),some (.sh (.lst ((gapsL (Pz h l bs)).map edD)))]) (fun r hr=>by
    have il:=is_level_at (pz_rise h l bs) (pz_len hb) (kn_len hb) (L r hr)
    unfold E1_are_levels
    simp_arith [il])
  have c2:=compD_mapA (i:=0) (f:=E2_are_levels) levD (fun r=>D.int r.1) rows (ω:=[none]) (fun r hr=>by
    unfold E2_are_levels levD
    simp_arith [e_seq])
  simp_arith [s,k,ed,e_cp hl,inW,shOf,c1,c2,bAll,all_t,rise_at ris hr]
theorem is_reason_at {h l:Int} {bs:List (Int×Int)} {rows:List (Int×List (List Int))} (hb:bs.length≤30) (hr:rows.length≤1000) (ris:risF 0 rows) (L:∀ r∈rows,Lev (Pz h l bs) (Kn h l bs) r) :
    m_is_reason [.int h,.int l,.lst (bs.map boxD),.tup [.lst ((gapsL (Pz h l bs)).map (cntD bs)),.lst (rows.map levD)]]=some (.sh (.bl true)):=by
  unfold m_is_reason B_is_reason
  have c:=check_ok (h:=h) (l:=l) (bs:=bs) (by omega)
  have l2:(((2:Nat):Int) == 2)=true:=rfl
  simp_arith [l2,c,counts_of_at hb,are_counts_at (gp_len hb),are_levels_at hb hr ris L]
theorem weigh_loop {D0 D1:Option W}:∀ (rows:List (Int×List (List Int))) (tot a:Int) (x4 x5:Option W),(∀ r∈rows,r.2.length≤1000)→∃ a' y4 y5,forD (gT 2 (gsCons (gN 4) (gsCons (gN 5) gsNil))) L1_weighed (rows.map levD) [D0,some (.sh (.int 1)),some (.sh (.int tot)),some (.sh (.int a)),x4,x5] =
    some (.nx,[D0,some (.sh (.int 1)),some (.sh (.int (tot+wgh a rows))),some (.sh (.int a')),y4,y5])
  | [],tot,a,x4,x5,_=>⟨a,x4,x5,by show some _=_;rw [show tot+wgh a []=tot from Int.add_zero _]⟩
  | r::rs,tot,a,x4,x5,h=>by
    obtain ⟨t,gs⟩:=r
    have hg:=h (t,gs) List.mem_cons_self
    obtain ⟨a',y4,y5,ih⟩:=weigh_loop (D0:=D0) (D1:=D1) rs (tot+(t - a)*((gs.length:Int) - 1)) t (some (.sh (.int t))) (some (.sh (.lst (gs.map gD)))) fun r hr=>h r (List.mem_cons_of_mem _ hr)
    refine ⟨a',y4,y5,?_⟩
    have mu:oMul (.int (t - a)) (.int ((gs.length:Int) - 1))=some (.sh (.int ((t - a)*((gs.length:Int) - 1)))):=oMulR_ii (by simp only at hg;omega) (by simp only at hg;omega)
    rw [List.map_cons,forD]
    show Option.bind (some [D0,some (.sh (.int 1)),some (.sh (.int tot)),some (.sh (.int a)),some (.sh (.int t)),some (.sh (.lst (gs.map gD)))]) _=_
    rw [Option.bind_some]
    have st:L1_weighed [D0,some (.sh (.int 1)),some (.sh (.int tot)),some (.sh (.int a)),some (.sh (.int t)),some (.sh (.lst (gs.map gD)))]=some (.nx,[D0,some (.sh (.int 1)),some (.sh (.int (tot+(t - a)*((gs.length:Int) - 1)))),some (.sh (.int t)),some (.sh (.int t)),some (.sh (.lst (gs.map gD)))]):=by
      unfold L1_weighed
      simp_arith [mu]
    rw [st]
    show forD _ _ _ _=_
    rw [ih,show wgh a ((t,gs)::rs)=(t - a)*((gs.length:Int) - 1)+wgh t rs from rfl,Int.add_assoc]
theorem weighed_at {rows:List (Int×List (List Int))} (h:∀ r∈rows,r.2.length≤1000):m_weighed [.lst (rows.map levD),.int 1]=some (.sh (.int (wgh 0 rows))):=by
  unfold m_weighed B_weighed
  obtain ⟨a',y4,y5,e⟩:=weigh_loop (D0:=some (.sh (.lst (rows.map levD)))) (D1:=none) rows 0 0 none none h
  simp_arith [e,Int.zero_add]
theorem cnt_small {bs:List (Int×Int)} {q:Int×Int}:0≤rts bs q∧rts bs q≤bs.length∧0≤lfs bs q∧lfs bs q≤bs.length:=by
  unfold rts lfs
  have h1:=List.length_filter_le (fun p:Int×Int=>over p.1 p.2 q) bs
  have h2:=List.length_filter_le (fun p:Int×Int=>over p.2 p.1 q) bs
  omega
theorem lack_small {h l:Int} {bs:List (Int×Int)} {q:Int×Int} (hb:bs.length≤30):-100≤lackI h l bs q∧lackI h l bs q≤100:=by
  unfold lackI
  have h1:=cnt_small (bs:=bs) (q:=q)
  have h2:=cnt_small (bs:=[(h,l)]) (q:=q)
  simp only [List.length_singleton] at h2
  omega
noncomputable def gwt (h l:Int) (bs:List (Int×Int)) (g:Int×Int):Int:=(g.2 - g.1)*(rts bs g+lfs bs g+absI (lackI h l bs g))
theorem gap_weight_at {h l:Int} {bs:List (Int×Int)} {q:Int×Int} (hb:bs.length≤30):m_gap_weight [cntD bs q,.int (lackI h l bs q)]=some (.sh (.int (gwt h l bs q))):=by
  unfold m_gap_weight B_gap_weight cntD gwt
  have h1:=cnt_small (bs:=bs) (q:=q)
  have h2:=lack_small (h:=h) (l:=l) (q:=q) hb
  have ha:bAbs [.int (lackI h l bs q)]=some (.sh (.int (absI (lackI h l bs q)))):=rfl
  have h3:-100≤absI (lackI h l bs q)∧absI (lackI h l bs q)≤100:=by unfold absI;split <;> omega
  have mu:oMul (.int (q.2 - q.1)) (.int (rts bs q+lfs bs q+absI (lackI h l bs q)))=some (.sh (.int ((q.2 - q.1)*(rts bs q+lfs bs q+absI (lackI h l bs q))))):=oMulR_ii (by omega) (by omega)
  have a3:∀ a b c d:D,atI [a,b,c,d] 3=some d:=fun _ _ _ _=>rfl
  simp_arith [ha,a3,mu]
theorem tup_cl (f:Int×Int→Int) (B:Int×Int→D):∀ L:List (Int×Int),tupL (L.map B) ((L.map f).map D.int)=L.map fun q=>D.tup [B q,.int (f q)]
  | []=>rfl
  | q::L=>by show D.tup [B q,.int (f q)]::tupL (L.map B) ((L.map f).map D.int)=_;rw [tup_cl f B L];rfl
theorem weight_at {h l:Int} {bs:List (Int×Int)} {rows:List (Int×List (List Int))} (hb:bs.length≤30) (hr:rows.length≤1000) (ris:risF 0 rows) (L:∀ r∈rows,Lev (Pz h l bs) (Kn h l bs) r) :
    m_weight [.int h,.int l,.lst (bs.map boxD),.tup [.lst ((gapsL (Pz h l bs)).map (cntD bs)),.lst (rows.map levD)]]=some (.sh (.int (((gapsL (Pz h l bs)).map (gwt h l bs)).sum+2*wgh 0 rows))):=by
  unfold m_weight B_weight
  have lk:=lacks_at (h:=h) (l:=l) hb
  rw [show sortU (plc h l bs)=Pz h l bs from rfl] at lk
  have hz:tupL ((gapsL (Pz h l bs)).map (cntD bs)) (((gapsL (Pz h l bs)).map (lackI h l bs)).map D.int)=(gapsL (Pz h l bs)).map fun q=>D.tup [cntD bs q,.int (lackI h l bs q)]:=tup_cl _ _ _
  have hl:((gapsL (Pz h l bs)).map fun q=>D.tup [cntD bs q,.int (lackI h l bs q)]).length≤1000000:=by rw [List.length_map];have:=gp_len (h:=h) (l:=l) hb;omega
  have cm:=compD_relA (g:=gT 2 (gsCons (gN 0) (gsCons (gN 1) gsNil))) (c:=tTrue) (f:=E1_weight) (fun w=>∃ a b,w=[a,b]) (fun _=>true) (fun q=>D.tup [cntD bs q,.int (lackI h l bs q)]) (fun q=>D.int (gwt h l bs q)) (gapsL (Pz h l bs)) (ω:=[none,none]) ⟨_,_,rfl⟩ (fun q _ w ⟨a,b,hw⟩=>by
    subst hw
    refine ⟨[some (.sh (cntD bs q)),some (.sh (.int (lackI h l bs q)))],rfl,⟨_,_,rfl⟩,rfl,fun _=>?_⟩
    have g:=gap_weight_at (h:=h) (l:=l) (q:=q) hb
    unfold E1_weight
    simp_arith [g])
  rw [List.filter_eq_self.mpr (fun _ _=>rfl)] at cm
  have gl:∀ r∈rows,r.2.length≤1000:=fun r hr=>by
    have h1:=len_gs_le (L r hr).ne
    rw [(L r hr).pm.length_eq] at h1
    have:=pz_len (h:=h) (l:=l) hb
    omega
  have wg:=weighed_at gl
  have mu:oMul (.int 2) (.int (wgh 0 rows))=some (.sh (.int (2*wgh 0 rows))):=oMulL_ii (by decide) (by decide)
  simp_arith [is_reason_at hb hr ris L,lk,hz,e_cp hl,inW,shOf,cm,bSum_a,wg,mu]
noncomputable def lastT (a:Int):List (Int×List (List Int))→Int
  | []=>a
  | r::rs=>lastT r.1 rs
theorem ris_snoc:∀ {rows:List (Int×List (List Int))} {a:Int} {r:Int×List (List Int)},risF a rows→lastT a rows < r.1→risF a (rows++[r])
  | [],_,_,_,h=>⟨h,trivial⟩
  | _::_,_,_,⟨h1,h2⟩,h=>⟨h1,ris_snoc h2 h⟩
theorem last_snoc:∀ (rows:List (Int×List (List Int))) (a:Int) (r:Int×List (List Int)),lastT a (rows++[r])=r.1
  | [],_,_=>rfl
  | s::rows,_,r=>last_snoc rows s.1 r
theorem mem_pz {h l:Int} {bs:List (Int×Int)} (p:Int):p∈Pz h l bs↔p=h∨p=l∨∃ b∈bs,p=b.1∨p=b.2:=by
  unfold Pz
  rw [mem_sortU]
  unfold plc flat
  simp only [List.mem_cons,List.mem_flatMap,List.not_mem_nil,or_false]
theorem gap_in {P:List Int} {g:Int×Int} (h:g∈gapsL P):∃ (i:Nat) (hi:i+1 < P.length),g=(P[i],P[i+1]):=by
  obtain ⟨i,hi,rfl⟩:=List.mem_iff_getElem.mp h
  have hi':=hi
  rw [gapsL_len] at hi'
  have e:=gapsL_at (P:=P) (i:=i) (by omega)
  refine ⟨i,by omega,?_⟩
  rw [List.getElem?_eq_getElem hi] at e
  exact Option.some.inj e
theorem gap_mem {P:List Int} {g:Int×Int} (h:g∈gapsL P):g.1∈P∧g.2∈P:=by
  obtain ⟨i,hi,rfl⟩:=gap_in h
  exact ⟨List.getElem_mem _,List.getElem_mem _⟩
theorem pz_gap {h l:Int} {bs:List (Int×Int)} (hb:bs.length≤30):∀ g∈gapsL (Pz h l bs),Gap h l bs g:=fun g hg=>by
  have S:=stp h l hb
  obtain ⟨i,hi,rfl⟩:=gap_in hg
  have am:∀ x∈Pz h l bs,x≤(Pz h l bs)[i]∨(Pz h l bs)[i+1]≤x:=fun x hx=>Stp.amid (P:=Pz h l bs) S hi hx
  exact ⟨Stp.lt (P:=Pz h l bs) S (by omega) hi (by omega),am h ((mem_pz h).mpr (.inl rfl)),am l ((mem_pz l).mpr (.inr (.inl rfl))),fun b hb=>⟨am _ ((mem_pz _).mpr (.inr (.inr ⟨b,hb,.inl rfl⟩))),am _ ((mem_pz _).mpr (.inr (.inr ⟨b,hb,.inr rfl⟩)))⟩⟩
theorem kn_in {h l:Int} {bs:List (Int×Int)} {e:Int×Int} (he:e∈Kn h l bs):e.1∈Pz h l bs∧e.2∈Pz h l bs:=by
  unfold Kn at he
  rcases List.mem_append.mp he with he|he
  · rcases List.mem_append.mp he with he|he
    · exact ⟨(mem_pz _).mpr (.inr (.inr ⟨e,he,.inl rfl⟩)),(mem_pz _).mpr (.inr (.inr ⟨e,he,.inr rfl⟩))⟩
    · cases List.mem_singleton.mp he
      exact ⟨(mem_pz _).mpr (.inl rfl),(mem_pz _).mpr (.inr (.inl rfl))⟩
  · exact gap_mem (List.mem_filter.mp he).1
theorem frev_e {f:FD} {ω:WSt}:fRev f ω=(f ω).bind oRev:=rfl
theorem orev_l {ds:List D}:oRev (.lst ds)=some (.fr ds.reverse):=rfl
theorem lvl_step {ns:List Int} {h l:Int} {bs:List (Int×Int)} (hb:bs.length≤30) {rows:List (Int×List (List Int))} (hr:rows.length≤100) (t c:Int) (x8 x9:Option W):∃ (T:Int) (gs:List (List Int)) (y8 y9:Option W),
    L1__law_levels [some (.sh (.scr ns)),some (.sh (.int h)),some (.sh (.int l)),some (.sh (.lst (bs.map boxD))),some (.sh (.lst ((Pz h l bs).map D.int))),some (.ow (rows.map levD)),some (.sh (.int t)),some (.sh (.int c)),x8,x9] =
      some (.nx,[some (.sh (.scr ns)),some (.sh (.int h)),some (.sh (.int l)),some (.sh (.lst (bs.map boxD))),some (.sh (.lst ((Pz h l bs).map D.int))),some (.ow (rows.map levD++[levD (T,gs)])),some (.sh (.int T)),some (.sh (.int c)),y8,y9])∧t < T∧Lev (Pz h l bs) (Kn h l bs) (T,gs):=by
  have h4:0≤c % 4∧c % 4 < 4:=by omega
  have p39:oPow (.int 10) (.int 39)=some (.sh (.int (10 ^ 39))):=rfl
  obtain ⟨d,hd,m,rfl,hm,om⟩:=at_all (ds:=[.int 1,.int 20,.int 2000,.int (10 ^ 39)]) (i:=c % 4) (fun d=>∃ m:Int,d=D.int m∧0 < m∧oMod (.int (c / 4)) (.int m)=some (.sh (.int (c / 4 % m)))) h4.1 h4.2 (by
    intro d hd
    simp only [List.mem_cons,List.not_mem_nil,or_false] at hd
    rcases hd with rfl|rfl|rfl|rfl
    · exact ⟨_,rfl,by decide,oMod_ii (by decide)⟩
    · exact ⟨_,rfl,by decide,oMod_ii (by decide)⟩
    · exact ⟨_,rfl,by decide,oMod_ii (by decide)⟩
    · exact ⟨_,rfl,by decide,oMod_ii (by decide)⟩)
  simp only [Int.reducePow] at p39 hd
  obtain ⟨T,hTe⟩:∃ T,t+1+c / 4 % m=T:=⟨_,rfl⟩
  have hT:t < T:=by have:=Int.emod_nonneg (c / 4) (show m≠0 by omega);omega
  have ppos:0 < (Pz h l bs).length:=(stp h l hb).pos
  have plen:=pz_len (h:=h) (l:=l) hb
  have k:=knots_at (h:=h) (l:=l) hb
  have g:=gaps_at (h:=h) (l:=l) hb
  rw [show sortU (plc h l bs)=Pz h l bs from rfl] at k g
  rw [show (bs++[(h,l)]++(gapsL (Pz h l bs)).filter fun q=>!(lackI h l bs q == 0))=Kn h l bs from rfl] at k
  have glen:(gapsL (Pz h l bs)).length≤64:=by rw [gapsL_len];omega
  have hl2:((gapsL (Pz h l bs)).map boxD).length≤1000000:=by rw [List.length_map];omega
  have cm:=compD_filA (i:=0) (c:=T1__law_levels) (f:=E1__law_levels) (fun q=>decide (q.2 - q.1 < T)) boxD boxD (gapsL (Pz h l bs)) (ω:=[none,some (.sh (.int T))]) (fun q hq=>by
    obtain ⟨a,b⟩:=q
    unfold T1__law_levels E1__law_levels boxD
    simp_arith [e_seq]
    exact ⟨trivial,fun _=>trivial⟩)
  have sl:((gapsL (Pz h l bs)).filter fun q=>decide (q.2 - q.1 < T)).length≤64:=Nat.le_trans (List.length_filter_le _ _) glen
  have sin:∀ e∈(gapsL (Pz h l bs)).filter (fun q=>decide (q.2 - q.1 < T)),e.1∈Pz h l bs∧e.2∈Pz h l bs:=fun e he=>gap_mem (List.mem_filter.mp he).1
  have sub0:∀ e∈Kn h l bs++(gapsL (Pz h l bs)).filter (fun q=>decide (q.2 - q.1 < T)),e∈Kn h l bs++(gapsL (Pz h l bs)).filter (fun q=>decide (q.2 - q.1 < T)):=fun _ he=>he
  have knl:=kn_len (h:=h) (l:=l) hb
  have kl:(Kn h l bs).length≤200:=by
    unfold Kn
    have h1:=List.length_filter_le (fun q=>!(lackI h l bs q == 0)) (gapsL (Pz h l bs))
    rw [List.length_append,List.length_append,List.length_singleton];omega
  have ad1:oAdd (.lst ((Kn h l bs).map boxD)) (.lst (((gapsL (Pz h l bs)).filter fun q=>decide (q.2 - q.1 < T)).map boxD))=some (.fr ((Kn h l bs++(gapsL (Pz h l bs)).filter fun q=>decide (q.2 - q.1 < T)).map boxD)):=by
    rw [oAdd_ll (by rw [List.length_map,List.length_map];omega),List.map_append]
  generalize hsh:((gapsL (Pz h l bs)).filter fun q=>decide (q.2 - q.1 < T))=sh at cm sl sin ad1 sub0
  have core:∀ ex:List (Int×Int),ex.length≤1→(∀ e∈ex,e.1∈Pz h l bs∧e.2∈Pz h l bs)→∃ gs:List (List Int),m_groups [.lst ((Pz h l bs).map D.int),.lst ((Kn h l bs++sh++ex).map boxD)]=some (.fr (gs.map gD))∧Lev (Pz h l bs) (Kn h l bs) (T,gs):=fun ex hex hin=>by
    have ok:Ok (Pz h l bs) (Kn h l bs++sh++ex):=⟨(pz_rise h l bs).imp fun {a b} z=>Int.ne_of_lt z,fun e he=>by
      rcases List.mem_append.mp he with he|he
      · rcases List.mem_append.mp he with he|he
        · exact kn_in he
        · exact sin e he
      · exact hin e he,plen,by rw [List.length_append,List.length_append];omega⟩
    obtain ⟨gs,hs,e1,e2,e3,_⟩:=groups_at ok
    exact ⟨gs,e1,gs_lev ok e2 e3 fun e he=>by rw [hsh] at he;exact List.mem_append_left _ he⟩
  have rv:∀ gs:List (List Int),compD (gN 0) tTrue E2__law_levels (gs.map gD).reverse [none]=some ((gs.reverse.map List.reverse).map gD):=fun gs=>by
    rw [←List.map_reverse,List.map_map]
    refine compD_mapA gD (gD ∘ List.reverse) gs.reverse fun g _=>?_
    unfold E2__law_levels gD
    simp_arith [frev_e,orev_l,Function.comp,List.map_reverse]
  have rl:∀ {gs:List (List Int)},Lev (Pz h l bs) (Kn h l bs) (T,gs)→(gs.map gD).reverse.length≤1000000:=fun {gs} L=>by
    have h1:=len_gs_le L.ne
    rw [L.pm.length_eq] at h1
    have h2:gs.length≤(Pz h l bs).length:=h1
    rw [List.length_reverse,List.length_map];omega
  have hrl:(rows.map levD).length < 1000000:=by rw [List.length_map];omega
  obtain ⟨dp,hp,p,rfl,pin⟩:=at_all (ds:=(Pz h l bs).map D.int) (i:=c / 21 % ((Pz h l bs).length:Int)) (fun d=>∃ p,d=D.int p∧p∈Pz h l bs) (Int.emod_nonneg _ (by omega)) (by rw [List.length_map];exact Int.emod_lt_of_pos _ (by omega)) (fun d hd=>by obtain ⟨p,h1,rfl⟩:=List.mem_map.mp hd;exact ⟨p,rfl,h1⟩)
  obtain ⟨dq,hq,q,rfl,qin⟩:=at_all (ds:=(Pz h l bs).map D.int) (i:=c / 168 % ((Pz h l bs).length:Int)) (fun d=>∃ p,d=D.int p∧p∈Pz h l bs) (Int.emod_nonneg _ (by omega)) (by rw [List.length_map];exact Int.emod_lt_of_pos _ (by omega)) (fun d hd=>by obtain ⟨p,h1,rfl⟩:=List.mem_map.mp hd;exact ⟨p,rfl,h1⟩)
  have om1:∀ x:Int,oMod (.int x) (.int ((Pz h l bs).length:Int))=some (.sh (.int (x % ((Pz h l bs).length:Int)))):=fun x=>oMod_ii (by omega)
  have ad2:oAdd (.lst ((Kn h l bs++sh).map boxD)) (.lst [.tup [.int p,.int q]])=some (.fr ((Kn h l bs++sh++[(p,q)]).map boxD)):=by
    rw [oAdd_ll (by rw [List.length_map,List.length_append,List.length_singleton];omega),List.map_append (l₂:=[(p,q)])];rfl
  obtain ⟨gs,e1,L1⟩:=core [] (by decide) (fun e he=>by cases he)
  obtain ⟨gs',e1',L1'⟩:=core [(p,q)] (Nat.le_refl 1) (fun e he=>by cases List.mem_singleton.mp he;exact ⟨pin,qin⟩)
  rw [List.append_nil] at e1
  have lev_eq:∀ gs:List (List Int),D.tup [.int T,.lst (gs.map gD)]=levD (T,gs):=fun _=>rfl
  unfold L1__law_levels
  by_cases z1:c / 7 % 3=1 <;> by_cases z2:c / 5 % 2=1
  · have z1':(c / 7 % 3 == 1)=true:=by simpa using z1
    have z2':(c / 5 % 2 == 1)=true:=by simpa using z2
    simp_arith [p39,hd,om,hTe,k,g,e_cp hl2,inW,shOf,cm,ad1,z1',z2',om1,hp,hq,ad2,e1',e_cp (rl L1'),rv,e_as hrl,lev_eq]
    exact ⟨T,_,_,_,rfl,hT,lev_rev L1'⟩
  · have z1':(c / 7 % 3 == 1)=true:=by simpa using z1
    have z2':(c / 5 % 2 == 1)=false:=by simpa using z2
    simp_arith [p39,hd,om,hTe,k,g,e_cp hl2,inW,shOf,cm,ad1,z1',z2',om1,hp,hq,ad2,e1',e_as hrl,lev_eq]
    exact ⟨T,_,_,_,rfl,hT,L1'⟩
  · have z1':(c / 7 % 3 == 1)=false:=by simpa using z1
    have z2':(c / 5 % 2 == 1)=true:=by simpa using z2
    simp_arith [p39,hd,om,hTe,k,g,e_cp hl2,inW,shOf,cm,ad1,z1',z2',e1,e_cp (rl L1),rv,e_as hrl,lev_eq]
    exact ⟨T,_,_,_,rfl,hT,lev_rev L1⟩
  · have z1':(c / 7 % 3 == 1)=false:=by simpa using z1
    have z2':(c / 5 % 2 == 1)=false:=by simpa using z2
    simp_arith [p39,hd,om,hTe,k,g,e_cp hl2,inW,shOf,cm,ad1,z1',z2',e1,e_as hrl,lev_eq]
    exact ⟨T,_,_,_,rfl,hT,L1⟩
theorem levels_at {ns:List Int} {h l:Int} {bs:List (Int×Int)} (hb:bs.length≤30):∃ rows:List (Int×List (List Int)),m__law_levels [.scr ns,.int h,.int l,.lst (bs.map boxD)]=some (.fr (rows.map levD))∧rows.length≤6∧risF 0 rows∧∀ r∈rows,Lev (Pz h l bs) (Kn h l bs) r:=by
  unfold m__law_levels B__law_levels
  have hc:=cell_at (ns:=ns) (k:=0) (by decide)
  have s:=stops_at (h:=h) (l:=l) hb
  rw [show sortU (plc h l bs)=Pz h l bs from rfl] at s
  have h6:0≤ns.getD 0 0 / 4096 % 6∧ns.getD 0 0 / 4096 % 6 < 6:=by omega
  obtain ⟨d,hd,k,rfl,hk⟩:=at_all (ds:=[.int 6,.int 3,.int 1,.int 0,.int 2,.int 6]) (i:=ns.getD 0 0 / 4096 % 6) (fun d=>∃ k:Nat,d=D.int (k:Int)∧k≤6) h6.1 h6.2 (by
    intro d hd
    simp only [List.mem_cons,List.not_mem_nil,or_false] at hd
    rcases hd with rfl|rfl|rfl|rfl|rfl|rfl
    · exact ⟨6,rfl,by decide⟩
    · exact ⟨3,rfl,by decide⟩
    · exact ⟨1,rfl,by decide⟩
    · exact ⟨0,rfl,by decide⟩
    · exact ⟨2,rfl,by decide⟩
    · exact ⟨6,rfl,by decide⟩)
  have hcl:(cutD ns (some 57) (some (57+(k:Int)))).length≤6:=by
    have e1:HT.sIx ns.length 0 (some 57)=min 57 ns.length:=HT.sIx_nat ns.length 0 57
    have e2:HT.sIx ns.length ns.length (some (57+(k:Int)))=min (57+k) ns.length:=by
      have:=HT.sIx_nat ns.length ns.length (57+k)
      rw [show ((57+k:Nat):Int)=57+(k:Int) by omega] at this
      exact this
    unfold cutD
    rw [e1,e2,List.length_take]
    omega
  simp_arith [s,hc,hd,oSl_s]
  generalize cutD ns (some 57) (some (57+(k:Int)))=cells at hcl
  obtain ⟨ω',e,rows,x7,x8,x9,rfl,i1,i2,i3⟩:=forD_map (g:=gN 7) (b:=L1__law_levels) D.int cells
    (fun pre ω=>∃ (rows:List (Int×List (List Int))) (x7 x8 x9:Option W),ω=[some (.sh (.scr ns)),some (.sh (.int h)),some (.sh (.int l)),some (.sh (.lst (bs.map boxD))),some (.sh (.lst ((Pz h l bs).map D.int))),some (.ow (rows.map levD)),some (.sh (.int (lastT 0 rows))),x7,x8,x9]∧rows.length=pre.length∧risF 0 rows∧∀ r∈rows,Lev (Pz h l bs) (Kn h l bs) r)
    (fun pre c post ω hd ⟨rows,x7,x8,x9,hω,i1,i2,i3⟩=>by
      subst hω
      refine ⟨_,rfl,?_⟩
      have hlen:rows.length≤100:=by
        have:=congrArg List.length hd
        rw [List.length_append,List.length_cons] at this
        omega
      obtain ⟨T,gs,y8,y9,e,hT,L⟩:=lvl_step (ns:=ns) (h:=h) (l:=l) hb hlen (lastT 0 rows) c x8 x9
      show stepS (L1__law_levels [some (.sh (.scr ns)),some (.sh (.int h)),some (.sh (.int l)),some (.sh (.lst (bs.map boxD))),some (.sh (.lst ((Pz h l bs).map D.int))),some (.ow (rows.map levD)),some (.sh (.int (lastT 0 rows))),some (.sh (.int c)),x8,x9]) _
      rw [e]
      refine ⟨rows++[(T,gs)],_,_,_,by rw [List.map_append,last_snoc];rfl,by rw [List.length_append,List.length_append,i1];rfl,ris_snoc i2 hT,fun r hr=>?_⟩
      rcases List.mem_append.mp hr with y|y
      · exact i3 r y
      · cases List.mem_singleton.mp y;exact L)
    (ω:=[some (.sh (.scr ns)),some (.sh (.int h)),some (.sh (.int l)),some (.sh (.lst (bs.map boxD))),some (.sh (.lst ((Pz h l bs).map D.int))),some (.ow []),some (.sh (.int 0)),none,none,none]) ⟨[],none,none,none,rfl,rfl,trivial,by simp⟩
  refine ⟨rows,?_,by omega,i2,i3⟩
  simp_arith [e]
theorem lcounts_at {h l:Int} {bs:List (Int×Int)} (hb:bs.length≤30):m__law_counts [.int h,.int l,.lst (bs.map boxD)]=some (.fr ((gapsL (Pz h l bs)).map (cntD bs))):=by
  unfold m__law_counts B__law_counts
  have hl:((gapsL (Pz h l bs)).map boxD).length≤1000000:=by rw [List.length_map];have:=gp_len (h:=h) (l:=l) hb;omega
  have cm:=compD_mapA (i:=0) (f:=E1__law_counts) boxD (cntD bs) (gapsL (Pz h l bs)) (ω:=[none,some (.sh (.lst (bs.map boxD)))]) (fun q hq=>by
    have c:=crossed_at (bs:=bs) (q:=q) (by omega)
    have ha:oAdd (boxD q) (.tup [.int (rts bs q),.int (lfs bs q)])=some (.sh (cntD bs q)):=rfl
    unfold E1__law_counts
    simp_arith [c,ha])
  have g:=gaps_at (h:=h) (l:=l) hb
  rw [show sortU (plc h l bs)=Pz h l bs from rfl] at g
  simp_arith [g,e_cp hl,inW,shOf,cm]
theorem at3m {a b c:D}:atI [a,b,c] (-1)=some c∧atI [a,b,c] (-2)=some b:=⟨rfl,rfl⟩
theorem at4m {a b c d:D}:atI [a,b,c,d] (-1)=some d∧atI [a,b,c,d] (-2)=some c:=⟨rfl,rfl⟩
theorem ways_at (ms:List Mv):compD (gN 0) tTrue E1_law (ms.map mvD) [none]=some (ms.map fun m=>D.int (wayI m)):=compD_mapA mvD (fun m=>D.int (wayI m)) ms fun m _=>by
  unfold E1_law
  cases m <;> simp_arith [mvD,at3m,at4m,bAbs] <;> rfl
theorem law_true (ns:List Int) (hl:ns.length≤63):m_law [.scr ns]=some (.sh (.bl true)):=by
  obtain ⟨h,l,bs,e1,hb⟩:=errand (ns:=ns) (most:=10) (by decide) (by decide)
  have hb':bs.length≤30:=by omega
  obtain ⟨rows,e2,r1,r2,r3⟩:=levels_at (ns:=ns) (h:=h) (l:=l) hb'
  have w:=weight_at hb' (by omega) r2 r3
  have hcl:(cutD ns (some 23) (some 57)).length≤100:=by
    have e1:HT.sIx ns.length 0 (some 23)=min 23 ns.length:=HT.sIx_nat ns.length 0 23
    have e2:HT.sIx ns.length ns.length (some 57)=min 57 ns.length:=HT.sIx_nat ns.length ns.length 57
    unfold cutD
    rw [e1,e2,List.length_take]
    omega
  obtain ⟨ms,d1,d2,d3,d4⟩:=drawn_at (home:=h) (last:=l) (bs:=bs) (cells:=cutD ns (some 23) (some 57)) (by omega) hcl
  have hml:(ms.map mvD).length≤1000000:=by rw [List.length_map];omega
  have low:=low_bound (pz_rise h l bs) (stp h l hb').ne d2 d3 mem_pz (pz_gap hb') r2 r3
  have le:((gapsL (Pz h l bs)).map (gwt h l bs)).sum+2*wgh 0 rows≤(ms.map wayI).sum:=low
  unfold m_law B_law
  simp_arith -implicitDefEqProofs [e1,e2,lcounts_at hb',w,oSl_s,d1,e_cp hml,inW,shOf,ways_at,bSum_a,le,decide_true]
theorem all_mk {l:PySem.W.OpenLaw} {w:World} {K:PySem.W.Frag} {h:Heap} {mg:Str→Option Value} {fa:Addr} (X:K.In h) (G:h.Ns mainGlobals mg) (hfa:mg "law" = some (.ref fa))
    {od0 an0:Option Addr} {sl0:Array (Option Value)} {oc0 kV0 dc0 pm0 cd0 ct0:Value} {f0:Addr}
    {od1 an1:Option Addr} {sl1:Array (Option Value)} {oc1 kV1 dc1 pm1 cd1 ct1:Value} {f1:Addr}
    {od2 an2:Option Addr} {sl2:Array (Option Value)} {oc2 kV2 dc2 pm2 cd2 ct2:Value} {f2:Addr}
    {od3 an3:Option Addr} {sl3:Array (Option Value)} {oc3 kV3 dc3 pm3 cd3 ct3:Value} {f3:Addr}
    {od4 an4:Option Addr} {sl4:Array (Option Value)} {oc4 kV4 dc4 pm4 cd4 ct4:Value} {f4:Addr}
    {od5 an5:Option Addr} {sl5:Array (Option Value)} {oc5 kV5 dc5 pm5 cd5 ct5:Value} {f5:Addr}
    {od6 an6:Option Addr} {sl6:Array (Option Value)} {oc6 kV6 dc6 pm6 cd6 ct6:Value} {f6:Addr}
    {od7 an7:Option Addr} {sl7:Array (Option Value)} {oc7 kV7 dc7 pm7 cd7 ct7:Value} {f7:Addr}
    {od8 an8:Option Addr} {sl8:Array (Option Value)} {oc8 kV8 dc8 pm8 cd8 ct8:Value} {f8:Addr}
    {od9 an9:Option Addr} {sl9:Array (Option Value)} {oc9 kV9 dc9 pm9 cd9 ct9:Value} {f9:Addr}
    {od10 an10:Option Addr} {sl10:Array (Option Value)} {oc10 kV10 dc10 pm10 cd10 ct10:Value} {f10:Addr}
    {od11 an11:Option Addr} {sl11:Array (Option Value)} {oc11 kV11 dc11 pm11 cd11 ct11:Value} {f11:Addr}
    {od12 an12:Option Addr} {sl12:Array (Option Value)} {oc12 kV12 dc12 pm12 cd12 ct12:Value} {f12:Addr}
    {od13 an13:Option Addr} {sl13:Array (Option Value)} {oc13 kV13 dc13 pm13 cd13 ct13:Value} {f13:Addr}
    {od14 an14:Option Addr} {sl14:Array (Option Value)} {oc14 kV14 dc14 pm14 cd14 ct14:Value} {f14:Addr}
    {od15 an15:Option Addr} {sl15:Array (Option Value)} {oc15 kV15 dc15 pm15 cd15 ct15:Value} {f15:Addr}
    {od16 an16:Option Addr} {sl16:Array (Option Value)} {oc16 kV16 dc16 pm16 cd16 ct16:Value} {f16:Addr}
    {od17 an17:Option Addr} {sl17:Array (Option Value)} {oc17 kV17 dc17 pm17 cd17 ct17:Value} {f17:Addr}
    {od18 an18:Option Addr} {sl18:Array (Option Value)} {oc18 kV18 dc18 pm18 cd18 ct18:Value} {f18:Addr}
    {od19 an19:Option Addr} {sl19:Array (Option Value)} {oc19 kV19 dc19 pm19 cd19 ct19:Value} {f19:Addr}
    {od20 an20:Option Addr} {sl20:Array (Option Value)} {oc20 kV20 dc20 pm20 cd20 ct20:Value} {f20:Addr}
    {od21 an21:Option Addr} {sl21:Array (Option Value)} {oc21 kV21 dc21 pm21 cd21 ct21:Value} {f21:Addr}
    {od22 an22:Option Addr} {sl22:Array (Option Value)} {oc22 kV22 dc22 pm22 cd22 ct22:Value} {f22:Addr}
    {od23 an23:Option Addr} {sl23:Array (Option Value)} {oc23 kV23 dc23 pm23 cd23 ct23:Value} {f23:Addr}
    {od24 an24:Option Addr} {sl24:Array (Option Value)} {oc24 kV24 dc24 pm24 cd24 ct24:Value} {f24:Addr}
    {od25 an25:Option Addr} {sl25:Array (Option Value)} {oc25 kV25 dc25 pm25 cd25 ct25:Value} {f25:Addr}
    {od26 an26:Option Addr} {sl26:Array (Option Value)} {oc26 kV26 dc26 pm26 cd26 ct26:Value} {f26:Addr}
    {od27 an27:Option Addr} {sl27:Array (Option Value)} {oc27 kV27 dc27 pm27 cd27 ct27:Value} {f27:Addr}
    {od28 an28:Option Addr} {sl28:Array (Option Value)} {oc28 kV28 dc28 pm28 cd28 ct28:Value} {f28:Addr}
    {od29 an29:Option Addr} {sl29:Array (Option Value)} {oc29 kV29 dc29 pm29 cd29 ct29:Value} {f29:Addr}
    {od30 an30:Option Addr} {sl30:Array (Option Value)} {oc30 kV30 dc30 pm30 cd30 ct30:Value} {f30:Addr}
    {od31 an31:Option Addr} {sl31:Array (Option Value)} {oc31 kV31 dc31 pm31 cd31 ct31:Value} {f31:Addr}
    {od32 an32:Option Addr} {sl32:Array (Option Value)} {oc32 kV32 dc32 pm32 cd32 ct32:Value} {f32:Addr}
    {od33 an33:Option Addr} {sl33:Array (Option Value)} {oc33 kV33 dc33 pm33 cd33 ct33:Value} {f33:Addr}
    {od34 an34:Option Addr} {sl34:Array (Option Value)} {oc34 kV34 dc34 pm34 cd34 ct34:Value} {f34:Addr}
    {od35 an35:Option Addr} {sl35:Array (Option Value)} {oc35 kV35 dc35 pm35 cd35 ct35:Value} {f35:Addr}
    {od36 an36:Option Addr} {sl36:Array (Option Value)} {oc36 kV36 dc36 pm36 cd36 ct36:Value} {f36:Addr}
    {od37 an37:Option Addr} {sl37:Array (Option Value)} {oc37 kV37 dc37 pm37 cd37 ct37:Value} {f37:Addr}
    {od38 an38:Option Addr} {sl38:Array (Option Value)} {oc38 kV38 dc38 pm38 cd38 ct38:Value} {f38:Addr}
    (a0:PySem.W.nsIn K mainGlobals "is_whole" = some (some (.ref f0))) (l0:K.lookup f0=some ⟨oc0,od0,.func (PySem.W.fnOf "is_whole" "is_whole" (defArgs s_is_whole) (defBody s_is_whole) (defScope s_is_whole) .none kV0 dc0 pm0 an0 cd0 ct0),sl0⟩) (c0:PySem.W.codeIn K cd0 "is_whole" = true) (k0:PySem.W.keepIn K (.ref f0)=true)
    (a1:PySem.W.nsIn K mainGlobals "is_box" = some (some (.ref f1))) (l1:K.lookup f1=some ⟨oc1,od1,.func (PySem.W.fnOf "is_box" "is_box" (defArgs s_is_box) (defBody s_is_box) (defScope s_is_box) .none kV1 dc1 pm1 an1 cd1 ct1),sl1⟩) (c1:PySem.W.codeIn K cd1 "is_box" = true) (k1:PySem.W.keepIn K (.ref f1)=true)
    (a2:PySem.W.nsIn K mainGlobals "is_errand" = some (some (.ref f2))) (l2:K.lookup f2=some ⟨oc2,od2,.func (PySem.W.fnOf "is_errand" "is_errand" (defArgs s_is_errand) (defBody s_is_errand) (defScope s_is_errand) .none kV2 dc2 pm2 an2 cd2 ct2),sl2⟩) (c2:PySem.W.codeIn K cd2 "is_errand" = true) (k2:PySem.W.keepIn K (.ref f2)=true)
    (a3:PySem.W.nsIn K mainGlobals "check_errand" = some (some (.ref f3))) (l3:K.lookup f3=some ⟨oc3,od3,.func (PySem.W.fnOf "check_errand" "check_errand" (defArgs s_check_errand) (defBody s_check_errand) (defScope s_check_errand) .none kV3 dc3 pm3 an3 cd3 ct3),sl3⟩) (c3:PySem.W.codeIn K cd3 "check_errand" = true) (k3:PySem.W.keepIn K (.ref f3)=true)
    (a4:PySem.W.nsIn K mainGlobals "stops" = some (some (.ref f4))) (l4:K.lookup f4=some ⟨oc4,od4,.func (PySem.W.fnOf "stops" "stops" (defArgs s_stops) (defBody s_stops) (defScope s_stops) .none kV4 dc4 pm4 an4 cd4 ct4),sl4⟩) (c4:PySem.W.codeIn K cd4 "stops" = true) (k4:PySem.W.keepIn K (.ref f4)=true)
    (a5:PySem.W.nsIn K mainGlobals "gaps" = some (some (.ref f5))) (l5:K.lookup f5=some ⟨oc5,od5,.func (PySem.W.fnOf "gaps" "gaps" (defArgs s_gaps) (defBody s_gaps) (defScope s_gaps) .none kV5 dc5 pm5 an5 cd5 ct5),sl5⟩) (c5:PySem.W.codeIn K cd5 "gaps" = true) (k5:PySem.W.keepIn K (.ref f5)=true)
    (a6:PySem.W.nsIn K mainGlobals "gap_edges" = some (some (.ref f6))) (l6:K.lookup f6=some ⟨oc6,od6,.func (PySem.W.fnOf "gap_edges" "gap_edges" (defArgs s_gap_edges) (defBody s_gap_edges) (defScope s_gap_edges) .none kV6 dc6 pm6 an6 cd6 ct6),sl6⟩) (c6:PySem.W.codeIn K cd6 "gap_edges" = true) (k6:PySem.W.keepIn K (.ref f6)=true)
    (a7:PySem.W.nsIn K mainGlobals "leads_over" = some (some (.ref f7))) (l7:K.lookup f7=some ⟨oc7,od7,.func (PySem.W.fnOf "leads_over" "leads_over" (defArgs s_leads_over) (defBody s_leads_over) (defScope s_leads_over) .none kV7 dc7 pm7 an7 cd7 ct7),sl7⟩) (c7:PySem.W.codeIn K cd7 "leads_over" = true) (k7:PySem.W.keepIn K (.ref f7)=true)
    (a8:PySem.W.nsIn K mainGlobals "crossed" = some (some (.ref f8))) (l8:K.lookup f8=some ⟨oc8,od8,.func (PySem.W.fnOf "crossed" "crossed" (defArgs s_crossed) (defBody s_crossed) (defScope s_crossed) .none kV8 dc8 pm8 an8 cd8 ct8),sl8⟩) (c8:PySem.W.codeIn K cd8 "crossed" = true) (k8:PySem.W.keepIn K (.ref f8)=true)
    (a9:PySem.W.nsIn K mainGlobals "lack" = some (some (.ref f9))) (l9:K.lookup f9=some ⟨oc9,od9,.func (PySem.W.fnOf "lack" "lack" (defArgs s_lack) (defBody s_lack) (defScope s_lack) .none kV9 dc9 pm9 an9 cd9 ct9),sl9⟩) (c9:PySem.W.codeIn K cd9 "lack" = true) (k9:PySem.W.keepIn K (.ref f9)=true)
    (a10:PySem.W.nsIn K mainGlobals "lacks" = some (some (.ref f10))) (l10:K.lookup f10=some ⟨oc10,od10,.func (PySem.W.fnOf "lacks" "lacks" (defArgs s_lacks) (defBody s_lacks) (defScope s_lacks) .none kV10 dc10 pm10 an10 cd10 ct10),sl10⟩) (c10:PySem.W.codeIn K cd10 "lacks" = true) (k10:PySem.W.keepIn K (.ref f10)=true)
    (a11:PySem.W.nsIn K mainGlobals "neighbours" = some (some (.ref f11))) (l11:K.lookup f11=some ⟨oc11,od11,.func (PySem.W.fnOf "neighbours" "neighbours" (defArgs s_neighbours) (defBody s_neighbours) (defScope s_neighbours) .none kV11 dc11 pm11 an11 cd11 ct11),sl11⟩) (c11:PySem.W.codeIn K cd11 "neighbours" = true) (k11:PySem.W.keepIn K (.ref f11)=true)
    (a12:PySem.W.nsIn K mainGlobals "group_of" = some (some (.ref f12))) (l12:K.lookup f12=some ⟨oc12,od12,.func (PySem.W.fnOf "group_of" "group_of" (defArgs s_group_of) (defBody s_group_of) (defScope s_group_of) .none kV12 dc12 pm12 an12 cd12 ct12),sl12⟩) (c12:PySem.W.codeIn K cd12 "group_of" = true) (k12:PySem.W.keepIn K (.ref f12)=true)
    (a13:PySem.W.nsIn K mainGlobals "groups" = some (some (.ref f13))) (l13:K.lookup f13=some ⟨oc13,od13,.func (PySem.W.fnOf "groups" "groups" (defArgs s_groups) (defBody s_groups) (defScope s_groups) .none kV13 dc13 pm13 an13 cd13 ct13),sl13⟩) (c13:PySem.W.codeIn K cd13 "groups" = true) (k13:PySem.W.keepIn K (.ref f13)=true)
    (a14:PySem.W.nsIn K mainGlobals "knots" = some (some (.ref f14))) (l14:K.lookup f14=some ⟨oc14,od14,.func (PySem.W.fnOf "knots" "knots" (defArgs s_knots) (defBody s_knots) (defScope s_knots) .none kV14 dc14 pm14 an14 cd14 ct14),sl14⟩) (c14:PySem.W.codeIn K cd14 "knots" = true) (k14:PySem.W.keepIn K (.ref f14)=true)
    (a15:PySem.W.nsIn K mainGlobals "cost" = some (some (.ref f15))) (l15:K.lookup f15=some ⟨oc15,od15,.func (PySem.W.fnOf "cost" "cost" (defArgs s_cost) (defBody s_cost) (defScope s_cost) .none kV15 dc15 pm15 an15 cd15 ct15),sl15⟩) (c15:PySem.W.codeIn K cd15 "cost" = true) (k15:PySem.W.keepIn K (.ref f15)=true)
    (a16:PySem.W.nsIn K mainGlobals "group_numbers" = some (some (.ref f16))) (l16:K.lookup f16=some ⟨oc16,od16,.func (PySem.W.fnOf "group_numbers" "group_numbers" (defArgs s_group_numbers) (defBody s_group_numbers) (defScope s_group_numbers) .none kV16 dc16 pm16 an16 cd16 ct16),sl16⟩) (c16:PySem.W.codeIn K cd16 "group_numbers" = true) (k16:PySem.W.keepIn K (.ref f16)=true)
    (a17:PySem.W.nsIn K mainGlobals "weighed" = some (some (.ref f17))) (l17:K.lookup f17=some ⟨oc17,od17,.func (PySem.W.fnOf "weighed" "weighed" (defArgs s_weighed) (defBody s_weighed) (defScope s_weighed) .none kV17 dc17 pm17 an17 cd17 ct17),sl17⟩) (c17:PySem.W.codeIn K cd17 "weighed" = true) (k17:PySem.W.keepIn K (.ref f17)=true)
    (a18:PySem.W.nsIn K mainGlobals "all_whole" = some (some (.ref f18))) (l18:K.lookup f18=some ⟨oc18,od18,.func (PySem.W.fnOf "all_whole" "all_whole" (defArgs s_all_whole) (defBody s_all_whole) (defScope s_all_whole) .none kV18 dc18 pm18 an18 cd18 ct18),sl18⟩) (c18:PySem.W.codeIn K cd18 "all_whole" = true) (k18:PySem.W.keepIn K (.ref f18)=true)
    (a19:PySem.W.nsIn K mainGlobals "counts_of" = some (some (.ref f19))) (l19:K.lookup f19=some ⟨oc19,od19,.func (PySem.W.fnOf "counts_of" "counts_of" (defArgs s_counts_of) (defBody s_counts_of) (defScope s_counts_of) .none kV19 dc19 pm19 an19 cd19 ct19),sl19⟩) (c19:PySem.W.codeIn K cd19 "counts_of" = true) (k19:PySem.W.keepIn K (.ref f19)=true)
    (a20:PySem.W.nsIn K mainGlobals "are_counts" = some (some (.ref f20))) (l20:K.lookup f20=some ⟨oc20,od20,.func (PySem.W.fnOf "are_counts" "are_counts" (defArgs s_are_counts) (defBody s_are_counts) (defScope s_are_counts) .none kV20 dc20 pm20 an20 cd20 ct20),sl20⟩) (c20:PySem.W.codeIn K cd20 "are_counts" = true) (k20:PySem.W.keepIn K (.ref f20)=true)
    (a21:PySem.W.nsIn K mainGlobals "is_group" = some (some (.ref f21))) (l21:K.lookup f21=some ⟨oc21,od21,.func (PySem.W.fnOf "is_group" "is_group" (defArgs s_is_group) (defBody s_is_group) (defScope s_is_group) .none kV21 dc21 pm21 an21 cd21 ct21),sl21⟩) (c21:PySem.W.codeIn K cd21 "is_group" = true) (k21:PySem.W.keepIn K (.ref f21)=true)
    (a22:PySem.W.nsIn K mainGlobals "are_groups" = some (some (.ref f22))) (l22:K.lookup f22=some ⟨oc22,od22,.func (PySem.W.fnOf "are_groups" "are_groups" (defArgs s_are_groups) (defBody s_are_groups) (defScope s_are_groups) .none kV22 dc22 pm22 an22 cd22 ct22),sl22⟩) (c22:PySem.W.codeIn K cd22 "are_groups" = true) (k22:PySem.W.keepIn K (.ref f22)=true)
    (a23:PySem.W.nsIn K mainGlobals "holds_together" = some (some (.ref f23))) (l23:K.lookup f23=some ⟨oc23,od23,.func (PySem.W.fnOf "holds_together" "holds_together" (defArgs s_holds_together) (defBody s_holds_together) (defScope s_holds_together) .none kV23 dc23 pm23 an23 cd23 ct23),sl23⟩) (c23:PySem.W.codeIn K cd23 "holds_together" = true) (k23:PySem.W.keepIn K (.ref f23)=true)
    (a24:PySem.W.nsIn K mainGlobals "is_level" = some (some (.ref f24))) (l24:K.lookup f24=some ⟨oc24,od24,.func (PySem.W.fnOf "is_level" "is_level" (defArgs s_is_level) (defBody s_is_level) (defScope s_is_level) .none kV24 dc24 pm24 an24 cd24 ct24),sl24⟩) (c24:PySem.W.codeIn K cd24 "is_level" = true) (k24:PySem.W.keepIn K (.ref f24)=true)
    (a25:PySem.W.nsIn K mainGlobals "rise_from_one" = some (some (.ref f25))) (l25:K.lookup f25=some ⟨oc25,od25,.func (PySem.W.fnOf "rise_from_one" "rise_from_one" (defArgs s_rise_from_one) (defBody s_rise_from_one) (defScope s_rise_from_one) .none kV25 dc25 pm25 an25 cd25 ct25),sl25⟩) (c25:PySem.W.codeIn K cd25 "rise_from_one" = true) (k25:PySem.W.keepIn K (.ref f25)=true)
    (a26:PySem.W.nsIn K mainGlobals "are_levels" = some (some (.ref f26))) (l26:K.lookup f26=some ⟨oc26,od26,.func (PySem.W.fnOf "are_levels" "are_levels" (defArgs s_are_levels) (defBody s_are_levels) (defScope s_are_levels) .none kV26 dc26 pm26 an26 cd26 ct26),sl26⟩) (c26:PySem.W.codeIn K cd26 "are_levels" = true) (k26:PySem.W.keepIn K (.ref f26)=true)
    (a27:PySem.W.nsIn K mainGlobals "is_reason" = some (some (.ref f27))) (l27:K.lookup f27=some ⟨oc27,od27,.func (PySem.W.fnOf "is_reason" "is_reason" (defArgs s_is_reason) (defBody s_is_reason) (defScope s_is_reason) .none kV27 dc27 pm27 an27 cd27 ct27),sl27⟩) (c27:PySem.W.codeIn K cd27 "is_reason" = true) (k27:PySem.W.keepIn K (.ref f27)=true)
    (a28:PySem.W.nsIn K mainGlobals "gap_weight" = some (some (.ref f28))) (l28:K.lookup f28=some ⟨oc28,od28,.func (PySem.W.fnOf "gap_weight" "gap_weight" (defArgs s_gap_weight) (defBody s_gap_weight) (defScope s_gap_weight) .none kV28 dc28 pm28 an28 cd28 ct28),sl28⟩) (c28:PySem.W.codeIn K cd28 "gap_weight" = true) (k28:PySem.W.keepIn K (.ref f28)=true)
    (a29:PySem.W.nsIn K mainGlobals "weight" = some (some (.ref f29))) (l29:K.lookup f29=some ⟨oc29,od29,.func (PySem.W.fnOf "weight" "weight" (defArgs s_weight) (defBody s_weight) (defScope s_weight) .none kV29 dc29 pm29 an29 cd29 ct29),sl29⟩) (c29:PySem.W.codeIn K cd29 "weight" = true) (k29:PySem.W.keepIn K (.ref f29)=true)
    (a30:PySem.W.nsIn K mainGlobals "_law_cell_at" = some (some (.ref f30))) (l30:K.lookup f30=some ⟨oc30,od30,.func (PySem.W.fnOf "_law_cell_at" "_law_cell_at" (defArgs s__law_cell_at) (defBody s__law_cell_at) (defScope s__law_cell_at) .none kV30 dc30 pm30 an30 cd30 ct30),sl30⟩) (c30:PySem.W.codeIn K cd30 "_law_cell_at" = true) (k30:PySem.W.keepIn K (.ref f30)=true)
    (a31:PySem.W.nsIn K mainGlobals "_law_place" = some (some (.ref f31))) (l31:K.lookup f31=some ⟨oc31,od31,.func (PySem.W.fnOf "_law_place" "_law_place" (defArgs s__law_place) (defBody s__law_place) (defScope s__law_place) .none kV31 dc31 pm31 an31 cd31 ct31),sl31⟩) (c31:PySem.W.codeIn K cd31 "_law_place" = true) (k31:PySem.W.keepIn K (.ref f31)=true)
    (a32:PySem.W.nsIn K mainGlobals "_law_errand" = some (some (.ref f32))) (l32:K.lookup f32=some ⟨oc32,od32,.func (PySem.W.fnOf "_law_errand" "_law_errand" (defArgs s__law_errand) (defBody s__law_errand) (defScope s__law_errand) .none kV32 dc32 pm32 an32 cd32 ct32),sl32⟩) (c32:PySem.W.codeIn K cd32 "_law_errand" = true) (k32:PySem.W.keepIn K (.ref f32)=true)
    (a33:PySem.W.nsIn K mainGlobals "_law_counts" = some (some (.ref f33))) (l33:K.lookup f33=some ⟨oc33,od33,.func (PySem.W.fnOf "_law_counts" "_law_counts" (defArgs s__law_counts) (defBody s__law_counts) (defScope s__law_counts) .none kV33 dc33 pm33 an33 cd33 ct33),sl33⟩) (c33:PySem.W.codeIn K cd33 "_law_counts" = true) (k33:PySem.W.keepIn K (.ref f33)=true)
    (a34:PySem.W.nsIn K mainGlobals "_law_levels" = some (some (.ref f34))) (l34:K.lookup f34=some ⟨oc34,od34,.func (PySem.W.fnOf "_law_levels" "_law_levels" (defArgs s__law_levels) (defBody s__law_levels) (defScope s__law_levels) .none kV34 dc34 pm34 an34 cd34 ct34),sl34⟩) (c34:PySem.W.codeIn K cd34 "_law_levels" = true) (k34:PySem.W.keepIn K (.ref f34)=true)
    (a35:PySem.W.nsIn K mainGlobals "_law_gone" = some (some (.ref f35))) (l35:K.lookup f35=some ⟨oc35,od35,.func (PySem.W.fnOf "_law_gone" "_law_gone" (defArgs s__law_gone) (defBody s__law_gone) (defScope s__law_gone) .none kV35 dc35 pm35 an35 cd35 ct35),sl35⟩) (c35:PySem.W.codeIn K cd35 "_law_gone" = true) (k35:PySem.W.keepIn K (.ref f35)=true)
    (a36:PySem.W.nsIn K mainGlobals "_law_taken" = some (some (.ref f36))) (l36:K.lookup f36=some ⟨oc36,od36,.func (PySem.W.fnOf "_law_taken" "_law_taken" (defArgs s__law_taken) (defBody s__law_taken) (defScope s__law_taken) .none kV36 dc36 pm36 an36 cd36 ct36),sl36⟩) (c36:PySem.W.codeIn K cd36 "_law_taken" = true) (k36:PySem.W.keepIn K (.ref f36)=true)
    (a37:PySem.W.nsIn K mainGlobals "_law_drawn" = some (some (.ref f37))) (l37:K.lookup f37=some ⟨oc37,od37,.func (PySem.W.fnOf "_law_drawn" "_law_drawn" (defArgs s__law_drawn) (defBody s__law_drawn) (defScope s__law_drawn) .none kV37 dc37 pm37 an37 cd37 ct37),sl37⟩) (c37:PySem.W.codeIn K cd37 "_law_drawn" = true) (k37:PySem.W.keepIn K (.ref f37)=true)
    (a38:PySem.W.nsIn K mainGlobals "law" = some (some (.ref f38))) (l38:K.lookup f38=some ⟨oc38,od38,.func (PySem.W.fnOf "law" "law" (defArgs s_law) (defBody s_law) (defScope s_law) .none kV38 dc38 pm38 an38 cd38 ct38),sl38⟩) (c38:PySem.W.codeIn K cd38 "law" = true) (k38:PySem.W.keepIn K (.ref f38)=true)
    (z_isinstance:PySem.W.nsIn K mainGlobals "isinstance" = some none)
    (z_bool:PySem.W.nsIn K mainGlobals "bool" = some none)
    (z_int:PySem.W.nsIn K mainGlobals "int" = some none)
    (z_len:PySem.W.nsIn K mainGlobals "len" = some none)
    (z_tuple:PySem.W.nsIn K mainGlobals "tuple" = some none)
    (z_list:PySem.W.nsIn K mainGlobals "list" = some none)
    (z_all:PySem.W.nsIn K mainGlobals "all" = some none)
    (z_sorted:PySem.W.nsIn K mainGlobals "sorted" = some none)
    (z_set:PySem.W.nsIn K mainGlobals "set" = some none)
    (z_zip:PySem.W.nsIn K mainGlobals "zip" = some none)
    (z_enumerate:PySem.W.nsIn K mainGlobals "enumerate" = some none)
    (z_abs:PySem.W.nsIn K mainGlobals "abs" = some none)
    (z_sum:PySem.W.nsIn K mainGlobals "sum" = some none)
    (z_range:PySem.W.nsIn K mainGlobals "range" = some none)
    (z_reversed:PySem.W.nsIn K mainGlobals "reversed" = some none)
    (i_int:IsT K .int)
    (i_bool:IsT K .bl)
    (i_tuple:IsT K .tup)
    (i_list:IsT K .lst)
    : ∃ fd:FuncData,(∀ (s:Shared) (v:Value),BindsTo s fd ⟨[v],[]⟩ [("script", v)])∧∀ base:Heap,K.In base→base.Ns mainGlobals mg→FnOk l.prog w K mg base CX0 12 fa fd ["script"] (spD K 1 m_law):=by
  have e:=hfa.symm.trans (PySem.W.mg_of X G a38)
  cases e
  have F0:=fun_mk (st:=s_is_whole) l0 c0 k0
  have b0:=F0.binds (ps:=["thing"]) fun _ _ _ _ _ _ us hl=>match us,hl with|[_],_=>rfl
  have F1:=fun_mk (st:=s_is_box) l1 c1 k1
  have b1:=F1.binds (ps:=["thing"]) fun _ _ _ _ _ _ us hl=>match us,hl with|[_],_=>rfl
  have F2:=fun_mk (st:=s_is_errand) l2 c2 k2
  have b2:=F2.binds (ps:=["home", "last", "boxes"]) fun _ _ _ _ _ _ us hl=>match us,hl with|[_,_,_],_=>rfl
  have F3:=fun_mk (st:=s_check_errand) l3 c3 k3
  have b3:=F3.binds (ps:=["home", "last", "boxes"]) fun _ _ _ _ _ _ us hl=>match us,hl with|[_,_,_],_=>rfl
  have F4:=fun_mk (st:=s_stops) l4 c4 k4
  have b4:=F4.binds (ps:=["home", "last", "boxes"]) fun _ _ _ _ _ _ us hl=>match us,hl with|[_,_,_],_=>rfl
  have F5:=fun_mk (st:=s_gaps) l5 c5 k5
  have b5:=F5.binds (ps:=["home", "last", "boxes"]) fun _ _ _ _ _ _ us hl=>match us,hl with|[_,_,_],_=>rfl
  have F6:=fun_mk (st:=s_gap_edges) l6 c6 k6
  have b6:=F6.binds (ps:=["home", "last", "boxes"]) fun _ _ _ _ _ _ us hl=>match us,hl with|[_,_,_],_=>rfl
  have F7:=fun_mk (st:=s_leads_over) l7 c7 k7
  have b7:=F7.binds (ps:=["start", "goal", "gap"]) fun _ _ _ _ _ _ us hl=>match us,hl with|[_,_,_],_=>rfl
  have F8:=fun_mk (st:=s_crossed) l8 c8 k8
  have b8:=F8.binds (ps:=["boxes", "gap"]) fun _ _ _ _ _ _ us hl=>match us,hl with|[_,_],_=>rfl
  have F9:=fun_mk (st:=s_lack) l9 c9 k9
  have b9:=F9.binds (ps:=["home", "last", "boxes", "gap"]) fun _ _ _ _ _ _ us hl=>match us,hl with|[_,_,_,_],_=>rfl
  have F10:=fun_mk (st:=s_lacks) l10 c10 k10
  have b10:=F10.binds (ps:=["home", "last", "boxes"]) fun _ _ _ _ _ _ us hl=>match us,hl with|[_,_,_],_=>rfl
  have F11:=fun_mk (st:=s_neighbours) l11 c11 k11
  have b11:=F11.binds (ps:=["things", "ties"]) fun _ _ _ _ _ _ us hl=>match us,hl with|[_,_],_=>rfl
  have F12:=fun_mk (st:=s_group_of) l12 c12 k12
  have b12:=F12.binds (ps:=["thing", "beside"]) fun _ _ _ _ _ _ us hl=>match us,hl with|[_,_],_=>rfl
  have F13:=fun_mk (st:=s_groups) l13 c13 k13
  have b13:=F13.binds (ps:=["things", "ties"]) fun _ _ _ _ _ _ us hl=>match us,hl with|[_,_],_=>rfl
  have F14:=fun_mk (st:=s_knots) l14 c14 k14
  have b14:=F14.binds (ps:=["home", "last", "boxes"]) fun _ _ _ _ _ _ us hl=>match us,hl with|[_,_,_],_=>rfl
  have F15:=fun_mk (st:=s_cost) l15 c15 k15
  have b15:=F15.binds (ps:=["edge"]) fun _ _ _ _ _ _ us hl=>match us,hl with|[_],_=>rfl
  have F16:=fun_mk (st:=s_group_numbers) l16 c16 k16
  have b16:=F16.binds (ps:=["parts"]) fun _ _ _ _ _ _ us hl=>match us,hl with|[_],_=>rfl
  have F17:=fun_mk (st:=s_weighed) l17 c17 k17
  have b17:=F17.binds (ps:=["levels", "rest"]) fun _ _ _ _ _ _ us hl=>match us,hl with|[_,_],_=>rfl
  have F18:=fun_mk (st:=s_all_whole) l18 c18 k18
  have b18:=F18.binds (ps:=["parts"]) fun _ _ _ _ _ _ us hl=>match us,hl with|[_],_=>rfl
  have F19:=fun_mk (st:=s_counts_of) l19 c19 k19
  have b19:=F19.binds (ps:=["home", "last", "boxes"]) fun _ _ _ _ _ _ us hl=>match us,hl with|[_,_,_],_=>rfl
  have F20:=fun_mk (st:=s_are_counts) l20 c20 k20
  have b20:=F20.binds (ps:=["thing", "wanted"]) fun _ _ _ _ _ _ us hl=>match us,hl with|[_,_],_=>rfl
  have F21:=fun_mk (st:=s_is_group) l21 c21 k21
  have b21:=F21.binds (ps:=["thing"]) fun _ _ _ _ _ _ us hl=>match us,hl with|[_],_=>rfl
  have F22:=fun_mk (st:=s_are_groups) l22 c22 k22
  have b22:=F22.binds (ps:=["thing", "places"]) fun _ _ _ _ _ _ us hl=>match us,hl with|[_,_],_=>rfl
  have F23:=fun_mk (st:=s_holds_together) l23 c23 k23
  have b23:=F23.binds (ps:=["parts", "ties"]) fun _ _ _ _ _ _ us hl=>match us,hl with|[_,_],_=>rfl
  have F24:=fun_mk (st:=s_is_level) l24 c24 k24
  have b24:=F24.binds (ps:=["thing", "places", "ties", "edges"]) fun _ _ _ _ _ _ us hl=>match us,hl with|[_,_,_,_],_=>rfl
  have F25:=fun_mk (st:=s_rise_from_one) l25 c25 k25
  have b25:=F25.binds (ps:=["bounds"]) fun _ _ _ _ _ _ us hl=>match us,hl with|[_],_=>rfl
  have F26:=fun_mk (st:=s_are_levels) l26 c26 k26
  have b26:=F26.binds (ps:=["home", "last", "boxes", "thing"]) fun _ _ _ _ _ _ us hl=>match us,hl with|[_,_,_,_],_=>rfl
  have F27:=fun_mk (st:=s_is_reason) l27 c27 k27
  have b27:=F27.binds (ps:=["home", "last", "boxes", "thing"]) fun _ _ _ _ _ _ us hl=>match us,hl with|[_,_,_,_],_=>rfl
  have F28:=fun_mk (st:=s_gap_weight) l28 c28 k28
  have b28:=F28.binds (ps:=["count", "lack"]) fun _ _ _ _ _ _ us hl=>match us,hl with|[_,_],_=>rfl
  have F29:=fun_mk (st:=s_weight) l29 c29 k29
  have b29:=F29.binds (ps:=["home", "last", "boxes", "thing"]) fun _ _ _ _ _ _ us hl=>match us,hl with|[_,_,_,_],_=>rfl
  have F30:=fun_mk (st:=s__law_cell_at) l30 c30 k30
  have b30:=F30.binds (ps:=["script", "k"]) fun _ _ _ _ _ _ us hl=>match us,hl with|[_,_],_=>rfl
  have F31:=fun_mk (st:=s__law_place) l31 c31 k31
  have b31:=F31.binds (ps:=["cell"]) fun _ _ _ _ _ _ us hl=>match us,hl with|[_],_=>rfl
  have F32:=fun_mk (st:=s__law_errand) l32 c32 k32
  have b32:=F32.binds (ps:=["script", "most"]) fun _ _ _ _ _ _ us hl=>match us,hl with|[_,_],_=>rfl
  have F33:=fun_mk (st:=s__law_counts) l33 c33 k33
  have b33:=F33.binds (ps:=["home", "last", "boxes"]) fun _ _ _ _ _ _ us hl=>match us,hl with|[_,_,_],_=>rfl
  have F34:=fun_mk (st:=s__law_levels) l34 c34 k34
  have b34:=F34.binds (ps:=["script", "home", "last", "boxes"]) fun _ _ _ _ _ _ us hl=>match us,hl with|[_,_,_,_],_=>rfl
  have F35:=fun_mk (st:=s__law_gone) l35 c35 k35
  have b35:=F35.binds (ps:=["here", "there"]) fun _ _ _ _ _ _ us hl=>match us,hl with|[_,_],_=>rfl
  have F36:=fun_mk (st:=s__law_taken) l36 c36 k36
  have b36:=F36.binds (ps:=["boxes", "here", "k"]) fun _ _ _ _ _ _ us hl=>match us,hl with|[_,_,_],_=>rfl
  have F37:=fun_mk (st:=s__law_drawn) l37 c37 k37
  have b37:=F37.binds (ps:=["home", "last", "boxes", "cells"]) fun _ _ _ _ _ _ us hl=>match us,hl with|[_,_,_,_],_=>rfl
  have F38:=fun_mk (st:=s_law) l38 c38 k38
  have y_isinstance:=PySem.W.mg_none_of X G z_isinstance
  have y_bool:=PySem.W.mg_none_of X G z_bool
  have y_int:=PySem.W.mg_none_of X G z_int
  have y_len:=PySem.W.mg_none_of X G z_len
  have y_tuple:=PySem.W.mg_none_of X G z_tuple
  have y_list:=PySem.W.mg_none_of X G z_list
  have y_all:=PySem.W.mg_none_of X G z_all
  have y_sorted:=PySem.W.mg_none_of X G z_sorted
  have y_set:=PySem.W.mg_none_of X G z_set
  have y_zip:=PySem.W.mg_none_of X G z_zip
  have y_enumerate:=PySem.W.mg_none_of X G z_enumerate
  have y_abs:=PySem.W.mg_none_of X G z_abs
  have y_sum:=PySem.W.mg_none_of X G z_sum
  have y_range:=PySem.W.mg_none_of X G z_range
  have y_reversed:=PySem.W.mg_none_of X G z_reversed
  refine ⟨PySem.W.fnOf "law" "law" (defArgs s_law) (defBody s_law) (defScope s_law) .none kV38 dc38 pm38 an38 cd38 ct38,fun s v=>.of_eq rfl,fun base _ _=>?_⟩
  have C0:Cal _ _ _ _ _ _ _ _ _ _ _ _:=⟨ok_is_whole (P:=l.prog) (w:=w) (mg:=mg) (base:=base) F0 y_isinstance y_bool y_int i_int i_bool,PySem.W.mg_of X G a0,k0,b0⟩
  have C1:Cal _ _ _ _ _ _ _ _ _ _ _ _:=⟨ok_is_box (P:=l.prog) (w:=w) (mg:=mg) (base:=base) F1 C0 y_len y_isinstance y_tuple i_tuple,PySem.W.mg_of X G a1,k1,b1⟩
  have C2:Cal _ _ _ _ _ _ _ _ _ _ _ _:=⟨ok_is_errand (P:=l.prog) (w:=w) (mg:=mg) (base:=base) F2 C0 C1 y_isinstance y_list y_all i_list,PySem.W.mg_of X G a2,k2,b2⟩
  have C3:Cal _ _ _ _ _ _ _ _ _ _ _ _:=⟨ok_check_errand (P:=l.prog) (w:=w) (mg:=mg) (base:=base) F3 C2,PySem.W.mg_of X G a3,k3,b3⟩
  have C4:Cal _ _ _ _ _ _ _ _ _ _ _ _:=⟨ok_stops (P:=l.prog) (w:=w) (mg:=mg) (base:=base) F4 C3 y_sorted y_set,PySem.W.mg_of X G a4,k4,b4⟩
  have C5:Cal _ _ _ _ _ _ _ _ _ _ _ _:=⟨ok_gaps (P:=l.prog) (w:=w) (mg:=mg) (base:=base) F5 C4 y_list y_zip,PySem.W.mg_of X G a5,k5,b5⟩
  have C6:Cal _ _ _ _ _ _ _ _ _ _ _ _:=⟨ok_gap_edges (P:=l.prog) (w:=w) (mg:=mg) (base:=base) F6 C5,PySem.W.mg_of X G a6,k6,b6⟩
  have C7:Cal _ _ _ _ _ _ _ _ _ _ _ _:=⟨ok_leads_over (P:=l.prog) (w:=w) (mg:=mg) (base:=base) F7,PySem.W.mg_of X G a7,k7,b7⟩
  have C8:Cal _ _ _ _ _ _ _ _ _ _ _ _:=⟨ok_crossed (P:=l.prog) (w:=w) (mg:=mg) (base:=base) F8 C7 y_len,PySem.W.mg_of X G a8,k8,b8⟩
  have C9:Cal _ _ _ _ _ _ _ _ _ _ _ _:=⟨ok_lack (P:=l.prog) (w:=w) (mg:=mg) (base:=base) F9 C8,PySem.W.mg_of X G a9,k9,b9⟩
  have C10:Cal _ _ _ _ _ _ _ _ _ _ _ _:=⟨ok_lacks (P:=l.prog) (w:=w) (mg:=mg) (base:=base) F10 C5 C9,PySem.W.mg_of X G a10,k10,b10⟩
  have C11:Cal _ _ _ _ _ _ _ _ _ _ _ _:=⟨ok_neighbours (P:=l.prog) (w:=w) (mg:=mg) (base:=base) F11,PySem.W.mg_of X G a11,k11,b11⟩
  have C12:Cal _ _ _ _ _ _ _ _ _ _ _ _:=⟨ok_group_of (P:=l.prog) (w:=w) (mg:=mg) (base:=base) F12 y_sorted,PySem.W.mg_of X G a12,k12,b12⟩
  have C13:Cal _ _ _ _ _ _ _ _ _ _ _ _:=⟨ok_groups (P:=l.prog) (w:=w) (mg:=mg) (base:=base) F13 C11 C12 y_sorted,PySem.W.mg_of X G a13,k13,b13⟩
  have C14:Cal _ _ _ _ _ _ _ _ _ _ _ _:=⟨ok_knots (P:=l.prog) (w:=w) (mg:=mg) (base:=base) F14 C10 C5 y_zip y_list,PySem.W.mg_of X G a14,k14,b14⟩
  have C15:Cal _ _ _ _ _ _ _ _ _ _ _ _:=⟨ok_cost (P:=l.prog) (w:=w) (mg:=mg) (base:=base) F15,PySem.W.mg_of X G a15,k15,b15⟩
  have C16:Cal _ _ _ _ _ _ _ _ _ _ _ _:=⟨ok_group_numbers (P:=l.prog) (w:=w) (mg:=mg) (base:=base) F16 y_enumerate,PySem.W.mg_of X G a16,k16,b16⟩
  have C17:Cal _ _ _ _ _ _ _ _ _ _ _ _:=⟨ok_weighed (P:=l.prog) (w:=w) (mg:=mg) (base:=base) F17 y_len,PySem.W.mg_of X G a17,k17,b17⟩
  have C18:Cal _ _ _ _ _ _ _ _ _ _ _ _:=⟨ok_all_whole (P:=l.prog) (w:=w) (mg:=mg) (base:=base) F18 C0 y_all,PySem.W.mg_of X G a18,k18,b18⟩
  have C19:Cal _ _ _ _ _ _ _ _ _ _ _ _:=⟨ok_counts_of (P:=l.prog) (w:=w) (mg:=mg) (base:=base) F19 C5 C8,PySem.W.mg_of X G a19,k19,b19⟩
  have C20:Cal _ _ _ _ _ _ _ _ _ _ _ _:=⟨ok_are_counts (P:=l.prog) (w:=w) (mg:=mg) (base:=base) F20 C18 y_all,PySem.W.mg_of X G a20,k20,b20⟩
  have C21:Cal _ _ _ _ _ _ _ _ _ _ _ _:=⟨ok_is_group (P:=l.prog) (w:=w) (mg:=mg) (base:=base) F21 C18 y_len y_isinstance y_list i_list,PySem.W.mg_of X G a21,k21,b21⟩
  have C22:Cal _ _ _ _ _ _ _ _ _ _ _ _:=⟨ok_are_groups (P:=l.prog) (w:=w) (mg:=mg) (base:=base) F22 C21 y_all y_isinstance y_list y_sorted i_list,PySem.W.mg_of X G a22,k22,b22⟩
  have C23:Cal _ _ _ _ _ _ _ _ _ _ _ _:=⟨ok_holds_together (P:=l.prog) (w:=w) (mg:=mg) (base:=base) F23 C16 y_all,PySem.W.mg_of X G a23,k23,b23⟩
  have C24:Cal _ _ _ _ _ _ _ _ _ _ _ _:=⟨ok_is_level (P:=l.prog) (w:=w) (mg:=mg) (base:=base) F24 C0 C22 C15 C23 y_len y_isinstance y_tuple i_tuple,PySem.W.mg_of X G a24,k24,b24⟩
  have C25:Cal _ _ _ _ _ _ _ _ _ _ _ _:=⟨ok_rise_from_one (P:=l.prog) (w:=w) (mg:=mg) (base:=base) F25 y_zip y_all,PySem.W.mg_of X G a25,k25,b25⟩
  have C26:Cal _ _ _ _ _ _ _ _ _ _ _ _:=⟨ok_are_levels (P:=l.prog) (w:=w) (mg:=mg) (base:=base) F26 C4 C14 C6 C24 C25 y_isinstance y_list y_all i_list,PySem.W.mg_of X G a26,k26,b26⟩
  have C27:Cal _ _ _ _ _ _ _ _ _ _ _ _:=⟨ok_is_reason (P:=l.prog) (w:=w) (mg:=mg) (base:=base) F27 C3 C26 C20 C19 y_len y_isinstance y_tuple i_tuple,PySem.W.mg_of X G a27,k27,b27⟩
  have C28:Cal _ _ _ _ _ _ _ _ _ _ _ _:=⟨ok_gap_weight (P:=l.prog) (w:=w) (mg:=mg) (base:=base) F28 y_abs,PySem.W.mg_of X G a28,k28,b28⟩
  have C29:Cal _ _ _ _ _ _ _ _ _ _ _ _:=⟨ok_weight (P:=l.prog) (w:=w) (mg:=mg) (base:=base) F29 C27 C10 C28 C17 y_zip y_sum,PySem.W.mg_of X G a29,k29,b29⟩
  have C30:Cal _ _ _ _ _ _ _ _ _ _ _ _:=⟨ok__law_cell_at (P:=l.prog) (w:=w) (mg:=mg) (base:=base) F30 y_len,PySem.W.mg_of X G a30,k30,b30⟩
  have C31:Cal _ _ _ _ _ _ _ _ _ _ _ _:=⟨ok__law_place (P:=l.prog) (w:=w) (mg:=mg) (base:=base) F31,PySem.W.mg_of X G a31,k31,b31⟩
  have C32:Cal _ _ _ _ _ _ _ _ _ _ _ _:=⟨ok__law_errand (P:=l.prog) (w:=w) (mg:=mg) (base:=base) F32 C30 C31 y_range y_len,PySem.W.mg_of X G a32,k32,b32⟩
  have C33:Cal _ _ _ _ _ _ _ _ _ _ _ _:=⟨ok__law_counts (P:=l.prog) (w:=w) (mg:=mg) (base:=base) F33 C5 C8,PySem.W.mg_of X G a33,k33,b33⟩
  have C34:Cal _ _ _ _ _ _ _ _ _ _ _ _:=⟨ok__law_levels (P:=l.prog) (w:=w) (mg:=mg) (base:=base) F34 C4 C30 C14 C5 C13 y_len y_reversed y_list,PySem.W.mg_of X G a34,k34,b34⟩
  have C35:Cal _ _ _ _ _ _ _ _ _ _ _ _:=⟨ok__law_gone (P:=l.prog) (w:=w) (mg:=mg) (base:=base) F35,PySem.W.mg_of X G a35,k35,b35⟩
  have C36:Cal _ _ _ _ _ _ _ _ _ _ _ _:=⟨ok__law_taken (P:=l.prog) (w:=w) (mg:=mg) (base:=base) F36 C35,PySem.W.mg_of X G a36,k36,b36⟩
  have C37:Cal _ _ _ _ _ _ _ _ _ _ _ _:=⟨ok__law_drawn (P:=l.prog) (w:=w) (mg:=mg) (base:=base) F37 C36 C31 C35 y_len y_list y_range,PySem.W.mg_of X G a37,k37,b37⟩
  exact ok_law F38 C32 C34 C29 C33 C37 y_abs y_sum
theorem walk {l:PySem.W.OpenLaw} {q:Program} {loose:List Str} {XP:(Str→Option Value)→Heap→Prop} {YP:World→Heap→Prop} {d:DefRec} {K:Params→PySem.W.Frag} (hn:l.most=some 63) (hdf:d.params.defaults=[])
    (hY:∀ (w:World) (h:Heap),YP w h→(K w.params).In h)
    (F:∀ (w:World) (mg:Str→Option Value) (fa:Addr) (h:Heap),(K w.params).In h→h.Ns mainGlobals mg→mg d.name=some (.ref fa) →
      ∃ fd:FuncData,(∀ (s:Shared) (u:Value),BindsTo s fd ⟨[u],[]⟩ [("script", u)])∧∀ base:Heap,(K w.params).In base→base.Ns mainGlobals mg→FnOk l.prog w (K w.params) mg base CX0 12 fa fd ["script"] (spD (K w.params) 1 m_law)) :
    PySem.W.WalkO q loose XP YP l.row.toRowW d [] (fun f vs=>PySem.call f vs) :=
  L2.walk_of (n:=63) (k:=12) (x := "script") (CX:=fun _=>CX0) (sp:=fun w=>spD (K w.params) 1 m_law) hn (by decide) hdf ⟨rfl,by decide,by decide⟩ hY F
    (fun _ H a ns hl _ hS=>⟨H,[.scr ns],.sh (.bl true),law_true ns hl,rfl,Same.refl _,⟨.ref a,[],rfl,⟨a,rfl,hS⟩,rfl⟩,fun _ _ _ _ y=>y⟩) fun _ _ _ _ _ z=>z
end Kx
end
open PySem PySem.W PyProof.Rows
set_option maxRecDepth 100000 in
set_option maxHeartbeats 0 in
theorem PySem.Challenge.cw_hookrail_k43_whole_reasons_weigh_no_more_holds : PySem.Challenge.rw_hookrail_k43_whole_reasons_weigh_no_more.Holds := by
  w_on;o_law;k_head;(case hw=>w_witness2)
  k_fill
  refine Kx.walk (l:=PySem.Challenge.rw_hookrail_k43_whole_reasons_weigh_no_more) rfl rfl (fun w h Y=>PySem.W.kIn_of Y) ?F
  case F =>
    intro w mg fa h KX G hmg
    refine' Kx.all_mk KX G hmg ?a0 ?l0 ?c0 ?k0 ?a1 ?l1 ?c1 ?k1 ?a2 ?l2 ?c2 ?k2 ?a3 ?l3 ?c3 ?k3 ?a4 ?l4 ?c4 ?k4 ?a5 ?l5 ?c5 ?k5 ?a6 ?l6 ?c6 ?k6 ?a7 ?l7 ?c7 ?k7 ?a8 ?l8 ?c8 ?k8 ?a9 ?l9 ?c9 ?k9 ?a10 ?l10 ?c10 ?k10 ?a11 ?l11 ?c11 ?k11 ?a12 ?l12 ?c12 ?k12 ?a13 ?l13 ?c13 ?k13 ?a14 ?l14 ?c14 ?k14 ?a15 ?l15 ?c15 ?k15 ?a16 ?l16 ?c16 ?k16 ?a17 ?l17 ?c17 ?k17 ?a18 ?l18 ?c18 ?k18 ?a19 ?l19 ?c19 ?k19 ?a20 ?l20 ?c20 ?k20 ?a21 ?l21 ?c21 ?k21 ?a22 ?l22 ?c22 ?k22 ?a23 ?l23 ?c23 ?k23 ?a24 ?l24 ?c24 ?k24 ?a25 ?l25 ?c25 ?k25 ?a26 ?l26 ?c26 ?k26 ?a27 ?l27 ?c27 ?k27 ?a28 ?l28 ?c28 ?k28 ?a29 ?l29 ?c29 ?k29 ?a30 ?l30 ?c30 ?k30 ?a31 ?l31 ?c31 ?k31 ?a32 ?l32 ?c32 ?k32 ?a33 ?l33 ?c33 ?k33 ?a34 ?l34 ?c34 ?k34 ?a35 ?l35 ?c35 ?k35 ?a36 ?l36 ?c36 ?k36 ?a37 ?l37 ?c37 ?k37 ?a38 ?l38 ?c38 ?k38 ?z_isinstance ?z_bool ?z_int ?z_len ?z_tuple ?z_list ?z_all ?z_sorted ?z_set ?z_zip ?z_enumerate ?z_abs ?z_sum ?z_range ?z_reversed ?i_int ?i_bool ?i_tuple ?i_list
    (case a0=>k_is);(case l0=>k_is);(case c0=>k_is);(case k0=>k_is)
    (case a1=>k_is);(case l1=>k_is);(case c1=>k_is);(case k1=>k_is)
    (case a2=>k_is);(case l2=>k_is);(case c2=>k_is);(case k2=>k_is)
    (case a3=>k_is);(case l3=>k_is);(case c3=>k_is);(case k3=>k_is)
    (case a4=>k_is);(case l4=>k_is);(case c4=>k_is);(case k4=>k_is)
    (case a5=>k_is);(case l5=>k_is);(case c5=>k_is);(case k5=>k_is)
    (case a6=>k_is);(case l6=>k_is);(case c6=>k_is);(case k6=>k_is)
    (case a7=>k_is);(case l7=>k_is);(case c7=>k_is);(case k7=>k_is)
    (case a8=>k_is);(case l8=>k_is);(case c8=>k_is);(case k8=>k_is)
    (case a9=>k_is);(case l9=>k_is);(case c9=>k_is);(case k9=>k_is)
    (case a10=>k_is);(case l10=>k_is);(case c10=>k_is);(case k10=>k_is)
    (case a11=>k_is);(case l11=>k_is);(case c11=>k_is);(case k11=>k_is)
    (case a12=>k_is);(case l12=>k_is);(case c12=>k_is);(case k12=>k_is)
    (case a13=>k_is);(case l13=>k_is);(case c13=>k_is);(case k13=>k_is)
    (case a14=>k_is);(case l14=>k_is);(case c14=>k_is);(case k14=>k_is)
    (case a15=>k_is);(case l15=>k_is);(case c15=>k_is);(case k15=>k_is)
    (case a16=>k_is);(case l16=>k_is);(case c16=>k_is);(case k16=>k_is)
    (case a17=>k_is);(case l17=>k_is);(case c17=>k_is);(case k17=>k_is)
    (case a18=>k_is);(case l18=>k_is);(case c18=>k_is);(case k18=>k_is)
    (case a19=>k_is);(case l19=>k_is);(case c19=>k_is);(case k19=>k_is)
    (case a20=>k_is);(case l20=>k_is);(case c20=>k_is);(case k20=>k_is)
    (case a21=>k_is);(case l21=>k_is);(case c21=>k_is);(case k21=>k_is)
    (case a22=>k_is);(case l22=>k_is);(case c22=>k_is);(case k22=>k_is)
    (case a23=>k_is);(case l23=>k_is);(case c23=>k_is);(case k23=>k_is)
    (case a24=>k_is);(case l24=>k_is);(case c24=>k_is);(case k24=>k_is)
    (case a25=>k_is);(case l25=>k_is);(case c25=>k_is);(case k25=>k_is)
    (case a26=>k_is);(case l26=>k_is);(case c26=>k_is);(case k26=>k_is)
    (case a27=>k_is);(case l27=>k_is);(case c27=>k_is);(case k27=>k_is)
    (case a28=>k_is);(case l28=>k_is);(case c28=>k_is);(case k28=>k_is)
    (case a29=>k_is);(case l29=>k_is);(case c29=>k_is);(case k29=>k_is)
    (case a30=>k_is);(case l30=>k_is);(case c30=>k_is);(case k30=>k_is)
    (case a31=>k_is);(case l31=>k_is);(case c31=>k_is);(case k31=>k_is)
    (case a32=>k_is);(case l32=>k_is);(case c32=>k_is);(case k32=>k_is)
    (case a33=>k_is);(case l33=>k_is);(case c33=>k_is);(case k33=>k_is)
    (case a34=>k_is);(case l34=>k_is);(case c34=>k_is);(case k34=>k_is)
    (case a35=>k_is);(case l35=>k_is);(case c35=>k_is);(case k35=>k_is)
    (case a36=>k_is);(case l36=>k_is);(case c36=>k_is);(case k36=>k_is)
    (case a37=>k_is);(case l37=>k_is);(case c37=>k_is);(case k37=>k_is)
    (case a38=>k_is);(case l38=>k_is);(case c38=>k_is);(case k38=>k_is)
    (case z_isinstance=>k_is)
    (case z_bool=>k_is)
    (case z_int=>k_is)
    (case z_len=>k_is)
    (case z_tuple=>k_is)
    (case z_list=>k_is)
    (case z_all=>k_is)
    (case z_sorted=>k_is)
    (case z_set=>k_is)
    (case z_zip=>k_is)
    (case z_enumerate=>k_is)
    (case z_abs=>k_is)
    (case z_sum=>k_is)
    (case z_range=>k_is)
    (case z_reversed=>k_is)
    (case i_int=>intro t ht;cases t <;> first|(exact absurd rfl ht)|rfl|k_is)
    (case i_bool=>intro t ht;cases t <;> first|(exact absurd rfl ht)|rfl|k_is)
    (case i_tuple=>intro t ht;cases t <;> first|(exact absurd rfl ht)|rfl|k_is)
    (case i_list=>intro t ht;cases t <;> first|(exact absurd rfl ht)|rfl|k_is)
#print axioms PySem.Challenge.cw_hookrail_k43_whole_reasons_weigh_no_more_holds
