import PyProof.Rows.All
import Wide.All
import OpenK.AllK
import Wide.FinOn
import Lean
import PyProof.EqAt
import PyProof.EqKinds
import PyProof.TupleCall
import PySem.SetOps
import KE.KDictSum
import KE.KDictList
import PyProof.ZipIter
import KE.KFind
import PyProof.MaxThree
import PyProof.Rows.IntMath
import PyProof.EnumMake
import PyProof.Rows.EnumRows
import KE.KDictLaws
import PyProof.DictWalks
import PyProof.Rows.SortRuns
import KE.KSortKey
import PyProof.P3In
import PyProof.Rows.SortRuns
import PyProof.Rows.SortShell
import PySem.Challenge.RW_hookrail_k35_empty_ways_over_each_gap
open Array renaming length_toList→zM,getElem?_toList→zZ,getElem?_eq_getElem→zx,toList_append→yB,getElem?_eq_none→yX,toList_extract→xZ,toArray_toList→xb,toList_reverse→xn,perm_iff_toList_perm→xo,toList_eraseIdxIfInBounds→wK,getElem?_eq_some_iff→wc,toList_setIfInBounds→wd,toList_push→wm,size_push→ZP,getElem?_push→Za,forIn_toList→Zv,size_map→YW,toList→Yb
open Array.Perm renaming refl→ZR
open Bool renaming false_eq_true→zy,and_eq_true→yI,and_false→ym,false_ne_true→yo,and_true→y9,false_and→xj,or_false→xy,and_eq_true_iff→wP,false_or→wu,not_true→ww,true_or→ZJ,not_false→ZX,true_and→Zr,not_eq_true'→Z5,or_true→YA
open Int renaming le_refl→yD,le_trans→yP,le_of_lt→yg,toNat_natCast→yh,reduceToNat→ZS,toNat_of_nonneg→Zc,reduceSub→Zj,reduceAdd→Zk,reduceMul→Zl,reduceMod→Zm,reduceDiv→Zn,reduceNeg→Zo,reducePow→Zp,reduceBEq→Zq,reduceLT→Z8,reduceLE→Z9,sub_self→YB,zero_add→YC,natCast_zero→YK
open List renaming length_map→zB,length_append→zC,getElem?_eq_getElem→zD,mem_cons→zF,mem_cons_self→zG,mem_cons_of_mem→zH,getElem?_set_ne→zI,append_assoc→zK,length_cons→zL,mem_append→zN,size_toArray→zP,mem_append_right→zQ,getD_eq_getElem?_getD→zS,mem_singleton→zT,length_singleton→zU,mem_append_left→zV,getElem?_append_right→zW,pairwise_append→zX,map_append→zY,getElem?_map→za,pairwise_cons→zb,getElem?_append_left→zc,length_take→zd,mem_iff_getElem→ze,range→zf,map_cons→zg,replicate→zh,not_mem_nil→zi,getElem?_eq_some_iff→zj,getElem?_eq_none→zn,length_range→zo,append_nil→zr,take_append_drop→z0,mem_of_getElem?→z7,mem_map→z8,replicate_succ→yA,flatten_cons→yC,length_drop→yE,nil_append→yF,filter_cons→yJ,length_replicate→yK,pairwise_iff_getElem→yL,map_map→yR,nodup_cons→yS,length_set→yT,getElem_mem→yU,nodup_append→yV,getElem?_set_self→yW,mem_reverse→yZ,map_congr_left→ya,perm_append_comm→yb,map_nil→yc,take_of_length_le→yf,eq_nil_of_length_eq_zero→yi,length_filter_le→yj,mem_range→yk,getElem?_replicate→yp,getElem?_cons_succ→yq,sum_cons→yr,ext_getElem?→yt,mem_filter→yv,drop_eq_getElem_cons→yx,getElem?_zip_eq_some→yy,mem_iff_getElem?→yz,lookup_cons→y0,reverse_reverse→xB,mem_of_mem_drop→xC,getElem_take→xE,getElem?_cons_zero→xF,getElem?_range→xG,length_reverse→xH,reverse_append→xI,getElem_map→xK,mem_flatMap→xL,countP_cons→xM,nodup_nil→xO,getElem?_drop→xQ,getElem?_take→xS,length_nil→xU,length_zip→xV,length→xX,getElem_drop→xa,mem_of_mem_take→xf,filterMap_cons→xh,replicate_zero→xi,countP_append→xl,find?_cons→xm,all_eq_true→xq,getElem?_eq_none_iff→xr,getLast?_eq_none_iff→xt,extract_eq_take_drop→xu,filter_eq_self→xv,flatMap_append→xw,getElem?_take_of_lt→xx,countP_map→wA,set_cons_succ→wC,set_cons_zero→wD,map_replicate→wE,mem_replicate→wF,take_take→wJ,getElem_inj→wM,mem_flatten→wN,dropLast_concat_getLast→wS,countP_eq_length_filter→wT,length_eraseIdx_of_lt→wV,perm_ext_iff_of_nodup→wW,filter_append→wX,drop_take→wY,drop_drop→wZ,drop_zero→wb,getElem?_take_eq_none→we,any_eq_false→wg,take_sublist→wj,reverse_cons→wk,foldl_append→wo,pairwise_map→wp,map_drop→wt,take_append_getElem→wv,perm_middle→wx,drop_length→wz,filter_cons_of_pos→w8,filter_cons_of_neg→w9,pairwise_singleton→ZA,take_length→ZB,length_eq_zero_iff→ZC,cons_append→ZD,foldl→ZF,pairwise_lt_range→ZG,range_succ_eq_map→ZH,zipWith→ZI,filter_eq_nil_iff→ZK,flatMap_singleton→ZL,of_mem_zip→ZN,forIn_cons→ZQ,filter_map→ZT,dropLast_eq_take→ZU,mem_of_getLast?→ZY,countP_eq_zero→Zb,map_take→Zd,all_cons→Ze,any_cons→Zf,mem_filterMap→Zs,filterMap_map→Zt,drop_sublist→Zz,set_set→Z2,map_reverse→YH,map_fst_zip→YI,nodup_range→YJ,any_eq_true→YL,foldl_cons→YM,take_left'→YN,drop_left'→YO,range_succ→YQ,forIn_nil→YU,take_zero→YV,take_left→YX,Nodup→YY
open List.Pairwise renaming nil→xD,sublist→wL
open List.Perm renaming append_left→yH,append_right→yu,trans→yw,refl→xN
open List.Sublist renaming refl→YD
open List.cons renaming inj→Zg
open Nat renaming le_refl→zJ,ne_of_lt→zt,lt_or_ge→zu,lt_of_lt_of_le→zv,zero_le→zz,le_trans→yG,lt_succ_of_lt→yN,le_of_lt→yQ,lt_succ_self→yY,zero_add→y8,le_succ→xA,add_sub_cancel→xP,lt_irrefl→xg,ne_of_gt→xp,not_lt_zero→xz,sub_self→wH,le_succ_of_le→wI,add_assoc→wO,min_le_left→wQ,min_eq_left→wR,add_sub_cancel_left→wy,reduceSub→Zh,reduceAdd→Zi,lt_of_le_of_lt→Zu,eq_or_lt_of_le→Zw,lt_trans→Z0,le_total→Z3,add_zero→Z6,reduceLT→Z7,min_le_right→YF,not_lt→YT
open Option renaming bind_some→yM,isSome_iff_exists→yl,map_some→yn,map_eq_some_iff→wG,isSome_map→Z4,getD_none→YG,none→Yc
open Option.some renaming inj→zw
open PySem.Heap renaming get?_push_of_some→zE,lt_size→zO,get?_push_size→zR,get?_update_other→zk,size_push→yd,size_update→xJ,get?_update_self→xT,SameBut→xW,get?_some_iff→wB
open PySem.Heap.IsSliceOf renaming new→Yd
open PySem.Heap.SameBut renaming update→ZZ,refl→Z1
open PySem.W renaming Frag→zA,mg_none_of→z9,nsIn→yO,kia_one→ye,fnOf→xY,keepIn→xk,codeIn→wU,methodObj→wf,mg_of→wq,cellsFrom_some→ZE,instObj→ZM,OpenLaw→ZO,lookIn→ZV,kitOne→ZW,kitx_list→Zx,kitx_dict→Zy,plainGet→YE,findIn→YR,kIn_of→YS,WalkO→YZ,kf_at→Ya
set_option compiler.extract_closed false
set_option genSizeOfSpec false
set_option Elab.async false
set_option linter.all false
set_option maxRecDepth 100000
namespace L2
open PySem PySem.Spec PyProof.Rows
noncomputable abbrev Key:=Sum Int Str
noncomputable def zAh:Key->Value->Bool
 | .inl k,v=>Value.isInt k v
 | .inr x,v=>Value.isStrOf x v
noncomputable def keyH(w:World):Key->Int
 | .inl k=>hashInt k
 | .inr x=>hashStr w x
theorem qv:∀ {k:Key} {v:Value},zAh k v=true->(∃ i t,k=Sum.inl i/\v=Value.int i t)\/(∃ x t,k=Sum.inr x/\v=Value.str x t)
 | .inl i,v,h=>by
  obtain⟨t,e⟩:=Value.isInt_shape (k:=i) (v:=v) h;exact .inl ⟨i,t,rfl,e⟩
 | .inr x,v,h=>by
  obtain⟨t,e⟩:=Value.isStrOf_shape (x:=x) (v:=v) h;exact .inr ⟨x,t,rfl,e⟩
theorem qbh(i:Int)(t:Tok):zAh (.inl i) (.int i t)=true:=by simp[zAh,Value.isInt]
theorem qbJ(x:Str)(t:Tok):zAh (.inr x) (.str x t)=true:=by simp[zAh,Value.isStrOf]
theorem qfy(a b:Int):decide ((Sum.inl a:Key)=Sum.inl b)=(a == b):=by
 by_cases e:a=b
 ·subst e;simp
 ·have h:¬(Sum.inl a:Key)=Sum.inl b:=λq=>e (Sum.inl.inj q)
  rw[decide_eq_false h];exact(beq_eq_false_iff_ne.mpr e).symm
theorem qfA(a b:Str):decide ((Sum.inr a:Key)=Sum.inr b)=decide (a=b):=by
 by_cases e:a=b
 ·subst e;simp
 ·have h:¬(Sum.inr a:Key)=Sum.inr b:=λq=>e (Sum.inr.inj q)
  rw[decide_eq_false h,decide_eq_false e]
theorem qeW(a:Int)(b:Str):decide ((Sum.inl a:Key)=Sum.inr b)=false:=decide_eq_false (λq=>nomatch q)
theorem qfs(a:Str)(b:Int):decide ((Sum.inr a:Key)=Sum.inl b)=false:=decide_eq_false (λq=>nomatch q)
noncomputable def Yv(prog:Program)(w:World):PySem.KeyKind prog w Key where
 is:=zAh
 hash:=keyH w
 inj:=λv a b ha hb=>by
  rcases qv ha with⟨i,t,rfl,rfl⟩|⟨x,t,rfl,rfl⟩
  ·rcases qv hb with⟨j,u,rfl,e⟩|⟨y,u,rfl,e⟩
   ·injection e with e1 _;rw[e1]
   ·exact nomatch e
  ·rcases qv hb with⟨j,u,rfl,e⟩|⟨y,u,rfl,e⟩
   ·exact nomatch e
   ·injection e with e1 _;rw[e1]
 byValue:=λk v h=>by
  rcases qv h with⟨i,t,rfl,rfl⟩|⟨x,t,rfl,rfl⟩ <;> rfl
 pyHash:=λhv h=>by
  rcases qv hv with⟨i,t,rfl,rfl⟩|⟨x,t,rfl,rfl⟩
  ·exact wpAny_pyHash_int h
  ·exact wpAny_pyHash_str h
 eqBool:=λhu hv h=>by
  rcases qv hu with⟨i,t,rfl,rfl⟩|⟨x,t,rfl,rfl⟩
  ·rcases qv hv with⟨j,u,rfl,rfl⟩|⟨y,u,rfl,rfl⟩
   ·rw[qfy] at h;exact wpAny_eqBool_int h
   ·rw[qeW] at h;exact SeqAt.EqAt.int_str i t y u _ _ _ _ h
  ·rcases qv hv with⟨j,u,rfl,rfl⟩|⟨y,u,rfl,rfl⟩
   ·rw[qfs] at h;exact SeqAt.EqAt.str_int x t j u _ _ _ _ h
   ·rw[qfA] at h;exact wpAny_eqBool_str h
 «strs»:=λk x t v h=>by
  rcases qv h with⟨i,u,rfl,e⟩|⟨y,u,rfl,e⟩
  ·exact nomatch e
  ·injection e with e1 _
   subst e1;cases v <;> rfl
theorem q8g(prog:Program)(w:World)(i:Int)(t:Tok):(Yv prog w).is (.inl i) (.int i t)=true:=qbh i t
theorem q8p(prog:Program)(w:World)(x:Str)(t:Tok):(Yv prog w).is (.inr x) (.str x t)=true:=qbJ x t
inductive V where
 | non|bl (b:Bool)|int (i:Int)|str (x:Str)|byt (b:Array UInt8)|flt (b:UInt64)|ref (a:Addr)|ty (n:String)
 deriving DecidableEq
def RelV:V->Value->Prop
 | .non,u=>u=Value.none
 | .bl b,u=>u=Value.bool b
 | .int i,u=>∃ t,u=Value.int i t
 | .str x,u=>∃ t,u=Value.str x t
 | .byt b,u=>∃ t,u=Value.bytes b t
 | .flt b,u=>∃ t,u=Value.float b t
 | .ref a,u=>u=Value.ref a
 | .ty n,u=>u=Value.type n
abbrev Y2:List V->List Value->Prop:=Paired RelV
theorem Y2.length{xs:List V}{us:List Value}(r:Y2 xs us):xs.length=us.length:=Paired.length r
theorem Y2.get:∀ {xs:List V} {us:List Value} {i:Nat} {x:V},Y2 xs us->xs[i]?=some x->∃ u,us[i]?=some u/\RelV x u
 | _,_,_,_,.nil,e=>by simp at e
 | _,_,0,_,.cons r _,e=>by simp at e;subst e;exact⟨_,rfl,r⟩
 | _,_,i+1,x,.cons _ t,e=>by
  obtain⟨u,h1,h2⟩:=Y2.get (i:=i) (x:=x) t (by simpa using e);exact⟨u,by simpa using h1,h2⟩
theorem Y2.append:∀ {xs ys:List V} {us ws:List Value},Y2 xs us->Y2 ys ws->Y2 (xs++ys) (us++ws)
 | _,_,_,_,.nil,s=>s
 | _,_,_,_,.cons r t,s=>.cons r (Y2.append t s)
theorem Y2.take:∀ {xs:List V} {us:List Value} (n:Nat),Y2 xs us->Y2 (xs.take n) (us.take n)
 | _,_,0,_=>.nil
 | _,_,_+1,.nil=>.nil
 | _,_,n+1,.cons r t=>.cons r (Y2.take n t)
theorem Y2.drop:∀ {xs:List V} {us:List Value} (n:Nat),Y2 xs us->Y2 (xs.drop n) (us.drop n)
 | _,_,0,r=>r
 | _,_,_+1,.nil=>.nil
 | _,_,n+1,.cons _ t=>Y2.drop n t
def zAd:Option V->Option Value->Prop
 | some v,some u=>RelV v u
 | none,none=>True
 | _,_=>False
def KV{κ:Type}:List (κ×V)->List (κ×Value)->Prop:=Paired λ(p:κ×V) (q:κ×Value)=>p.1=q.1/\RelV p.2 q.2
noncomputable def kV:Key->V
 | .inl i=>.int i
 | .inr x=>.str x
inductive HO where
 /-- a list -/
 | lst (xs:List V)
 /-- a tuple (never changes) -/
 | tup (xs:List V)
 /-- a dict whose keys are ints and texts;one whose keys are tuples of ints and texts (the empty one is both) -/
 | dK (kvs:List (Key×V))|dT (kvs:List (List Key×V))
 /-- a set of ints: its members,its size -/
 | set (S:Int->Bool) (n:Nat)
 /-- an instance of the class at C,its dict at dx,its attributes -/
 | ins (C dx:Addr) (fs:List (Str×V))
 /-- the dict of the instance at x -/
 | own (x:Addr)
 /-- the dict of an exception -/
 | xd (fs:List (Str×V))
 /-- a bound method,f of x -/
 | met (f x:Addr)
 /-- a range object lo,lo+1,.. below hi -/
 | rng (lo hi:Int)
 /-- a thing that is known to the object (the script;a dict while a loop walks it): read,never written while it is so -/
 | frz (o:Obj) (u:HO)
 /-- a code object's table -/
 | tbl (ps:Array Value)
 /-- any other thing,by what is true of its one object (a def of one's own: SetO a S n:=HO.ext λh=>..) -/
 | ext (φ:Heap->Prop)
noncomputable abbrev Hp:=Addr->Option HO
noncomputable def upd(H:Hp)(a:Addr)(o:HO):Hp:=λb=>if b=a then some o else H b
theorem qd{H:Hp}{a:Addr}{o:HO}:upd H a o a=some o:=by unfold upd;rw[if_pos rfl]
theorem qc{H:Hp}{a b:Addr}{o:HO}(h:b≠a):upd H a o b=H b:=by unfold upd;rw[if_neg h]
theorem qgg{H:Hp}{a b:Addr}{o u:HO}(h:H a=some o)(h':H b=some u)(d:o≠u):a≠b:=by
 intro e;subst e;rw[h] at h';exact d (zw h')
theorem q09{H:Hp}{a b:Addr}{o:HO}(h:H a=some o)(h':H b=none):a≠b:=by
 intro e;subst e;rw[h] at h';cases h'
section
variable (P:Program) (w:World)
def Y3(H:Hp)(h:Heap)(a:Addr):HO->Prop
 | .lst xs=>xs.length <= sizeLine/\∃ (its:List Value) (n:Nat),Y2 xs its/\h.get? a=some { cls:=.type "list", data:=.seq its.toArray n }
 | .tup xs=>xs.length <= sizeLine/\∃ its:List Value,Y2 xs its/\IsTup h a its.toArray
 | .dK kvs=>kvs.length <= sizeLine/\(a == sysModules)=false/\∃ vs,KV kvs vs/\h.DictOf (Yv P w) a vs
 | .dT kvs=>kvs.length <= sizeLine/\(a == sysModules)=false/\∃ xs:List (List Key×Addr×Value),
   Paired (λ(p:List Key×V) (q:List Key×Addr×Value)=>p.1=q.1/\H q.2.1=some (.tup (p.1.map kV))/\RelV p.2 q.2.2) kvs xs /\
   ∃ o es ep,h.get? a=some o/\o.ExactDict/\o.data=.dict es ep/\es.toList=xs.map (entryOfKey (tupleKind (Yv P w)))/\(xs.map (·.1)).Nodup
 | .set S n=>h.SetOf (intKind P w) a S n
 | .ins C dx fs=>H dx=some (.own a)/\fs.length <= 1000/\dx≠a/\h.get? a=some (ZM C dx) /\
   ∃ mA,h.Ns1 dx mA/\(∀ f,zAd (fs.lookup f) (mA f))/\PySem.Within mA (fs.map (·.1))
 | .own _=>∃ o,h.get? a=some o
 | .xd fs=>∃ mA,h.Ns1 a mA/\∀ f,zAd (fs.lookup f) (mA f)
 | .rng lo hi=>∃ t u v,h.get? a=some { cls:=.type "range", data:=.fields #[.int lo t,.int hi u,.int 1 v] }
 | .frz o u=>h.get? a=some o/\Y3 H h a u
 | .tbl ps=>h.get? a=some { cls:=.none,data:=.fields ps }
 | .met f x=>h.get? a=some (wf (.ref f) (.ref x))
 | .ext φ=>φ h/\(∃ o,h.get? a=some o)/\∀ h1 h2:Heap,φ h1->(∀ o,h1.get? a=some o->h2.get? a=some o)->φ h2
def HOk(H:Hp)(h:Heap):Prop:=∀ a o,H a=some o->Y3 P w H h a o
end
section
variable {P:Program} {w:World} {H H':Hp} {h h':Heap} {a:Addr} {o:HO}
theorem Y3.lt(x:Y3 P w H h a o):a < h.objs.size:=by
 cases o with
 | lst xs=>obtain⟨_,_,_,_,e⟩:=x;exact zO e
 | tup xs=>obtain⟨_,_,_,p⟩:=x;exact p.lt
 | dK kvs=>obtain⟨_,_,_,_,o,_,_,e,_⟩:=x;exact zO e
 | dT kvs=>obtain⟨_,_,_,_,o,_,_,e,_⟩:=x;exact zO e
 | set S n=>obtain⟨o,_,_,_,e,_⟩:=x;exact zO e
 | ins C dx fs=>obtain⟨_,_,_,e,_⟩:=x;exact zO e
 | own y=>obtain⟨_,e⟩:=x;exact zO e
 | xd fs=>obtain⟨_,⟨_,_,_,e,_⟩,_⟩:=x;exact zO e
 | rng lo hi=>obtain⟨_,_,_,e⟩:=x;exact zO e
 | frz ob u=>obtain⟨e,_⟩:=x;exact zO e
 | tbl ps=>exact zO (show h.get? a=some _ from x)
 | met f y=>exact zO (show h.get? a=some _ from x)
 | ext φ=>obtain⟨_,⟨_,e⟩,_⟩:=x;exact zO e
theorem Paired.mapP{α β:Type}{F G:α->β->Prop}:∀ {l₁:List α} {l₂:List β},Paired F l₁ l₂->(∀ a b,F a b->G a b)->Paired G l₁ l₂
 | _,_,.nil,_=>.nil
 | _,_,.cons r t,f=>.cons (f _ _ r) (Paired.mapP t f)
theorem Y3.stay(x:Y3 P w H h a o)(k:∀ b u,(b=a\/H b=some (.own a))->h.get? b=some u->h'.get? b=some u)
  (ho:∀ b,H b=some (.own a)->H' b=some (.own a)) (ht:∀ b xs,H b=some (.tup xs)->H' b=some (.tup xs)):Y3 P w H' h' a o:=by
 induction o with
 | lst xs=>obtain⟨z,its,n,r,e⟩:=x;exact⟨z,its,n,r,k _ _ (.inl rfl) e⟩
 | tup xs=>obtain⟨z,its,r,ob,e,c⟩:=x;exact⟨z,its,r,ob,k _ _ (.inl rfl) e,c⟩
 | dK kvs=>obtain⟨z,y,vs,r,ob,es,ep,e,c⟩:=x;exact⟨z,y,vs,r,ob,es,ep,k _ _ (.inl rfl) e,c⟩
 | dT kvs =>
  obtain⟨z,y,xs,r,ob,es,ep,e,c⟩:=x;exact⟨z,y,xs,Paired.mapP r λp q z=>⟨z.1,ht _ _ z.2.1,z.2.2⟩,ob,es,ep,k _ _ (.inl rfl) e,c⟩
 | set S n=>obtain⟨ob,es,ep,t,e,c⟩:=x;exact⟨ob,es,ep,t,k _ _ (.inl rfl) e,c⟩
 | ins C dx fs =>
  obtain⟨d,z,ne,e,mA,⟨od,es,ep,e2,c⟩,r⟩:=x;exact⟨ho _ d,z,ne,k _ _ (.inl rfl) e,mA,⟨od,es,ep,k _ _ (.inr d) e2,c⟩,r⟩
 | own y=>obtain⟨ob,e⟩:=x;exact⟨ob,k _ _ (.inl rfl) e⟩
 | xd fs=>obtain⟨mA,⟨od,es,ep,e,c⟩,r⟩:=x;exact⟨mA,⟨od,es,ep,k _ _ (.inl rfl) e,c⟩,r⟩
 | rng lo hi=>obtain⟨t,u,v,e⟩:=x;exact⟨t,u,v,k _ _ (.inl rfl) e⟩
 | frz ob u ih=>obtain⟨e,q⟩:=x;exact⟨k _ _ (.inl rfl) e,ih q⟩
 | tbl ps =>
  have e:h.get? a=some { cls:=.none,data:=.fields ps }:=x;show h'.get? a=some { cls:=.none,data:=.fields ps };exact k a _ (.inl rfl) e
 | met f y =>
  have e:h.get? a=some (wf (.ref f) (.ref y)):=x;show h'.get? a=some (wf (.ref f) (.ref y));exact k a _ (.inl rfl) e
 | ext φ=>obtain⟨p,⟨o,e⟩,st⟩:=x;exact⟨st _ _ p λo q=>k _ _ (.inl rfl) q,⟨o,k _ _ (.inl rfl) e⟩,st⟩
theorem HOk.lt(x:HOk P w H h)(e:H a=some o):a < h.objs.size:=(x a o e).lt
theorem HOk.fresh(x:HOk P w H h)(e:h.objs.size <= a):H a=none:=by
 cases q:H a with
 | none=>rfl
 | some u=>exact absurd (zv (x.lt q) e) (xg _)
theorem HOk.kept(x:HOk P w H h)(k:∀ b u,h.get? b=some u->h'.get? b=some u):HOk P w H h':=λa o e =>
 (x a o e).stay (λb u _ q=>k b u q) (λ_ q=>q) λ_ _ q=>q
theorem HOk.laid(x:HOk P w H h)(k:∀ b u,h.get? b=some u->h'.get? b=some u)(hp:h.objs.size <= a)(new:Y3 P w (upd H a o) h' a o):HOk P w (upd H a o) h':=λb u e=>by
 have hn:=x.fresh hp
 by_cases hb:b=a
 ·subst hb;rw[qd] at e;cases e;exact new
 ·rw[qc hb] at e
  exact(x b u e).stay (λc v _ q=>k c v q) (λc q=>by rw[qc (q09 q hn)];exact q) λc xs q=>by rw[qc (q09 q hn)];exact q
end
def Rd(H:Hp)(a:Addr)(u:HO):Prop:=H a=some u\/∃ o,H a=some (.frz o u)
theorem Rd.ok{P:Program}{w:World}{H:Hp}{h:Heap}{a:Addr}{u:HO}(r:Rd H a u)(x:HOk P w H h):Y3 P w H h a u:=by
 rcases r with r|⟨o,r⟩
 ·exact x a u r
 ·obtain⟨_,q⟩:=x a _ r
  exact q
def Mut:Option HO->Prop
 | some (.lst _)=>True
 | some (.dK _)=>True
 | some (.dT _)=>True
 | some (.set _ _)=>True
 | some (.ins _ _ _)=>True
 | some (.ext _)=>True
 | _=>False
section
variable {P:Program} {w:World} {H:Hp} {h h':Heap} {x e:Addr} {o':HO}
theorem HOk.write(ok:HOk P w H h)(mu:Mut (H x))(he:e=x\/H e=some (.own x))(k:∀ b u,b≠e->h.get? b=some u->h'.get? b=some u)(heo:∃ u,h'.get? e=some u)
  (new:Y3 P w (upd H x o') h' x o'):HOk P w (upd H x o') h':=λb u q=>by
 have nown:∀ c y,H c=some (.own y)->c≠x:=λc y r z=>by subst z;rw[r] at mu;exact mu
 have ntup:∀ c xs,H c=some (.tup xs)->c≠x:=λc xs r z=>by subst z;rw[r] at mu;exact mu
 by_cases hb:b=x
 ·subst hb;rw[qd] at q;cases q;exact new
 ·rw[qc hb] at q
  by_cases hbe:b=e
  ·have q':H b=some (.own x):=by
    rcases he with z|z
    ·exact absurd (hbe.trans z) hb
    ·rw[hbe];exact z
   rw[q] at q';cases q';obtain⟨v,hv⟩:=heo;exact⟨v,by rw[hbe];exact hv⟩
  ·refine(ok b u q).stay (λc v hc r=>k c v ?_ r) (λc r=>by rw[qc (nown c b r)];exact r) λc xs r=>by rw[qc (ntup c xs r)];exact r
   rcases hc with rfl|hc
   ·exact hbe
   ·rintro rfl
    rcases he with z|z
    ·exact nown c b hc z
    ·rw[hc] at z;cases z;exact hb rfl
end
structure Un (fs ex:List Addr) (H H':Hp) (h h':Heap):Prop where
 keep:∀ b o,h.get? b=some o->H b=none->b∉fs->b∉ex->h'.get? b=some o
 slot:∀ b o,h.get? b=some o->H b=none->b∈fs->b∉ex->∃ sl,h'.get? b=some { o with slots:=sl }
 free:∀ b o,h.get? b=some o->H b=none->b∉ex->H' b=none
 there:∀ b o,h.get? b=some o->b∉ex->∃ o',h'.get? b=some o'
 tups:∀ b xs,H b=some (.tup xs)->H' b=some (.tup xs)
 frzs:∀ b o u,H b=some (.frz o u)->H' b=some (.frz o u)
 tbls:∀ b ps,H b=some (.tbl ps)->∃ more,H' b=some (.tbl (ps++more))
section
variable {fs fs' ex ex':List Addr} {H H1 H2:Hp} {h h1 h2 h':Heap} {a x e:Addr} {o:HO}
theorem Un.any(u:Un fs ex H H1 h h1){b:Addr}{ob:Obj}(q:h.get? b=some ob)(n:H b=none)(hx:b∉ex):∃ sl,h1.get? b=some { ob with slots:=sl }:=by
 by_cases hb:b∈fs
 ·exact u.slot b ob q n hb hx
 ·exact⟨ob.slots,u.keep b ob q n hb hx⟩
theorem Un.kept(k:∀ b u,h.get? b=some u->h'.get? b=some u):Un fs ex H H h h' :=
 ⟨λb ob q _ _ _=>k b ob q,λb ob q _ _ _=>⟨ob.slots,k b ob q⟩,λ_ _ _ n _=>n,λb ob q _=>⟨ob,k b ob q⟩,λ_ _ q=>q,λ_ _ _ q=>q,λ_ ps q=>⟨#[],by rw[q];simp⟩⟩
theorem Un.refl:Un fs ex H H h h:=Un.kept λ_ _ q=>q
theorem Un.laid(k:∀ b u,h.get? b=some u->h'.get? b=some u)(hp:h.objs.size <= a)(hn:H a=none):Un fs ex H (upd H a o) h h' where
 keep:=λb u q _ _ _=>k b u q
 slot:=λb u q _ _ _=>⟨u.slots,k b u q⟩
 free:=λb u q n _=>by rw[qc (zt (zv (zO q) hp))];exact n
 there:=λb u q _=>⟨u,k b u q⟩
 tups:=λb xs q=>by rw[qc (q09 q hn)];exact q
 frzs:=λb u xs q=>by rw[qc (q09 q hn)];exact q
 tbls:=λb ps q=>⟨#[],by rw[qc (q09 q hn),q];simp⟩
theorem Un.write(mu:Mut (H x))(he:e=x\/H e=some (.own x))(k:∀ b u,b≠e->h.get? b=some u->h'.get? b=some u)(heo:∃ u,h'.get? e=some u):Un fs ex H (upd H x o) h h':=by
 have hx:∀ b,H b=none->b≠x:=λb n z=>by subst z;rw[n] at mu;exact mu
 have hb:∀ b,H b=none->b≠e:=λb n z=>by
  subst z;rcases he with r|r
  ·exact hx b n r
  ·rw[n] at r;cases r
 have hm:∀ b u,H b=some u->¬Mut (some u)->b≠x:=λb u q nm z=>by subst z;rw[q] at mu;exact nm mu
 refine⟨λb u q n _ _=>k b u (hb b n) q,λb u q n _ _=>⟨u.slots,k b u (hb b n) q⟩,λb u q n _=>by rw[qc (hx b n)];exact n,λb u q _=>?_,
  λb xs q=>by rw[qc (hm b _ q λz=>z)];exact q,λb u xs q=>by rw[qc (hm b _ q λz=>z)];exact q,λb ps q=>⟨#[],by rw[qc (hm b _ q λz=>z),q];simp⟩⟩
 by_cases hbe:b=e
 ·subst hbe;exact heo
 ·exact⟨u,k b u hbe q⟩
end
noncomputable def trk(h:Heap)(H:Hp):List Addr:=(zf h.objs.size).filter λa=>(H a).isSome
noncomputable def zBg(h:Heap)(H:Hp):Heap:=PySem.W.hideAll h (trk h H)
theorem qaQ(h:Heap)(H:Hp):(zBg h H).objs.size=h.objs.size:=PySem.W.hideAll_size _ _
theorem qck{h:Heap}{H:Hp}{b:Addr}{o:Obj}(e:h.get? b=some o)(n:H b=none):(zBg h H).get? b=some o :=
 PySem.W.hideAll_get _ e λhm=>by
  have q:(H b).isSome=true:=(yv.mp hm).2;rw[n] at q;simp at q
theorem qei{h:Heap}{H:Hp}{b:Addr}{o:Obj}(e:(zBg h H).get? b=some o):h.get? b=some o/\H b=none:=by
 have e':h.get? b=some o:=PySem.W.of_hideAll (trk h H) e;refine⟨e',?_⟩;cases q:H b with
 | none=>rfl
 | some x =>
  have hm:b∈trk h H:=yv.mpr ⟨yk.mpr (zO e'),by simp[q]⟩;have z:(zBg h H).get? b=none:=PySem.W.hideAll_none (trk h H) hm;rw[z] at e;cases e
noncomputable def zB9(g h:Heap)(L:Addr):List (Addr×Obj):=(zf h.objs.size).filterMap λa=>if a=L\/(g.get? a).isSome=true then none else (h.get? a).map λo=>(a,o)
noncomputable def rest(g h:Heap)(L d:Addr):List (Addr×Obj):=(zB9 g h L).filter λp=>decide (p.1≠d)
structure Mod (K:zA) (mg:Str->Option Value) (base:Heap):Prop where
 kin:K.In base
 glob:base.Ns mainGlobals mg
 blt:∃ mb,base.Ns builtinsNs mb/\∀ x:Str,x ≠ "__name__" -> mb x=bootBuiltins x
 nolimit:base.NoLimit
structure Cx where
 prog:Program
 w:World
 K:zA
 mg:Str->Option Value
 base:Heap
 A:Around
 N:List Str
 s₀:Shared
 H₀:Hp
 env:Env
 outer:List Env
 stack:List Env
 ex:List Addr
 fn:Str->Bool
 calm:Bool
 pn:List (Addr×Obj)
 xe:Value->Shared->Prop
noncomputable def frs(l:List Env):List Addr:=l.filterMap (·.frame)
noncomputable abbrev Cx.fs(X:Cx):List Addr:=frs X.outer
def Vis(sc:Scope)(x:Str):Prop:=sc.names.lookup x=some .local\/sc.names.lookup x=some .cell\/sc.names.lookup x=some .free
def Loc(sc:Scope)(x:Str):Prop:=sc.names.lookup x=some .local\/sc.names.lookup x=some .cell
def Look(env:Env)(h:Heap)(m:Str->Option Value)(x:Str)(u:Value):Prop :=
 (env.kindOf x=some .local/\m x=some u)\/((env.kindOf x=some .cell\/env.kindOf x=some .free)/\∃ c,env.cells.lookup x=some c/\h.IsCell c (some u))
structure Cx.Ok (X:Cx):Prop where
 mod:Mod X.K X.mg X.base
 kind:X.env.scope.kind=.function
 glob:X.env.globals=mainGlobals
 blt:X.env.builtins=builtinsNs
 above:X.s₀.heap.objs.size <= X.env.locals
 inj:∀ x y c,X.env.cells.lookup x=some c->X.env.cells.lookup y=some c->x=y
 has:∀ x,(X.env.kindOf x=some .cell\/X.env.kindOf x=some .free)->∃ c,X.env.cells.lookup x=some c
 cab:∀ x c,X.fn x=true->X.env.cells.lookup x=some c->X.s₀.heap.objs.size <= c
 hd:X.calm=true->X.A.handled=none
 frames:X.A.frames=some X.stack
 stk:X.stack=X.outer\/(X.stack=X.env::X.outer/\X.env.frame=some X.env.locals)
 exf:∀ b∈X.ex,b≠X.env.locals/\∀ x c,X.env.cells.lookup x=some c->c≠b
 bs:∀ b o,X.base.get? b=some o->X.s₀.heap.get? b=some o/\X.H₀ b=none
 bsz:X.base.objs.size <= X.s₀.heap.objs.size
 noex:∀ b o,X.base.get? b=some o->b∉X.ex
 exfs:∀ b∈X.ex,b∉X.fs
 funs:X.s₀.heap.FunFrames X.base X.outer
 frf:∀ b∈X.fs,X.H₀ b=none
structure Inv (X:Cx) (pins:List (Addr×Obj)) (σ:List (Option V)) (H:Hp) (s:Shared):Prop where
 ok:X.Ok
 os:s.os=X.s₀.os
 bare:AllBare s.gens
 base:Un X.fs X.ex X.H₀ H X.s₀.heap s.heap
 loc:∃ m,s.heap.Ns X.env.locals m/\∀ (i:Nat) (x:Str) (v:V),X.N[i]?=some x->σ[i]?=some (some v)->Vis X.env.scope x->∃ u,RelV v u/\Look X.env s.heap m x u
 cell:∀ x c,X.env.cells.lookup x=some c->∃ v,s.heap.IsCell c v
 free:H X.env.locals=none
 freeC:∀ x c,X.env.cells.lookup x=some c->H c=none
 pin:∀ p∈X.pn++pins,s.heap.get? p.1=some p.2/\H p.1=none/\p.1≠X.env.locals/\p.1∉X.fs/\∀ v,p.2.data≠.cell v
 hok:HOk X.prog X.w H s.heap
 len:σ.length=X.N.length
section
variable {X:Cx} {pins:List (Addr×Obj)} {σ:List (Option V)} {H H':Hp} {s:Shared} {h':Heap}
theorem Cx.Ok.nofr(ok:X.Ok){b:Addr}{o:Obj}(e:X.base.get? b=some o):b∉X.fs:=λhb=>by
 have:=(ok.funs.mem hb).1;rw[e] at this;cases this
theorem Inv.bs(I:Inv X pins σ H s):∀ b o,X.base.get? b=some o->s.heap.get? b=some o/\H b=none:=λb o e =>
 ⟨I.base.keep b o (I.ok.bs b o e).1 (I.ok.bs b o e).2 (I.ok.nofr e) (I.ok.noex b o e),I.base.free b o (I.ok.bs b o e).1 (I.ok.bs b o e).2 (I.ok.noex b o e)⟩
theorem Inv.bk(I:Inv X pins σ H s):∀ b o,X.base.get? b=some o->s.heap.get? b=some o:=λb o e=>(I.bs b o e).1
theorem Inv.mod(I:Inv X pins σ H s):Mod X.K X.mg X.base:=I.ok.mod
theorem Inv.kIn(I:Inv X pins σ H s):X.K.In s.heap:=I.ok.mod.kin.keeps I.bk
theorem Inv.lt(I:Inv X pins σ H s):X.env.locals < s.heap.objs.size:=let ⟨_,hn,_⟩:=I.loc;hn.lt
theorem Inv.sz(I:Inv X pins σ H s):X.s₀.heap.objs.size <= s.heap.objs.size:=yG I.ok.above (yQ I.lt)
theorem Inv.nofs(I:Inv X pins σ H s){a:Addr}(h:s.heap.objs.size <= a):a∉X.fs:=λhb=>by
 obtain⟨_,o,ho,_⟩:=I.ok.funs.mem hb;exact absurd (zv (zO ho) (yG I.sz h)) (xg _)
theorem Inv.cne(I:Inv X pins σ H s):∀ x c,X.env.cells.lookup x=some c->c≠X.env.locals:=λx c e z=>by
 obtain⟨v,o,ho,hd⟩:=I.cell x c e;obtain⟨m,⟨o',es,ep,ho',hd',_⟩,_⟩:=I.loc;rw[z,ho'] at ho;cases ho;rw[hd'] at hd;cases hd
theorem Inv.funs(I:Inv X pins σ H s):s.heap.FunFrames X.base X.outer:=by
 have all:∀ (l:List Env),(∀ b∈frs l,b∈X.fs)->X.s₀.heap.FunFrames X.base l->s.heap.FunFrames X.base l:=by
  intro l
  induction l with
  | nil=>intro _ _;trivial
  | cons env r ih =>
   intro hs hl;obtain⟨hk,⟨L,o,hf,hn,ho,hd⟩,hr⟩:=hl;have hL:L∈X.fs:=hs L (by unfold frs;rw[xh,hf];exact zG);obtain⟨sl,e⟩:=I.base.slot L o ho (I.ok.frf L hL) hL λz=>I.ok.exfs L z hL;exact⟨hk,⟨L,_,hf,hn,e,hd⟩,ih (λb hb=>hs b (by unfold frs;rw[xh,hf];exact zH _ hb)) hr⟩
 exact all X.outer (λ_ hb=>hb) I.ok.funs
theorem Inv.stack(I:Inv X pins σ H s):s.heap.FunFrames X.base X.stack:=by
 rcases I.ok.stk with e|⟨e,hf⟩
 ·rw[e];exact I.funs
 ·rw[e]
  obtain⟨m,hn,_⟩:=I.loc;refine .cons (by rw[I.ok.kind];decide) hf hn ?_ I.funs;exact Heap.get?_none_of_le (yG I.ok.bsz I.ok.above)
theorem Inv.stkSub(I:Inv X pins σ H s):∀ b∈frs X.stack,b∈X.env.locals::X.fs:=λb hb=>by
 rcases I.ok.stk with e|⟨e,hf⟩
 ·rw[e] at hb;exact zH _ hb
 ·rw[e] at hb
  unfold frs at hb;rw[xh,hf] at hb;exact hb
theorem Inv.stkFree(I:Inv X pins σ H s):∀ b∈frs X.stack,H b=none:=λb hb=>by
 rcases zF.mp (I.stkSub b hb) with e|hb
 ·rw[e];exact I.free
 ·obtain⟨_,o,ho,_⟩:=I.ok.funs.mem hb
  exact I.base.free b o ho (I.ok.frf b hb) λz=>I.ok.exfs b z hb
theorem Inv.step{g':Array GenState}{t':Nat}{d':Drawn}{ch:List Addr}(I:Inv X pins σ H s)
  (hch:∀ b∈ch,(b∈X.ex\/X.s₀.heap.objs.size <= b)/\b≠X.env.locals/\(∀ x c,X.env.cells.lookup x=some c->c≠b)/\∀ p∈X.pn++pins,p.1≠b)
  (keep:∀ b o,b≠X.env.locals->b∉X.fs->b∉ch->s.heap.get? b=some o->H b=none->h'.get? b=some o)
  (slot:∀ b o,b≠X.env.locals->b∈X.fs->b∉ch->s.heap.get? b=some o->H b=none->∃ sl,h'.get? b=some { o with slots:=sl }) (free:∀ b o,b∉ch->s.heap.get? b=some o->H b=none->H' b=none)
  (there:∀ b o,b∉ch->s.heap.get? b=some o->∃ o',h'.get? b=some o')
  (tups:∀ b xs,H b=some (.tup xs)->H' b=some (.tup xs)) (frzs:∀ b o u,H b=some (.frz o u)->H' b=some (.frz o u)) (tbls:∀ b ps,H b=some (.tbl ps)->∃ more,H' b=some (.tbl (ps++more)))
  (ns:∀ m,s.heap.Ns X.env.locals m->h'.Ns X.env.locals m) (hok:HOk X.prog X.w H' h') (hg:AllBare g') :
  Inv X pins σ H' { s with heap:=h',gens:=g',drawn:=d',toks:=t' }:=by
 have neL:∀ b o,X.s₀.heap.get? b=some o->b≠X.env.locals:=λb o e=>zt (zv (zO e) I.ok.above);have neC:∀ b o,X.s₀.heap.get? b=some o->b∉X.ex->b∉ch:=λb o e hx hb=>by
  rcases (hch b hb).1 with z|z
  ·exact hx z
  ·exact absurd (zv (zO e) z) (xg _)
 have cellK:∀ x c,X.env.cells.lookup x=some c->∀ v,s.heap.IsCell c v->h'.IsCell c v:=λx c e v ⟨o,ho,hd⟩=>by
  have nch:c∉ch:=λz=>(hch c z).2.2.1 x c e rfl
  by_cases hc:c∈X.fs
  ·obtain⟨sl,q⟩:=slot c o (I.cne x c e) hc nch ho (I.freeC x c e)
   exact⟨_,q,hd⟩
  ·exact⟨o,keep c o (I.cne x c e) hc nch ho (I.freeC x c e),hd⟩
 refine⟨I.ok,I.os,hg,⟨λb o e n hb hx=>?_,λb o e n hb hx=>?_,λb o e n hx=>?_,λb o e hx=>?_,λb xs e=>tups b xs (I.base.tups b xs e),λb o xs e=>frzs b o xs (I.base.frzs b o xs e),λb ps e=>?_⟩,?_,λx c e=>?_,?_,λx c e=>?_,λp hp=>?_,hok,I.len⟩
 ·exact keep b o (neL b o e) hb (neC b o e hx) (I.base.keep b o e n hb hx) (I.base.free b o e n hx)
 ·obtain⟨sl,e1⟩:=I.base.slot b o e n hb hx
  obtain⟨sl',e2⟩:=slot b _ (neL b o e) hb (neC b o e hx) e1 (I.base.free b o e n hx);exact⟨sl',e2⟩
 ·obtain⟨o',e1⟩:=I.base.there b o e hx
  exact free b o' (neC b o e hx) e1 (I.base.free b o e n hx)
 ·obtain⟨o',e1⟩:=I.base.there b o e hx
  exact there b o' (neC b o e hx) e1
 ·obtain⟨m1,e1⟩:=I.base.tbls b ps e
  obtain⟨m2,e2⟩:=tbls b _ e1;exact⟨m1++m2,by rw[e2,Array.append_assoc]⟩
 ·obtain⟨m,hn,hl⟩:=I.loc
  refine⟨m,ns m hn,λi x v e1 e2 e3=>?_⟩;obtain⟨u,r,l⟩:=hl i x v e1 e2 e3;refine⟨u,r,?_⟩;rcases l with l|⟨k,c,e,z⟩
  ·exact .inl l
  ·exact .inr ⟨k,c,e,cellK x c e _ z⟩
 ·obtain⟨v,z⟩:=I.cell x c e
  exact⟨v,cellK x c e v z⟩
 ·obtain⟨m,⟨o,_,_,ho,_⟩,_⟩:=I.loc
  exact free _ o (λz=>(hch _ z).2.1 rfl) ho I.free
 ·obtain⟨v,o,ho,hd⟩:=I.cell x c e
  exact free c o (λz=>(hch c z).2.2.1 x c e rfl) ho (I.freeC x c e)
 ·obtain⟨e,n,ne,nf,d⟩:=I.pin p hp
  have nch:p.1∉ch:=λz=>(hch p.1 z).2.2.2 p hp rfl;exact⟨keep p.1 p.2 ne nf nch e n,free p.1 p.2 nch e n,ne,nf,d⟩
theorem Inv.un{t':Nat}(I:Inv X pins σ H s)(u:Un X.fs [] H H' s.heap h')(hok:HOk X.prog X.w H' h'):Inv X pins σ H' { s with heap:=h',toks:=t' }:=by
 obtain⟨m,⟨o,es,ep,ho,r⟩,_⟩:=id I.loc;obtain⟨sl,hL⟩:=u.any ho I.free (by simp);exact I.step (g':=s.gens) (d':=s.drawn) (ch:=[]) (λ_ z=>nomatch z) (λb o _ hb _ e n=>u.keep b o e n hb (by simp)) (λb o _ hb _ e n=>u.slot b o e n hb (by simp)) (λb o _ e n=>u.free b o e n (by simp)) (λb o _ e=>u.there b o e (by simp)) u.tups u.frzs u.tbls (λm' hm=>by
  obtain⟨o',es',ep',ho',r'⟩:=hm;rw[ho] at ho';cases ho';exact⟨_,es',ep',hL,r'⟩) hok I.bare
theorem Inv.call{g':Array GenState}{t':Nat}{d':Drawn}{ch:List Addr}(I:Inv X pins σ H s)(u:Un (frs X.stack) ch H H' s.heap h')(hok:HOk X.prog X.w H' h')(hg:AllBare g')
  (hch:∀ b∈ch,(b∈X.ex\/X.s₀.heap.objs.size <= b)/\b≠X.env.locals/\(∀ x c,X.env.cells.lookup x=some c->c≠b)/\∀ p∈X.pn++pins,p.1≠b) :
  Inv X pins σ H' { s with heap:=h',gens:=g',drawn:=d',toks:=t' }:=by
 obtain⟨m,⟨o,es,ep,ho,r⟩,_⟩:=id I.loc;obtain⟨sl,hL⟩:=u.any ho I.free λz=>(hch _ z).2.1 rfl;exact I.step (ch:=ch) hch (λb o hL hb hc e n=>u.keep b o e n (λz=>(zF.mp (I.stkSub b z)).elim hL hb) hc) (λb o _ _ hc e n=>u.any e n hc) (λb o hc e n=>u.free b o e n hc) (λb o hc e=>u.there b o e hc) u.tups u.frzs u.tbls (λm' hm=>by
  obtain⟨o',es',ep',ho',r'⟩:=hm;rw[ho] at ho';cases ho';exact⟨_,es',ep',hL,r'⟩) hok hg
theorem Inv.turned{t':Nat}{it:Addr}(I:Inv X pins σ H s)(k:∀ b o,b≠it->s.heap.get? b=some o->h'.get? b=some o)(hn:H it=none)(hL:it≠X.env.locals)
  (h1:it∈X.ex\/X.s₀.heap.objs.size <= it) (h2:∀ x c,X.env.cells.lookup x=some c->c≠it) (h3:∀ p∈X.pn++pins,p.1≠it):Inv X pins σ H { s with heap:=h',toks:=t' }:=by
 have nit:∀ b u,H b=some u->b≠it:=λb u e z=>by rw[z,hn] at e;cases e
 refine I.step (g':=s.gens) (d':=s.drawn) (ch:=[it]) (λb hb=>?_) (λb o _ _ hc e _=>k b o (λz=>hc (by simp[z])) e) (λb o _ _ hc e _=>⟨o.slots,k b o (λz=>hc (by simp[z])) e⟩) (λ_ _ _ _ n=>n)
  (λb o hc e=>⟨o,k b o (λz=>hc (by simp[z])) e⟩) (λ_ _ e=>e) (λ_ _ _ e=>e) (λb ps e=>⟨#[],by rw[e];simp⟩) (λm hm=>?_) (λb u e=>?_) I.bare
 ·have e:b=it:=by simpa using hb
  subst e;exact⟨h1,hL,h2,h3⟩
 ·obtain⟨o,es,ep,ho,r⟩:=hm
  exact⟨o,es,ep,k _ o (Ne.symm hL) ho,r⟩
 ·refine(I.hok b u e).stay (λc v hc q=>k c v ?_ q) (λ_ q=>q) λ_ _ q=>q
  rcases hc with z|z
  ·rw[z];exact nit b u e
  ·exact nit c _ z
theorem Inv.tok(I:Inv X pins σ H s)(t:Nat):Inv X pins σ H { s with toks:=t }:=I.un (h':=s.heap) (t':=t) Un.refl I.hok
theorem Inv.kept{t':Nat}(I:Inv X pins σ H s)(k:∀ b u,s.heap.get? b=some u->h'.get? b=some u):Inv X pins σ H { s with heap:=h',toks:=t' }:=I.un (Un.kept k) (I.hok.kept k)
theorem Inv.laid{a:Addr}{o:HO}{t':Nat}(I:Inv X pins σ H s)(k:∀ b u,s.heap.get? b=some u->h'.get? b=some u)(hp:s.heap.objs.size <= a)(new:Y3 X.prog X.w (upd H a o) h' a o) :
  Inv X pins σ (upd H a o) { s with heap:=h',toks:=t' }:=I.un (Un.laid k hp (I.hok.fresh hp)) (I.hok.laid k hp new)
theorem Inv.write{x e:Addr}{o:HO}{t':Nat}(I:Inv X pins σ H s)(mu:Mut (H x))(he:e=x\/H e=some (.own x))(k:∀ b u,b≠e->s.heap.get? b=some u->h'.get? b=some u)(heo:∃ u,h'.get? e=some u)
  (new:Y3 X.prog X.w (upd H x o) h' x o):Inv X pins σ (upd H x o) { s with heap:=h',toks:=t' }:=I.un (Un.write mu he k heo) (I.hok.write mu he k heo new)
theorem Inv.pins_of{pins':List (Addr×Obj)}(I:Inv X pins σ H s)(h:∀ p∈pins',s.heap.get? p.1=some p.2/\H p.1=none/\p.1≠X.env.locals/\p.1∉X.fs/\∀ v,p.2.data≠.cell v):Inv X pins' σ H s :=
 ⟨I.ok,I.os,I.bare,I.base,I.loc,I.cell,I.free,I.freeC,λp hp=>(zN.mp hp).elim (λz=>I.pin p (zV _ z)) (h p),I.hok,I.len⟩
theorem q7W{N:List Str}(hN:N.Nodup){i j:Nat}{x:Str}(a:N[i]?=some x)(b:N[j]?=some x):i=j:=by
 obtain⟨h1,e1⟩:=zj.mp a;obtain⟨h2,e2⟩:=zj.mp b;exact(wM hN).mp (e1.trans e2.symm)
theorem q69{M:Model}{A:Around}{E:Value->Shared->Prop}{i:Nat}{x:Str}{v:V}{u:Value}{Q:Unit->Shared->Prop}(I:Inv X pins σ H s)(hN:X.N.Nodup)(hi:X.N[i]?=some x)(hx:Loc X.env.scope x)(r:RelV v u)
  (h:∀ s',Inv X pins (σ.set i (some v)) H s'->(∃ a,xW a s.heap s'.heap/\(a=X.env.locals\/X.env.cells.lookup x=some a))->Q () s') (hf:X.fn x=true\/X.env.scope.names.lookup x=some .local:=by first|exact .inl rfl|exact .inr rfl|assumption):wpAny M A (storeName X.env x u) Q E s:=by
 obtain⟨m,hn,hl⟩:=id I.loc;have hcls:(X.env.scope.kind == .class || (X.env.scope.kind == .module && X.env.locals != X.env.globals))=false:=by rw[I.ok.kind];rfl
 have hiσ:i < σ.length:=by rw[I.len];exact(zj.mp hi).1
 have cne:=I.cne;have tracked:∀ {a:Addr} {h':Heap},(∃ o,s.heap.get? a=some o/\H a=none)->xW a s.heap h'->HOk X.prog X.w H h':=λ{a h'} ha hs b ob e=>by
  obtain⟨_,_,hfree⟩:=ha;refine(I.hok b ob e).stay (λc w' hc q=>(hs.2 c ?_).trans q) (λ_ q=>q) λ_ _ q=>q;rintro rfl;rcases hc with rfl|hc
  ·rw[hfree] at e;cases e
  ·rw[hfree] at hc;cases hc
 rcases hx with hk|hk
 ·refine wpAny_storeName_local hk hn (λh' hn' hs=>?_) hcls
  obtain⟨oL,_,_,hoL,_⟩:=id hn;refine h _ ⟨I.ok,I.os,I.bare,⟨λb o e n hb hx=>?_,λb o e n hb hx=>?_,I.base.free,λb o e hx=>?_,I.base.tups,I.base.frzs,I.base.tbls⟩,⟨_,hn',λj y v' e1 e2 e3=>?_⟩,λy c e=>?_,I.free,I.freeC,λp hp=>?_,tracked ⟨oL,hoL,I.free⟩ hs,by simpa using I.len⟩ ⟨_,hs,.inl rfl⟩
  ·exact(hs.2 b (zt (zv (zO e) I.ok.above))).trans (I.base.keep b o e n hb hx)
  ·obtain⟨sl,e1⟩:=I.base.slot b o e n hb hx
   exact⟨sl,(hs.2 b (zt (zv (zO e) I.ok.above))).trans e1⟩
  ·obtain⟨o',e1⟩:=I.base.there b o e hx
   exact⟨o',(hs.2 b (zt (zv (zO e) I.ok.above))).trans e1⟩
  ·by_cases hj:j=i
   ·subst hj
    rw[hi] at e1;cases e1;rw[yW hiσ] at e2;cases e2;exact⟨u,r,.inl ⟨hk,by simp⟩⟩
   ·rw[zI (Ne.symm hj)] at e2
    obtain⟨u',r',q⟩:=hl j y v' e1 e2 e3;refine⟨u',r',?_⟩;rcases q with⟨k,e⟩|⟨k,c,e,z⟩
    ·refine .inl ⟨k,?_⟩
     have:y≠x:=λe=>hj (q7W hN e1 (e▸hi));simp[this,e]
    ·exact .inr ⟨k,c,e,z.sameBut hs (cne y c e)⟩
  ·obtain⟨w',z⟩:=I.cell y c e
   exact⟨w',z.sameBut hs (cne y c e)⟩
  ·obtain⟨e,n,ne,nf,d⟩:=I.pin p hp
   exact⟨(hs.2 p.1 ne).trans e,n,ne,nf,d⟩
 ·have hfn:X.fn x=true:=by
   rcases hf with z|z
   ·exact z
   ·rw[z] at hk;cases hk
  obtain⟨c,hc⟩:=I.ok.has x (.inl hk);obtain⟨w',z⟩:=I.cell x c hc;refine wpAny_storeName_cell I.ok.kind hk hc z (λh' hc' hs=>?_);obtain⟨oc,hoc,hocd⟩:=id z;refine h { s with heap:=h' } ⟨I.ok,I.os,I.bare,⟨λb o e n hb hx=>?_,λb o e n hb hx=>?_,I.base.free,λb o e hx=>?_,I.base.tups,I.base.frzs,I.base.tbls⟩,⟨m,hn.sameBut hs (Ne.symm (cne x c hc)),λj y v' e1 e2 e3=>?_⟩,λy c' e=>?_,I.free,I.freeC,λp hp=>?_,tracked ⟨oc,hoc,I.freeC x c hc⟩ hs,by simpa using I.len⟩ ⟨c,hs,.inr hc⟩
  ·exact(hs.2 b (zt (zv (zO e) (I.ok.cab x c hfn hc)))).trans (I.base.keep b o e n hb hx)
  ·obtain⟨sl,e1⟩:=I.base.slot b o e n hb hx
   exact⟨sl,(hs.2 b (zt (zv (zO e) (I.ok.cab x c hfn hc)))).trans e1⟩
  ·obtain⟨o',e1⟩:=I.base.there b o e hx
   exact⟨o',(hs.2 b (zt (zv (zO e) (I.ok.cab x c hfn hc)))).trans e1⟩
  ·by_cases hj:j=i
   ·subst hj
    rw[hi] at e1;cases e1;rw[yW hiσ] at e2;cases e2;exact⟨u,r,.inr ⟨.inl hk,c,hc,hc'⟩⟩
   ·rw[zI (Ne.symm hj)] at e2
    obtain⟨u',r',q⟩:=hl j y v' e1 e2 e3;refine⟨u',r',?_⟩;rcases q with q|⟨k,c',e,z'⟩
    ·exact .inl q
    ·refine .inr ⟨k,c',e,z'.sameBut hs ?_⟩
     rintro rfl;exact hj (q7W hN e1 (I.ok.inj _ _ _ e hc▸hi))
  ·by_cases hcc:c'=c
   ·subst hcc;exact⟨_,hc'⟩
   ·obtain⟨w2,z2⟩:=I.cell y c' e
    exact⟨w2,z2.sameBut hs hcc⟩
  ·obtain⟨e,n,ne,nf,d⟩:=I.pin p hp
   refine⟨(hs.2 p.1 ?_).trans e,n,ne,nf,d⟩;intro q;rw[q,hoc] at e;have q':oc=p.2:=zw e;exact d w' (by rw[<- q'];exact hocd)
theorem q70{M:Model}{A:Around}{E:Value->Shared->Prop}{i:Nat}{x:Str}{v:V}{u:Value}{Q:Unit->Shared->Prop}(I:Inv X pins σ H s)(hN:X.N.Nodup)(hi:X.N[i]?=some x)(hx:Loc X.env.scope x)(r:RelV v u)
  (h:∀ s',Inv X pins (σ.set i (some v)) H s'->Q () s') (hf:X.fn x=true\/X.env.scope.names.lookup x=some .local:=by first|exact .inl rfl|exact .inr rfl|assumption):wpAny M A (storeName X.env x u) Q E s :=
 q69 I hN hi hx r (λs' I' _=>h s' I') hf
theorem Inv.call'{s':Shared}{ch:List Addr}(I:Inv X pins σ H s)(ho:s'.os=s.os)(u:Un (frs X.stack) ch H H' s.heap s'.heap)(hok:HOk X.prog X.w H' s'.heap)(hg:AllBare s'.gens)
  (hch:∀ b∈ch,(b∈X.ex\/X.s₀.heap.objs.size <= b)/\b≠X.env.locals/\(∀ x c,X.env.cells.lookup x=some c->c≠b)/\∀ p∈X.pn++pins,p.1≠b):Inv X pins σ H' s':=by
 obtain⟨h',g',d',t',o'⟩:=s';have e:o'=s.os:=ho;subst e;exact I.call (g':=g') (t':=t') (d':=d') u hok hg hch
end
abbrev XK:=Value->Option Addr->Hp->Prop
noncomputable abbrev St:=List (Option V)
abbrev VK:=V->Hp->Prop
abbrev TE:=St->Hp->VK->Prop
abbrev TT:=St->Hp->(Bool->Hp->Prop)->Prop
abbrev TA:=St->Hp->(List V->Hp->Prop)->Prop
structure Ends where
 nx:St->Hp->Prop
 rt:VK
 bk:St->Hp->Prop:=λ_ _=>False
 ct:St->Hp->Prop:=λ_ _=>False
abbrev TS:=Ends->St->Hp->Prop
def EP(X:Cx)(pins:List (Addr×Obj))(σ:St)(Q:VK)(u:Value)(s':Shared):Prop:=∃ v H',Inv X pins σ H' s'/\RelV v u/\Q v H'
def TP(X:Cx)(pins:List (Addr×Obj))(σ:St)(Q:Bool->Hp->Prop)(b:Bool)(s':Shared):Prop:=∃ H',Inv X pins σ H' s'/\Q b H'
def AP(X:Cx)(pins:List (Addr×Obj))(σ:St)(Q:List V->Hp->Prop)(us:List Value)(s':Shared):Prop:=∃ vs H',Inv X pins σ H' s'/\Y2 vs us/\Q vs H'
def SP(X:Cx)(pins:List (Addr×Obj))(D:Ends)(f:Flow)(s':Shared):Prop :=
 match f with
 | .next=>∃ σ' H',Inv X pins σ' H' s'/\D.nx σ' H'
 | .brk=>∃ σ' H',Inv X pins σ' H' s'/\D.bk σ' H'
 | .cont=>∃ σ' H',Inv X pins σ' H' s'/\D.ct σ' H'
 | .ret u=>∃ v σ' H',Inv X pins σ' H' s'/\RelV v u/\D.rt v H'
def PE(X:Cx)(e:Expr)(t:TE):Prop :=
 ∀ (pins:List (Addr×Obj)) (s:Shared) (σ:St) (H:Hp) (Q:VK),Inv X pins σ H s->t σ H Q->wpAny (model X.prog X.w) X.A (eval e X.env) (EP X pins σ Q) X.xe s
def PT(X:Cx)(e:Expr)(t:TT):Prop :=
 ∀ (pins:List (Addr×Obj)) (s:Shared) (σ:St) (H:Hp) (Q:Bool->Hp->Prop),Inv X pins σ H s->t σ H Q->wpAny (model X.prog X.w) X.A (isTrue e X.env (eval e X.env)) (TP X pins σ Q) X.xe s
def PW(X:Cx)(e:Expr)(t:TT):Prop :=
 ∀ (whole:Sem Value) (pins:List (Addr×Obj)) (s:Shared) (σ:St) (H:Hp) (Q:Bool->Hp->Prop),Inv X pins σ H s->t σ H Q->wpAny (model X.prog X.w) X.A (isTrue e X.env whole) (TP X pins σ Q) X.xe s
theorem PW.pt{X:Cx}{e:Expr}{t:TT}(h:PW X e t):PT X e t:=h _
def PA(X:Cx)(es:List Expr)(t:TA):Prop :=
 ∀ (pos:Pos) (pins:List (Addr×Obj)) (s:Shared) (σ:St) (H:Hp) (Q:List V->Hp->Prop),Inv X pins σ H s->t σ H Q->wpAny (model X.prog X.w) X.A (spliced (backTo pos (starEach es X.env))) (AP X pins σ Q) X.xe s
def PS(X:Cx)(st:Stmt)(t:TS):Prop :=
 ∀ (pins:List (Addr×Obj)) (s:Shared) (σ:St) (H:Hp) (D:Ends),Inv X pins σ H s->t D σ H->wpAny (model X.prog X.w) X.A (exec st X.env) (SP X pins D) X.xe s
def PSs(X:Cx)(st:List Stmt)(t:TS):Prop :=
 ∀ (pins:List (Addr×Obj)) (s:Shared) (σ:St) (H:Hp) (D:Ends),Inv X pins σ H s->t D σ H->wpAny (model X.prog X.w) X.A (execs st X.env) (SP X pins D) X.xe s
theorem thn{α:Type}{t:Sem α}{Q Q':α->Shared->Prop}{M:Model}{A:Around}{E:Value->Shared->Prop}{s:Shared}(h:wpAny M A t Q E s)(hQ:∀ a s,Q a s->Q' a s):wpAny M A t Q' E s:=wpAny_mono h hQ λ_ _ x=>x
section
variable {X:Cx}
noncomputable def XF(i:Nat):TE:=λσ H Q=>∃ v,σ[i]?=some (some v)/\Q v H
noncomputable def tC(v:V):TE:=λ_ H Q=>Q v H
theorem qf5{i:Nat}{x:Str}{pos:Pos}(hN:X.N[i]?=some x)(hv:Vis X.env.scope x)(hd:(x == ("__debug__" : Str))=false:=by decide)(hcd:(x == ("__classdict__" : Str))=false:=by decide):PE X (.Name x pos) (XF i):=by
 intro pins s σ H Q I h;obtain⟨v,e,h⟩:=h;obtain⟨m,hn,hl⟩:=I.loc;obtain⟨u,r,l⟩:=hl i x v hN e hv;have fin:EP X pins σ Q u s:=⟨v,H,I,r,h⟩;rcases l with⟨hk,hm⟩|⟨hk,c,hc,hcell⟩
 ·exact wpAny_Name (wpAny_loadName_local I.ok.kind hk hn hm fin) hd
 ·rcases hk with hk|hk
  ·exact wpAny_Name (wpAny_loadName_cell I.ok.kind hk hc hcell fin) hd
  ·exact wpAny_Name (wpAny_loadName_free I.ok.kind hk hc hcell fin hcd) hd
theorem qfa{i j pos}:PE X (.Constant (.int i) j pos) (tC (.int i)):=λ_ _ _ H _ I h=>wpAny_Constant_int ⟨.int i,H,I.tok _,⟨_,rfl⟩,h⟩
theorem qgb{b j pos}:PE X (.Constant (.bool b) j pos) (tC (.bl b)):=λ_ _ _ H _ I h=>Constant_bool ⟨.bl b,H,I,rfl,h⟩
theorem qf2{x j pos}:PE X (.Constant (.str x) j pos) (tC (.str x)):=λ_ _ _ H _ I h=>Calls.Constant_str ⟨.str x,H,I.tok _,⟨_,rfl⟩,h⟩
def Gl(X:Cx)(x:Str):Prop:=X.env.kindOf x=some .globalImplicit
theorem q9i{E:Value->Shared->Prop}{pins:List (Addr×Obj)}{s:Shared}{σ:St}{H:Hp}{x:Str}{u:Value}{pos:Pos}{Q:Value->Shared->Prop}(I:Inv X pins σ H s)(hg:Gl X x)(hm:X.mg x=some u)(h:Q u s)
  (hd:(x == ("__debug__" : Str))=false:=by decide):wpAny (model X.prog X.w) X.A (eval (.Name x pos) X.env) Q E s :=
 Calls.Name_function_global I.ok.kind hg (Calls.loadGlobal_global (by rw[I.ok.glob];exact I.mod.glob.keeps I.bk) hm h) hd
theorem q0l{E:Value->Shared->Prop}{pins:List (Addr×Obj)}{s:Shared}{σ:St}{H:Hp}{x:Str}{u:Value}{pos:Pos}{Q:Value->Shared->Prop}(I:Inv X pins σ H s)(hg:Gl X x)(hm:X.mg x=none)(hv:bootBuiltins x=some u)(h:Q u s)
  (hn:x ≠ "__name__" := by decide) (hd:(x == ("__debug__" : Str))=false:=by decide):wpAny (model X.prog X.w) X.A (eval (.Name x pos) X.env) Q E s:=by
 obtain⟨mb,h1,h2⟩:=I.mod.blt;exact Calls.Name_function_global I.ok.kind hg (Calls.loadGlobal_builtin (by rw[I.ok.glob];exact I.mod.glob.keeps I.bk) hm (by rw[I.ok.blt];exact h1.keeps I.bk) ((h2 x hn).trans hv) h) hd
theorem qeC{x:Str}{v:V}{u:Value}{pos:Pos}(hg:Gl X x)(hm:X.mg x=some u)(r:RelV v u)(hd:(x == ("__debug__" : Str))=false:=by decide):PE X (.Name x pos) (tC v) :=
 λ_ _ _ H _ I h=>q9i I hg hm ⟨v,H,I,r,h⟩ hd
theorem qeg{x:Str}{v:V}{u:Value}{pos:Pos}(hg:Gl X x)(hm:X.mg x=none)(hv:bootBuiltins x=some u)(r:RelV v u)(hn:x ≠ "__name__" := by decide)(hd:(x == ("__debug__" : Str))=false:=by decide):PE X (.Name x pos) (tC v) :=
 λ_ _ _ H _ I h=>q0l I hg hm hv ⟨v,H,I,r,h⟩ hn hd
variable {a b:Expr} {ta tb:TE} {pos:Pos}
def PC(X:Cx)(op:CmpOp)(a b:Expr)(t:TE):Prop :=
 ∀ (pins:List (Addr×Obj)) (s:Shared) (σ:St) (H:Hp) (Q:VK),Inv X pins σ H s->t σ H Q ->
  wpAny (model X.prog X.w) X.A (eval a X.env) (λv s₁=>wpAny (model X.prog X.w) X.A (eval b X.env) (λu s₂=>wpAny (model X.prog X.w) X.A (compareOp op v u) (EP X pins σ Q) X.xe s₂) X.xe s₁) X.xe s
theorem zBY(b:Expr){op:CmpOp}(h:op≠.In)(h2:op≠.NotIn):behindInMarks op b=false:=by
 have e1:(op == CmpOp.In)=false:=by cases op <;> first|rfl|exact absurd rfl h
 have e2:(op == CmpOp.NotIn)=false:=by cases op <;> first|rfl|exact absurd rfl h2
 cases b <;> simp[behindInMarks,e1,e2]
noncomputable def tB(t:TE):TT:=λσ H Q=>t σ H λx H1=>∃ c,x=.bl c/\Q c H1
theorem qff{op:CmpOp}{t:TE}(h:PC X op a b t)(h1:behindInMarks op b=false:=by first|exact zBY _ (by decide) (by decide)|rfl):PT X (.Compare a [op] [b] pos) (tB t):=by
 intro pins s σ H Q I hw;refine wpAny_isTrue_Compare1 (thn (h pins s σ H _ I hw) λv s1 h1=>thn h1 λu s2 h2=>thn h2 λc s3 ⟨x,H1,I1,r1,q1⟩=>?_) h1;obtain⟨d,rfl,q⟩:=q1;cases r1;exact wpAny_truthy_bool ⟨H1,I1,q⟩
variable {tA tB':TT} {rest:List Expr}
noncomputable def tAnd(t u:TT):TT:=λσ H Q=>t σ H λc H1=>if c=true then u σ H1 Q else Q false H1
noncomputable def tOr(t u:TT):TT:=λσ H Q=>t σ H λc H1=>if c=true then Q true H1 else u σ H1 Q
noncomputable def tNot(t:TT):TT:=λσ H Q=>t σ H λc H1=>Q (!c) H1
theorem qdE(ha:PT X a tA):PW X (.BoolOp .And [a] pos) tA:=by
 intro wh pins s σ H Q I h;refine isTrue_and (thn (ha pins s σ H Q I h) λc s1 e=>?_);cases c with
 | true=>exact isTrue_and_nil e
 | false=>exact e
theorem qaG(ha:PT X a tA):PW X (.BoolOp .Or [a] pos) tA:=by
 intro wh pins s σ H Q I h;refine isTrue_or (thn (ha pins s σ H Q I h) λc s1 e=>?_);cases c with
 | false=>exact isTrue_or_nil e
 | true=>exact e
theorem qeM(ha:PT X a tA)(hb:PW X (.BoolOp .And (b::rest) pos) tB'):PW X (.BoolOp .And (a::b::rest) pos) (tAnd tA tB'):=by
 intro wh pins s σ H Q I h;refine isTrue_and (thn (ha pins s σ H _ I h) λc s1 ⟨H1,I1,q1⟩=>?_);cases c with
 | true=>exact hb wh pins s1 σ H1 Q I1 q1
 | false=>exact⟨H1,I1,q1⟩
theorem qdi(ha:PT X a tA)(hb:PW X (.BoolOp .Or (b::rest) pos) tB'):PW X (.BoolOp .Or (a::b::rest) pos) (tOr tA tB'):=by
 intro wh pins s σ H Q I h;refine isTrue_or (thn (ha pins s σ H _ I h) λc s1 ⟨H1,I1,q1⟩=>?_);cases c with
 | true=>exact⟨H1,I1,q1⟩
 | false=>exact hb wh pins s1 σ H1 Q I1 q1
theorem qfI(ha:PT X a tA):PT X (.UnaryOp .Not a pos) (tNot tA):=by
 intro pins s σ H Q I h;exact isTrue_not (ha pins s σ H (λc H1=>Q (!c) H1) I h)
noncomputable def tAndV(ta tb:TE):TE:=λσ H Q=>ta σ H λx H1=>∃ c,x=.bl c/\if c=true then tb σ H1 Q else Q (.bl false) H1
noncomputable def tNotV(ta:TE):TE:=λσ H Q=>ta σ H λx H1=>∃ c,x=.bl c/\Q (.bl (!c)) H1
theorem qfM{op}{t:TE}(h:PE X a t):PE X (.BoolOp op [a] pos) t:=λpins s σ H Q I hw=>BoolOp_one (h pins s σ H Q I hw)
theorem qeR(ha:PE X a ta)(hb:PE X (.BoolOp .And (b::rest) pos) tb):PE X (.BoolOp .And (a::b::rest) pos) (tAndV ta tb):=by
 intro pins s σ H Q I h;refine BoolOp_and (thn (ha pins s σ H _ I h) λv s1 ⟨x,H1,I1,r1,q1⟩=>?_);obtain⟨c,rfl,q1⟩:=q1;cases r1;refine wpAny_truthy_bool ?_;cases c with
 | true=>exact hb pins s1 σ H1 Q I1 q1
 | false=>exact⟨.bl false,H1,I1,rfl,q1⟩
theorem qeP(ha:PE X a ta):PE X (.UnaryOp .Not a pos) (tNotV ta):=by
 intro pins s σ H Q I h;refine UnaryOp_ (thn (ha pins s σ H _ I h) λv s1 ⟨x,H1,I1,r1,q1⟩=>?_);obtain⟨c,rfl,q1⟩:=q1;cases r1;exact not_of (wpAny_truthy_bool ⟨.bl (!c),H1,I1,rfl,q1⟩)
noncomputable def tIf(t:TT)(ta tb:TE):TE:=λσ H Q=>t σ H λc H1=>if c=true then ta σ H1 Q else tb σ H1 Q
theorem qcg{c:Expr}(hc:PT X c tA)(ha:PE X a ta)(hb:PE X b tb):PE X (.IfExp c a b pos) (tIf tA ta tb):=by
 intro pins s σ H Q I h;refine wpAny_IfExp (thn (hc pins s σ H _ I h) λd s1 ⟨H1,I1,q1⟩=>?_);cases d with
 | true=>exact ha pins s1 σ H1 Q I1 q1
 | false=>exact hb pins s1 σ H1 Q I1 q1
end
def SqL(K:zA)(H:Hp)(a:Addr)(xs:List V):Prop :=
 Rd H a (.lst xs) \/
  ∃ (o:Obj) (its:Array Value) (n:Nat),K.lookup a=some o/\o.cls=.type "list" /\ o.dict=none/\o.data=.seq its n/\its.size <= sizeLine/\Y2 xs its.toList
def SqT(K:zA)(H:Hp)(a:Addr)(xs:List V):Prop :=
 Rd H a (.tup xs) \/
  ∃ (o:Obj) (its:Array Value) (n:Nat),K.lookup a=some o/\o.cls=.type "tuple" /\ o.data=.seq its n/\its.size <= sizeLine/\Y2 xs its.toList
noncomputable def absV:Value->Option V
 | .none=>some .non
 | .bool b=>some (.bl b)
 | .int i _=>some (.int i)
 | .str x _=>some (.str x)
 | .bytes b _=>some (.byt b)
 | .float b _=>some (.flt b)
 | .ref a=>some (.ref a)
 | .type n=>some (.ty n)
 | _=>none
theorem RelV.abs{x:V}{u:Value}(r:RelV x u):absV u=some x:=by
 cases x with
 | non=>cases r;rfl
 | bl _=>cases r;rfl
 | int _=>obtain⟨t,rfl⟩:=r;rfl
 | str _=>obtain⟨t,rfl⟩:=r;rfl
 | byt _=>obtain⟨t,rfl⟩:=r;rfl
 | flt _=>obtain⟨t,rfl⟩:=r;rfl
 | ref _=>cases r;rfl
 | ty _=>cases r;rfl
theorem RelV.inj{x y:V}{u:Value}(r:RelV x u)(q:RelV y u):x=y:=zw (r.abs.symm.trans q.abs)
theorem Y2.inj:∀ {xs ys:List V} {us:List Value},Y2 xs us->Y2 ys us->xs=ys
 | _,_,_,.nil,.nil=>rfl
 | _,_,_,.cons r t,.cons r' t'=>by rw[r.inj r',Y2.inj t t']
section
variable {X:Cx} {pins:List (Addr×Obj)} {σ:St} {H:Hp} {s:Shared} {a:Addr} {xs ys:List V}
theorem SqL.of{K:zA}(h:H a=some (.lst xs)):SqL K H a xs:=.inl (.inl h)
theorem SqT.of{K:zA}(h:H a=some (.tup xs)):SqT K H a xs:=.inl (.inl h)
theorem Inv.list(I:Inv X pins σ H s)(h:SqL X.K H a xs):∃ its:List Value,Y2 xs its/\PlainL s.heap a its.toArray/\xs.length <= sizeLine:=by
 rcases h with h|⟨o,its,n,hk,hc,hd,hs,hz,r⟩
 ·obtain⟨z,its,n,r,e⟩:=h.ok I.hok
  exact⟨its,r,⟨_,n,e,rfl,rfl,rfl⟩,z⟩
 ·refine⟨its.toList,r,⟨o,n,I.kIn a o hk,hc,hd,by simpa using hs⟩,?_⟩
  have e:=r.length;simp only[zM] at e;omega
theorem Inv.tuple(I:Inv X pins σ H s)(h:SqT X.K H a xs):∃ its:List Value,Y2 xs its/\IsTup s.heap a its.toArray/\xs.length <= sizeLine:=by
 rcases h with h|⟨o,its,n,hk,hc,hs,hz,r⟩
 ·obtain⟨z,its,r,p⟩:=h.ok I.hok
  exact⟨its,r,p,z⟩
 ·refine⟨its.toList,r,⟨o,I.kIn a o hk,hc,n,by simpa using hs⟩,?_⟩
  have e:=r.length;simp only[zM] at e;omega
theorem Inv.list_inj(I:Inv X pins σ H s)(h:SqL X.K H a xs)(h':SqL X.K H a ys):xs=ys:=by
 obtain⟨its,r,⟨o,n,e,_,_,d⟩,_⟩:=I.list h;obtain⟨its',r',⟨o',n',e',_,_,d'⟩,_⟩:=I.list h';rw[e] at e';cases e';rw[d] at d';injection d' with d1 _;have:its=its':=by simpa using congrArg Yb d1
 subst this;exact r.inj r'
theorem Inv.tuple_inj(I:Inv X pins σ H s)(h:SqT X.K H a xs)(h':SqT X.K H a ys):xs=ys:=by
 obtain⟨its,r,⟨o,e,_,n,d⟩,_⟩:=I.tuple h;obtain⟨its',r',⟨o',e',_,n',d'⟩,_⟩:=I.tuple h';rw[e] at e';cases e';rw[d] at d';injection d' with d1 _;have:its=its':=by simpa using congrArg Yb d1
 subst this;exact r.inj r'
end
noncomputable abbrev Cx.wish(X:Cx)(E:Value->Shared->Prop):Cx:={ X with xe:=E }
noncomputable abbrev Cx.nox(X:Cx):Cx:=X.wish λ_ _=>False
theorem Cx.Ok.wish{X:Cx}(ok:X.Ok)(E:Value->Shared->Prop):(X.wish E).Ok :=
 ⟨ok.mod,ok.kind,ok.glob,ok.blt,ok.above,ok.inj,ok.has,ok.cab,ok.hd,ok.frames,ok.stk,ok.exf,ok.bs,ok.bsz,ok.noex,ok.exfs,ok.funs,ok.frf⟩
theorem Cx.Ok.unwish{X:Cx}{E:Value->Shared->Prop}(ok:(X.wish E).Ok):X.Ok :=
 ⟨ok.mod,ok.kind,ok.glob,ok.blt,ok.above,ok.inj,ok.has,ok.cab,ok.hd,ok.frames,ok.stk,ok.exf,ok.bs,ok.bsz,ok.noex,ok.exfs,ok.funs,ok.frf⟩
section
variable {X:Cx} {pins:List (Addr×Obj)} {σ:St} {H:Hp} {s:Shared} {E:Value->Shared->Prop}
theorem Inv.wish(I:Inv X pins σ H s)(E:Value->Shared->Prop):Inv (X.wish E) pins σ H s:=⟨I.ok.wish E,I.os,I.bare,I.base,I.loc,I.cell,I.free,I.freeC,I.pin,I.hok,I.len⟩
theorem Inv.unwish(I:Inv (X.wish E) pins σ H s):Inv X pins σ H s:=⟨I.ok.unwish,I.os,I.bare,I.base,I.loc,I.cell,I.free,I.freeC,I.pin,I.hok,I.len⟩
theorem SP.unwish{D:Ends}{f:Flow}{s':Shared}(h:SP (X.wish E) pins D f s'):SP X pins D f s':=by
 cases f with
 | next=>obtain⟨σ',H',I,q⟩:=h;exact⟨σ',H',I.unwish,q⟩
 | brk=>obtain⟨σ',H',I,q⟩:=h;exact⟨σ',H',I.unwish,q⟩
 | cont=>obtain⟨σ',H',I,q⟩:=h;exact⟨σ',H',I.unwish,q⟩
 | ret u=>obtain⟨v,σ',H',I,r,q⟩:=h;exact⟨v,σ',H',I.unwish,r,q⟩
theorem PSs.nox{st:List Stmt}{t:TS}(h:PSs X.nox st t):PSs X st t:=λpins s σ H D I hw =>
 wpAny_mono (h pins s σ H D (I.wish _) hw) (λ_ _ q=>q.unwish) λ_ _ z=>False.elim z
end
section
variable {X:Cx} {st:Stmt} {rest:List Stmt} {t u:TS} {e:Expr} {te:TE} {pos:Pos}
noncomputable def tNext:TS:=λD σ H=>D.nx σ H
noncomputable def zAn(t u:TS):TS:=λD σ H=>t { D with nx:=u D } σ H
theorem qdZ:PSs X [] tNext:=λ_ _ σ H _ I h=>wpAny_execs_nil ⟨σ,H,I,h⟩
theorem qu(h1:PS X st t)(h2:PSs X rest u):PSs X (st::rest) (zAn t u):=by
 intro pins s σ H D I h;refine wpAny_execs_cons (thn (h1 pins s σ H { D with nx:=u D } I h) λf s1 q=>?_);cases f with
 | next =>
  obtain⟨σ',H',I',q⟩:=q;exact h2 pins s1 σ' H' D I' q
 | ret v=>exact q
 | brk=>exact q
 | cont=>exact q
theorem q0f(h1:PS X st t):PSs X [st] t:=by
 intro pins s σ H D I h;refine wpAny_execs_cons (thn (h1 pins s σ H D I h) λf s1 q=>?_);cases f with
 | next=>exact wpAny_execs_nil q
 | ret v=>exact q
 | brk=>exact q
 | cont=>exact q
theorem Inv.quiet{pins:List (Addr×Obj)}{σ:St}{H:Hp}{s:Shared}(I:Inv X pins σ H s):interactive X.env=false:=by simp[interactive,I.ok.kind]
noncomputable def zA9(te:TE):TS:=λD σ H=>te σ H λ_ H1=>D.nx σ H1
theorem q0B(he:PE X e te)(hs:swapsWith e none pos.line X.env=pure false:=by rfl):PS X (.Expr e pos) (zA9 te):=by
 intro pins s σ H D I h;exact wpAny_Expr_any (thn (he pins s σ H _ I h) λv s1 ⟨x,H1,I1,r1,q1⟩=>⟨σ,H1,I1,q1⟩) I.quiet hs
noncomputable def tRet(te:TE):TS:=λD σ H=>te σ H D.rt
theorem q3h(he:PE X e te):PS X (.Return (some e) pos) (tRet te):=by
 intro pins s σ H D I h;exact wpAny_Return_some (thn (he pins s σ H _ I h) λv s1 ⟨x,H1,I1,r1,q1⟩=>⟨x,σ,H1,I1,r1,q1⟩)
noncomputable def tIfS(c:TT)(t u:TS):TS:=λD σ H=>c σ H λb H1=>if b=true then t D σ H1 else u D σ H1
theorem qdj{c:Expr}{a b:List Stmt}{tc:TT}(hc:PT X c tc)(ha:PSs X a t)(hb:PSs X b u):PS X (.If c a b pos) (tIfS tc t u):=by
 intro pins s σ H D I h;refine wpAny_If (thn (hc pins s σ H _ I h) λd s1 ⟨H1,I1,q1⟩=>?_);cases d with
 | true=>exact ha pins s1 σ H1 D I1 q1
 | false=>exact hb pins s1 σ H1 D I1 q1
noncomputable def tNever:TS:=λ_ _ _=>False
theorem qcW:PS X st tNever:=λ_ _ _ _ _ _ h=>h.elim
end
abbrev TG:=V->St->Hp->(St->Hp->Prop)->Prop
abbrev TGs:=List V->St->Hp->(St->Hp->Prop)->Prop
def PG(X:Cx)(target:Expr)(t:TG):Prop :=
 ∀ (pins:List (Addr×Obj)) (s:Shared) (σ:St) (H:Hp) (v:V) (u:Value) (Q:St->Hp->Prop),Inv X pins σ H s->RelV v u->t v σ H Q ->
  wpAny (model X.prog X.w) X.A (assign target X.env u) (λ_ s'=>∃ σ' H',Inv X pins σ' H' s'/\Q σ' H') X.xe s
def PGs(X:Cx)(ts:List Expr)(t:TGs):Prop :=
 ∀ (pins:List (Addr×Obj)) (s:Shared) (σ:St) (H:Hp) (vs:List V) (us:List Value) (Q:St->Hp->Prop),Inv X pins σ H s->Y2 vs us->t vs σ H Q ->
  wpAny (model X.prog X.w) X.A (assignInOrder ((assignEach ts X.env).map (·.2)) us) (λ_ s'=>∃ σ' H',Inv X pins σ' H' s'/\Q σ' H') X.xe s
section
variable {X:Cx} {pos:Pos}
noncomputable def Xr(i:Nat):TG:=λv σ H Q=>Q (σ.set i (some v)) H
theorem q2f{i:Nat}{x:Str}(hN:X.N.Nodup)(hi:X.N[i]?=some x)(hx:Loc X.env.scope x)(hf:X.fn x=true\/X.env.scope.names.lookup x=some .local:=by first|exact .inl rfl|exact .inr rfl|assumption):PG X (.Name x pos) (Xr i):=by
 intro pins s σ H v u Q I r h;exact wpAny_assign_Name (q70 I hN hi hx r (λs' I'=>⟨_,H,I',h⟩) hf)
noncomputable def gNil:TGs:=λvs σ H Q=>vs=[]/\Q σ H
noncomputable def gCons(t:TG)(u:TGs):TGs:=λvs σ H Q=>∃ v r,vs=v::r/\t v σ H λσ' H'=>u r σ' H' Q
theorem q8D:PGs X [] gNil:=by
 intro pins s σ H vs us Q I r h;obtain⟨e,h⟩:=h;subst e;cases r;exact assignInOrder_nil ⟨σ,H,I,h⟩
theorem q3X{e:Expr}{es:List Expr}{t:TG}{u:TGs}(h1:PG X e t)(h2:PGs X es u)
  (hs:(assignEach (e::es) X.env).map (·.2)=assign e X.env::(assignEach es X.env).map (·.2):=by rfl):PGs X (e::es) (gCons t u):=by
 intro pins s σ H vs us Q I r h;obtain⟨v,vr,e1,h⟩:=h;subst e1;cases r with
 | cons r rr =>
  rw[hs];refine assignInOrder_cons (thn (h1 pins s σ H _ _ _ I r h) λ_ s1 ⟨σ1,H1,I1,q1⟩=>?_);exact h2 pins s1 σ1 H1 _ _ Q I1 rr q1
noncomputable def gTup(K:zA)(n:Nat)(t:TGs):TG:=λv σ H Q=>∃ a xs,v=.ref a/\SqT K H a xs/\xs.length=n/\t xs σ H Q
theorem qbH{es:List Expr}{k:Nat}{t:TGs}{n:Nat}(hc:X.calm=true)(h:PGs X es t)
  (hn:(assignEach es X.env).length=n:=by rfl) (hst:(assignEach es X.env).findIdx? (·.1)=none:=by rfl):PG X (.Tuple es k pos) (gTup X.K n t):=by
 intro pins s σ H v u Q I r hw;obtain⟨a,xs,e1,hq,hl,hw⟩:=hw;subst e1;cases r;obtain⟨its,rv,ht,hz⟩:=I.tuple hq;refine assign_Tuple_tuple (I.ok.hd hc) ht (by simp[hn,<- hl,rv.length]) hst λh' hx=>?_;have I1:Inv X pins σ H { s with heap:=h' }:=I.kept (t':=s.toks) λb o e=>hx b o (zt (zO e)) e;exact h pins _ σ H xs _ Q I1 (by simpa using rv) hw
noncomputable def zAV(te:TE)(g:TG):TS:=λD σ H=>te σ H λx H1=>g x σ H1 D.nx
theorem qfp{tg e:Expr}{te:TE}{g:TG}(he:PE X e te)(hg:PG X tg g)(hs:swapsWithSole [tg] e pos.line X.env=pure false:=by rfl)(hw:swappedStores [tg] e X.env=pure none:=by rfl)
  (h1:(assignEach [tg] X.env).map (·.2)=[assign tg X.env]:=by rfl):PS X (.Assign [tg] e pos) (zAV te g):=by
 intro pins s σ H D I h;refine wpAny_Assign_stores (thn (he pins s σ H _ I h) λv s1 ⟨x,H1,I1,r1,q1⟩=>?_) hs hw;rw[h1];exact thn (hg pins s1 σ H1 x v _ I1 r1 q1) λ_ s2 q=>q
theorem qT{i:Nat}{x:Str}{e:Expr}{te:TE}{pos':Pos}(hN:X.N.Nodup)(hi:X.N[i]?=some x)(hx:Loc X.env.scope x)(he:PE X e te)(hs:swapsWith e (some (.Name x pos')) pos.line X.env=pure false:=by rfl)(hf:X.fn x=true\/X.env.scope.names.lookup x=some .local:=by first|exact .inl rfl|exact .inr rfl|assumption) :
  PS X (.Assign [.Name x pos'] e pos) (zAV te (Xr i)):=by
 intro pins s σ H D I h;refine wpAny_Assign_Name (thn (he pins s σ H _ I h) λv s1 ⟨y,H1,I1,r1,q1⟩=>?_) hs;exact q70 I1 hN hi hx r1 (λs2 I2=>⟨_,H1,I2,q1⟩) hf
end
section
variable {X:Cx} {pos:Pos}
noncomputable def zBI(c:TT)(tb:TS):TS:=λD σ H=>∃ W:Nat->St->Hp->Prop,(∃ m,W m σ H)/\∀ m σ H,W m σ H ->
 c σ H λb H1=>if b=true then ∃ N:St->Hp->Prop,(∀ σ' H',N σ' H'->∃ m',m' < m/\W m' σ' H')/\tb { D with nx:=N,ct:=N,bk:=D.nx } σ H1 else D.nx σ H1
theorem q7E{c:Expr}{body:List Stmt}{tc:TT}{tb:TS}(hp:PassesOwn (model X.prog X.w) X.A X.env X.xe)(hc:PT X c tc)(hb:PSs X body tb):PS X (.While c body [] pos) (zBI tc tb):=by
 intro pins s σ H D I h;obtain⟨W,⟨m0,w0⟩,turn⟩:=h;refine wpAny_While (codeAny_whileLoop (λn s'=>∃ σ' H',Inv X pins σ' H' s'/\W n σ' H') ?_ m0 ⟨σ,H,I,w0⟩);rintro n s1 ⟨σ1,H1,I1,w1⟩;refine wpAny_passesOwn hp (thn (hc pins s1 σ1 H1 _ I1 (turn n σ1 H1 w1)) λb s2 ⟨H2,I2,q2⟩=>?_);cases b with
 | true =>
  obtain⟨N,hN,q2⟩:=q2;rw[if_pos rfl];refine wpAny_passesOwn hp (thn (hb pins s2 σ1 H2 _ I2 q2) λf s3 q3=>?_);cases f with
  | next =>
   obtain⟨σ3,H3,I3,n3⟩:=q3;obtain⟨m',hm,w3⟩:=hN σ3 H3 n3;exact⟨m',hm,σ3,H3,I3,w3⟩
  | cont =>
   obtain⟨σ3,H3,I3,n3⟩:=q3;obtain⟨m',hm,w3⟩:=hN σ3 H3 n3;exact⟨m',hm,σ3,H3,I3,w3⟩
  | brk=>exact q3
  | ret v=>exact q3
 | false =>
  rw[if_neg yo];exact wpAny_execs_nil ⟨σ1,H2,I2,q2⟩
end
structure It where
 go:Nat->Hp->Prop
 yld:Nat->Hp->V->Hp->Prop
 stop:Nat->Hp->Prop
def X7(X:Cx)(pins:List (Addr×Obj))(H:Hp)(b:Addr):Prop :=
 H b=none/\b≠X.env.locals/\b∉X.fs/\(b∈X.ex\/X.s₀.heap.objs.size <= b)/\(∀ x c,X.env.cells.lookup x=some c->c≠b)/\∀ p∈X.pn++pins,p.1≠b
theorem Inv.fpOk{X:Cx}{pins:List (Addr×Obj)}{σ:St}{H H':Hp}{s:Shared}{b:Addr}(I:Inv X pins σ H s)(hb:s.heap.objs.size <= b)(hn:H' b=none):X7 X pins H' b:=by
 refine⟨hn,xp (zv I.lt hb),I.nofs hb,.inr (yG I.sz hb),λx c e z=>?_,λp hp z=>?_⟩
 ·obtain⟨v,q⟩:=I.cell x c e
  exact absurd (zv q.lt (by rw[z];exact hb)) (xg _)
 ·exact absurd (zv (zO (I.pin p hp).1) (by rw[z];exact hb)) (xg _)
structure Turn (P:Program) (w:World) (K:zA) (tg:Expr) (J:It) (fp:List Addr) (it:Addr) (tn:Nat->Heap->Prop):Prop where
 mem:it∈fp
 obj:∀ i h,tn i h->∀ b∈fp,∃ o,h.get? b=some o/\∀ v,o.data≠.cell v
 keep:∀ i h h',tn i h->(∀ b∈fp,∀ o,h.get? b=some o->h'.get? b=some o)->tn i h'
 item:∀ (X:Cx),X.prog=P->X.w=w->X.K=K->X.calm=true->∀ (i:Nat) (pins:List (Addr×Obj)) (s:Shared) (σ:St) (H:Hp) (E:Value->Shared->Prop),Inv X pins σ H s->(∀ b∈fp,X7 X pins H b)->tn i s.heap->J.go i H ->
  wpAny (model P w) X.A (pyNext (.ref it)) (λr s1=>∃ u,r=some u /\
   wpAny (model P w) X.A (letOwnedTupleGo tg (.ref it) u) (λ_ s2=>∃ x H',Inv X pins σ H' s2/\RelV x u/\J.yld i H x H'/\tn (i+1) s2.heap/\∀ b∈fp,H' b=none) E s1) E s
 done:∀ (X:Cx),X.prog=P->X.w=w->X.K=K->X.calm=true->∀ (i:Nat) (pins:List (Addr×Obj)) (s:Shared) (σ:St) (H:Hp) (E:Value->Shared->Prop),Inv X pins σ H s->(∀ b∈fp,X7 X pins H b)->tn i s.heap->J.stop i H ->
  wpAny (model P w) X.A (pyNext (.ref it)) (λr s1=>r=none/\Inv X pins σ H s1) E s
 self:∀ (A:Around) (i:Nat) (s:Shared) (Q:Value->Shared->Prop) (E:Value->Shared->Prop),tn i s.heap->Q (.ref it) s->wpAny (model P w) A (pyIter (.ref it)) Q E s
abbrev TI:=St->Hp->(It->Hp->Prop)->Prop
def PIE(X:Cx)(pins:List (Addr×Obj))(σ:St)(tg:Expr)(R:It->Hp->Prop)(itv:Value)(s2:Shared):Prop :=
 ∃ (it:Addr) (fp:List Addr) (tn:Nat->Heap->Prop) (J:It) (H':Hp),itv=.ref it/\Inv X pins σ H' s2/\Turn X.prog X.w X.K tg J fp it tn/\tn 0 s2.heap/\(∀ b∈fp,X7 X pins H' b)/\R J H'
def PI(X:Cx)(tg iter:Expr)(wi:TI):Prop :=
 ∀ (pins:List (Addr×Obj)) (s:Shared) (σ:St) (H:Hp) (R:It->Hp->Prop),Inv X pins σ H s->wi σ H R ->
  wpAny (model X.prog X.w) X.A (eval iter X.env) (λv s1=>wpAny (model X.prog X.w) X.A (pyIter v) (PIE X pins σ tg R) X.xe s1) X.xe s
theorem q6t{M:Model}{A:Around}{E:Value->Shared->Prop}{s:Shared}{tg:Expr}{it:Addr}{u:Value}{o:Obj}{n:String}{vs:Array Value}{Q:Unit->Shared->Prop}(ho:s.heap.get? it=some o)(hc:o.cls=.type n)(hd:o.data=.fields vs)
  (hn:["enumerate", "zip", "dict_itemiterator", "dict_reverseitemiterator", "odict_iterator", "itertools.zip_longest", "itertools.pairwise"].contains n=false) (hQ:Q () s):wpAny M A (letOwnedTupleGo tg (.ref it) u) Q E s:=by
 unfold letOwnedTupleGo;cases tg <;> first
  | exact wpAny_pure hQ
  | (cases u <;> first
    | exact wpAny_pure hQ
    | (refine wpAny_bind (wpAny_load ho ?_)
       rw[hc,hd];show wpAny M A (if (["enumerate", "zip", "dict_itemiterator", "dict_reverseitemiterator", "odict_iterator", "itertools.zip_longest", "itertools.pairwise"].contains n && vs[0]? == some (rawInt _))=true then _ else _) Q E s;rw[if_neg (by intro h;rw[hn,xj] at h;cases h)];exact wpAny_pure hQ))
noncomputable def Itl(K:zA)(a:Addr):It :=
 ⟨λi H=>∃ xs x,SqL K H a xs/\xs[i]?=some x,λi H x H'=>H'=H/\∀ xs,SqL K H a xs->xs[i]?=some x,λi H=>∃ xs,SqL K H a xs/\xs.length <= i⟩
noncomputable def Itt(K:zA)(a:Addr):It :=
 ⟨λi H=>∃ xs x,SqT K H a xs/\xs[i]?=some x,λi H x H'=>H'=H/\∀ xs,SqT K H a xs->xs[i]?=some x,λi H=>∃ xs,SqT K H a xs/\xs.length <= i⟩
noncomputable def Itr(lo:Int)(n:Nat):It:=⟨λi _=>i < n,λi H x H'=>H'=H/\x=.int (lo+i),λi _=>n <= i⟩
theorem qbG{P:Program}{w:World}{K:zA}{tg:Expr}(a it:Addr):Turn P w K tg (Itl K a) [it] it (λi h=>h.IsListIter it a i) where
 mem:=by simp
 obj:=λi h st b hb=>by
  have e:b=it:=by simpa using hb
  subst e;obtain⟨o,e,c,d⟩:=st;exact⟨o,e,λv z=>by rw[d] at z;cases z⟩
 keep:=λi h h' st k=>st.at λo e=>k it (by simp) o e
 item:=by
  intro X hP hw hK hc i pins s σ H E I hf st hg;subst hP hw hK;obtain⟨xs,x,hq,hx⟩:=hg;obtain⟨its,rv,p,hz⟩:=I.list hq;obtain⟨u,hu,ru⟩:=rv.get hx;obtain⟨f0,f1,f2,f3,f4,f5⟩:=hf it (by simp);refine wpAny_pyNext_list_item st p.isList (x:=u) (by simpa using hu) λh' st' sb=>?_;have I1:Inv X pins σ H { s with heap:=h' }:=I.turned (t':=s.toks) (λb o hb e=>(sb.2 b hb).trans e) f0 f1 f3 f4 f5;obtain⟨o,e,c,d⟩:=id st';exact⟨u,rfl,q6t (s:={ s with heap:=h' }) e c d (by decide) ⟨x,H,I1,ru,⟨rfl,λys hy=>by rw[I.list_inj hy hq];exact hx⟩,st',λb hb=>(hf b hb).1⟩⟩
 done:=by
  intro X hP hw hK hc i pins s σ H E I hf st hg;subst hP hw hK;obtain⟨xs,hq,hx⟩:=hg;obtain⟨its,rv,p,hz⟩:=I.list hq;obtain⟨f0,f1,f2,f3,f4,f5⟩:=hf it (by simp);have hl:=rv.length;exact wpAny_pyNext_list_end (I.ok.hd hc) st p.isList (by simp;omega) λh' eb=>⟨rfl,I.turned (t':=s.toks) (λb o hb e=>eb b o hb e) f0 f1 f3 f4 f5⟩
 self:=λ_ _ _ _ _ st h=>wpAny_pyIter_listiter st h
theorem qa3{P:Program}{w:World}{K:zA}{tg:Expr}(a it:Addr):Turn P w K tg (Itt K a) [it] it (λi h=>h.IsTupleIter it a i) where
 mem:=by simp
 obj:=λi h st b hb=>by
  have e:b=it:=by simpa using hb
  subst e;obtain⟨o,e,c,d⟩:=st;exact⟨o,e,λv z=>by rw[d] at z;cases z⟩
 keep:=λi h h' st k=>st.at λo e=>k it (by simp) o e
 item:=by
  intro X hP hw hK hc i pins s σ H E I hf st hg;subst hP hw hK;obtain⟨xs,x,hq,hx⟩:=hg;obtain⟨its,rv,p,hz⟩:=I.tuple hq;obtain⟨u,hu,ru⟩:=rv.get hx;obtain⟨f0,f1,f2,f3,f4,f5⟩:=hf it (by simp);refine wpAny_pyNext_tuple_item st (show s.heap.IsTuple a its.toArray from p) (x:=u) (by simpa using hu) λh' st' sb=>?_;have I1:Inv X pins σ H { s with heap:=h' }:=I.turned (t':=s.toks) (λb o hb e=>(sb.2 b hb).trans e) f0 f1 f3 f4 f5;obtain⟨o,e,c,d⟩:=id st';exact⟨u,rfl,q6t (s:={ s with heap:=h' }) e c d (by decide) ⟨x,H,I1,ru,⟨rfl,λys hy=>by rw[I.tuple_inj hy hq];exact hx⟩,st',λb hb=>(hf b hb).1⟩⟩
 done:=by
  intro X hP hw hK hc i pins s σ H E I hf st hg;subst hP hw hK;obtain⟨xs,hq,hx⟩:=hg;obtain⟨its,rv,p,hz⟩:=I.tuple hq;obtain⟨f0,f1,f2,f3,f4,f5⟩:=hf it (by simp);have hl:=rv.length;exact wpAny_pyNext_tuple_end (I.ok.hd hc) st (show s.heap.IsTuple a its.toArray from p) (by simp;omega) λh' eb=>⟨rfl,I.turned (t':=s.toks) (λb o hb e=>eb b o hb e) f0 f1 f3 f4 f5⟩
 self:=λ_ _ _ _ _ st h=>wpAny_pyIter_tupleiter st h
theorem qao{P:Program}{w:World}{K:zA}{tg:Expr}(it:Addr)(lo:Int)(n:Nat):Turn P w K tg (Itr lo n) [it] it (λi h=>IsRangeIter h it (lo+(i:Nat)*1) ((n:Int) - (i:Nat)) 1) where
 mem:=by simp
 obj:=λi h st b hb=>by
  have e:b=it:=by simpa using hb
  subst e;exact⟨_,st,λv z=>by
   have z':Data.fields _=Data.cell v:=z;cases z'⟩
 keep:=λi h h' st k=>k it (by simp) _ st
 item:=by
  intro X hP hw hK hc i pins s σ H E I hf st hg;subst hP hw hK;obtain⟨f0,f1,f2,f3,f4,f5⟩:=hf it (by simp);have W:=Walks.range (prog:=X.prog) (w:=X.w) (I.ok.hd hc) it lo 1 n;refine W.item i s _ _ hg st λv h' tk hv st' kk=>?_;obtain⟨t,rfl⟩:=hv;have I1:Inv X pins σ H { s with heap:=h',toks:=tk }:=I.turned (λb o hb e=>kk b o (by simpa using hb) e) f0 f1 f3 f4 f5;refine⟨_,rfl,q6t (s:={ s with heap:=h',toks:=tk }) (n := "range_iterator") st' rfl rfl (by decide) ⟨.int (lo+i),H,I1,⟨t,?_⟩,⟨rfl,rfl⟩,st',λb hb=>(hf b hb).1⟩⟩;rw[Int.mul_one]
 done:=by
  intro X hP hw hK hc i pins s σ H E I hf st hg;subst hP hw hK;obtain⟨f0,f1,f2,f3,f4,f5⟩:=hf it (by simp);exact wpAny_pyNext_range_end (I.ok.hd hc) st (by have:n <= i:=hg;omega) λh' eb=>⟨rfl,I.turned (t':=s.toks) (λb o hb e=>eb b o hb e) f0 f1 f3 f4 f5⟩
 self:=λ_ _ _ _ _ st h=>wpAny_pyIter_rangeiter st h
section
variable {X:Cx} {tg:Expr}
noncomputable def iList(K:zA)(tl:TE):TI:=λσ H R=>tl σ H λx H1=>∃ a,x=.ref a/\(∃ xs,SqL K H1 a xs)/\R (Itl K a) H1
noncomputable def iTup(K:zA)(tl:TE):TI:=λσ H R=>tl σ H λx H1=>∃ a,x=.ref a/\(∃ xs,SqT K H1 a xs)/\R (Itt K a) H1
theorem q54{l:Expr}{tl:TE}(hl:PE X l tl):PI X tg l (iList X.K tl):=by
 intro pins s σ H R I h;refine thn (hl pins s σ H _ I h) λv s1 ⟨x,H1,I1,r1,q1⟩=>?_;obtain⟨a,e,⟨xs,hq⟩,q⟩:=q1;subst e;cases r1;obtain⟨its,rv,p,hz⟩:=I1.list hq;refine wpAny_pyIter_list p.isList ?_;refine⟨s1.heap.objs.size,[s1.heap.objs.size],_,_,H1,rfl,I1.kept (t':=s1.toks) λb o e=>zE _ e,qbG a _,⟨_,zR _ rfl,rfl,rfl⟩,λb hb=>?_,q⟩;have e:b=s1.heap.objs.size:=by simpa using hb
 subst e;exact I1.fpOk (zJ _) (I1.hok.fresh (zJ _))
theorem qfc{l:Expr}{tl:TE}(hl:PE X l tl):PI X tg l (iTup X.K tl):=by
 intro pins s σ H R I h;refine thn (hl pins s σ H _ I h) λv s1 ⟨x,H1,I1,r1,q1⟩=>?_;obtain⟨a,e,⟨xs,hq⟩,q⟩:=q1;subst e;cases r1;obtain⟨its,rv,p,hz⟩:=I1.tuple hq;refine wpAny_pyIter_tuple (show s1.heap.IsTuple a its.toArray from p) ?_;refine⟨s1.heap.objs.size,[s1.heap.objs.size],_,_,H1,rfl,I1.kept (t':=s1.toks) λb o e=>zE _ e,qa3 a _,⟨_,zR _ rfl,rfl,rfl⟩,λb hb=>?_,q⟩;have e:b=s1.heap.objs.size:=by simpa using hb
 subst e;exact I1.fpOk (zJ _) (I1.hok.fresh (zJ _))
theorem qcx{pins:List (Addr×Obj)}{σ:St}{H:Hp}{s:Shared}{R:It->Hp->Prop}{E:Value->Shared->Prop}{lo hi:Int}{t u v:Tok}{tk:Nat}(I:Inv X pins σ H s)(h1:-(2 ^ 62) <= lo)(h2:lo < 2 ^ 62)(h3:-(2 ^ 62) <= hi)(h4:hi < 2 ^ 62)
  (q:R (Itr lo (hi - lo).toNat) H):wpAny (model X.prog X.w) X.A (pyIter (.ref s.heap.objs.size)) (PIE X pins σ tg R) E { s with heap:=s.heap.push { cls:=.type "range", data:=.fields #[.int lo t,.int hi u,.int 1 v] },toks:=tk }:=by
 refine wpAny_pyIter_range (IsRange.new ..) (small_one h1 h2 h3 h4) ?_;have I1:Inv X pins σ H { s with heap:=s.heap.push { cls:=.type "range", data:=.fields #[.int lo t,.int hi u,.int 1 v] },toks:=tk }:=I.kept λb o e=>zE _ e;refine⟨(s.heap.push { cls:=.type "range", data:=.fields #[.int lo t,.int hi u,.int 1 v] }).objs.size,[(s.heap.push { cls:=.type "range", data:=.fields #[.int lo t,.int hi u,.int 1 v] }).objs.size],_,_,H,rfl,
  I1.kept (t':=tk) λb o e=>zE _ e,qao _ lo (hi - lo).toNat,?_,λb hb=>?_,q⟩
 ·have e1:lo+((0:Nat):Int)*1=lo:=by simp
  have e2:(((hi - lo).toNat:Nat):Int) - ((0:Nat):Int)=Builtin.Range.rangeSize lo hi 1:=by rw[rangeSize_one];split <;> omega
  show IsRangeIter _ _ (lo+((0:Nat):Int)*1) ((((hi - lo).toNat:Nat):Int) - ((0:Nat):Int)) 1;rw[e1,e2];exact zR _ rfl
 ·have e:b=(s.heap.push { cls:=.type "range", data:=.fields #[.int lo t,.int hi u,.int 1 v] }).objs.size:=by simpa using hb
  subst e;exact I1.fpOk (zJ _) (I1.hok.fresh (zJ _))
noncomputable def iRng1(ta:TA):TI:=λσ H R=>ta σ H λvs H1=>∃ j:Int,vs=[.int j]/\-(2 ^ 62) <= j/\j < 2 ^ 62/\R (Itr 0 j.toNat) H1
theorem qaK{a:Expr}{ta:TA}{p pos:Pos}(hg:Gl X "range")(hm:X.mg "range" = none)(ha:PA X [a] ta)(hs:starEach [a] X.env=[(false,eval a X.env)]:=by rfl):PI X tg (.Call (.Name "range" p) [a] [] pos) (iRng1 ta):=by
 intro pins s σ H R I h;refine Call_ (q0l I hg hm boot_range (PyProof.Rows.callWith_type1 (thn (ha pos pins s σ H _ I h) λus s1 ⟨vs,H1,I1,r1,q1⟩=>?_) hs rfl));obtain⟨j,e,q1,q2,q⟩:=q1;subst e;cases r1 with
 | cons r rr =>
  cases rr;obtain⟨t,rfl⟩:=r;exact call_range_1 (qcx I1 (by omega) (by omega) q1 q2 (by simpa using q))
noncomputable def tFor(wi:TI)(g:TG)(tb:TS):TS:=λD σ H=>wi σ H λJ H1=>∃ W:Nat->Nat->St->Hp->Prop,(∃ m,W 0 m σ H1)/\∀ i m σ H,W i m σ H ->
 (J.stop i H/\D.nx σ H)\/(J.go i H/\∃ N:St->Hp->Prop,(∀ σ' H',N σ' H'->∃ m',m' < m/\W (i+1) m' σ' H')/\∀ x H',J.yld i H x H'->g x σ H' λσ2 H2=>tb { D with nx:=N,ct:=N,bk:=D.nx } σ2 H2)
noncomputable def Wv(fp:List Addr)(h:Heap):List (Addr×Obj):=fp.filterMap λb=>(h.get? b).map λo=>(b,o)
theorem q1x{fp:List Addr}{h:Heap}{b:Addr}{o:Obj}(hb:b∈fp)(e:h.get? b=some o):(b,o)∈Wv fp h:=Zs.mpr ⟨b,hb,by rw[e];rfl⟩
theorem qb0{fp:List Addr}{h:Heap}{p:Addr×Obj}(hp:p∈Wv fp h):p.1∈fp/\h.get? p.1=some p.2:=by
 obtain⟨b,hb,e⟩:=Zs.mp hp;cases q:h.get? b with
 | none=>rw[q] at e;cases e
 | some o =>
  rw[q] at e;have e':(b,o)=p:=zw e;subst e';exact⟨hb,q⟩
theorem Inv.pinned{pins:List (Addr×Obj)}{σ:St}{H:Hp}{s:Shared}{fp:List Addr}(I:Inv X pins σ H s)(hf:∀ b∈fp,X7 X pins H b)(ho:∀ b∈fp,∃ o,s.heap.get? b=some o/\∀ v,o.data≠.cell v):Inv X (pins++Wv fp s.heap) σ H s :=
 I.pins_of λp hp=>(zN.mp hp).elim (λz=>I.pin p (zQ _ z)) λz=>by
  obtain⟨hb,e⟩:=qb0 z;obtain⟨f0,f1,f2,_⟩:=hf p.1 hb;obtain⟨o,e',d⟩:=ho p.1 hb;rw[e] at e';cases e';exact⟨e,f0,f1,f2,d⟩
theorem Inv.unpinned{pins pl:List (Addr×Obj)}{σ:St}{H:Hp}{s:Shared}(I:Inv X (pins++pl) σ H s):Inv X pins σ H s:=I.pins_of λp hp=>I.pin p (zQ _ (zV _ hp))
theorem q4A{iter:Expr}{body:List Stmt}{wi:TI}{g:TG}{tb:TS}{pos:Pos}(hp:PassesOwn (model X.prog X.w) X.A X.env X.xe)(hc:X.calm=true)(hi:PI X tg iter wi)(hg:PG X tg g)(hb:PSs X body tb)
  (hs:∀ x,foldedSetIterable iter X.env x=pure x:=by intro _;rfl):PS X (.For tg iter body [] pos) (tFor wi g tb):=by
 intro pins s σ H D I h;refine wpAny_For (thn (hi pins s σ H _ I h) λv s1 h1=>thn h1 λitv s2 h2=>?_) hs;obtain⟨it,fp,tn,J,H2,e,I2,T,st2,f2,W,⟨m0,w0⟩,turn⟩:=h2;subst e;have stat:∀ {H':Hp},(∀ b∈fp,H' b=none)->∀ b∈fp,X7 X pins H' b:=λhn b hb=>⟨hn b hb,(f2 b hb).2⟩;refine codeAny_forLoop_any (λn s'=>∃ i σ' H',Inv X pins σ' H' s'/\tn i s'.heap/\(∀ b∈fp,H' b=none)/\W i n σ' H') ?_ m0 ⟨0,σ,H2,I2,st2,λb hb=>(f2 b hb).1,w0⟩;rintro n s3 ⟨i,σ3,H3,I3,st3,fr3,w3⟩;rcases turn i n σ3 H3 w3 with⟨stop,qn⟩|⟨go,N,hN,step⟩
 ·refine wpAny_passesOwn hp (thn (T.done X rfl rfl rfl hc i pins s3 σ3 H3 X.xe I3 (stat fr3) st3 stop) λr s4 ⟨hr,I4⟩=>?_)
  subst hr;exact wpAny_execs_nil ⟨σ3,H3,I4,qn⟩
 ·refine wpAny_passesOwn hp (thn (T.item X rfl rfl rfl hc i pins s3 σ3 H3 X.xe I3 (stat fr3) st3 go) λr s4 ⟨u,hr,h4⟩=>?_)
  subst hr;refine wpAny_passesOwn hp (thn h4 λ_ s5 ⟨x,H5,I5,r5,y5,st5,fr5⟩=>?_);have I5':=I5.pinned (stat fr5) (T.obj _ _ st5);refine wpAny_passesOwn hp (thn (hg _ s5 σ3 H5 x u _ I5' r5 (step x H5 y5)) λ_ s6 ⟨σ6,H6,I6,q6⟩=>?_);refine wpAny_passesOwn hp (thn (hb _ s6 σ6 H6 _ I6 q6) λf s7 q7=>?_);have again:∀ {σ7:St} {H7:Hp},Inv X (pins++Wv fp s5.heap) σ7 H7 s7->N σ7 H7->∃ m,m < n/\∃ i σ' H',Inv X pins σ' H' s7/\tn i s7.heap/\(∀ b∈fp,H' b=none)/\W i m σ' H':=λ{σ7 H7} I7 n7=>by
   obtain⟨m',hm,w7⟩:=hN σ7 H7 n7;refine⟨m',hm,i+1,σ7,H7,I7.unpinned,T.keep _ _ _ st5 λb hb o e=>(I7.pin (b,o) (zQ _ (zQ _ (q1x hb e)))).1,λb hb=>?_,w7⟩;obtain⟨o,e,d⟩:=T.obj _ _ st5 b hb;exact(I7.pin (b,o) (zQ _ (zQ _ (q1x hb e)))).2.1
  cases f with
  | next=>obtain⟨σ7,H7,I7,n7⟩:=q7;exact again I7 n7
  | cont=>obtain⟨σ7,H7,I7,n7⟩:=q7;exact again I7 n7
  | brk=>obtain⟨σ7,H7,I7,q7⟩:=q7;exact⟨σ7,H7,I7.unpinned,q7⟩
  | ret v=>obtain⟨x7,σ7,H7,I7,r7,q7⟩:=q7;exact⟨x7,σ7,H7,I7.unpinned,r7,q7⟩
end
abbrev R2:=V->V->Hp->VK->Prop
def OpR(X:Cx)(f:Value->Value->Sem Value)(r:R2):Prop :=
 ∀ (pins:List (Addr×Obj)) (s:Shared) (σ:St) (H:Hp) (x y:V) (v u:Value) (Q:VK),Inv X pins σ H s->RelV x v->RelV y u->r x y H Q ->
  wpAny (model X.prog X.w) X.A (f v u) (EP X pins σ Q) X.xe s
def Xl(X:Cx)(f:Value)(r:List V->Hp->VK->Prop):Prop :=
 ∀ (pins:List (Addr×Obj)) (s:Shared) (σ:St) (H:Hp) (xs:List V) (us:List Value) (Q:VK),Inv X pins σ H s->Y2 xs us->r xs H Q ->
  wpAny (model X.prog X.w) X.A (call f us) (EP X pins σ Q) X.xe s
def TruR(X:Cx)(r:V->Hp->(Bool->Hp->Prop)->Prop):Prop :=
 ∀ (pins:List (Addr×Obj)) (s:Shared) (σ:St) (H:Hp) (x:V) (v:Value) (Q:Bool->Hp->Prop),Inv X pins σ H s->RelV x v->r x H Q ->
  wpAny (model X.prog X.w) X.A (truthy v) (TP X pins σ Q) X.xe s
noncomputable def tOp(r:R2)(ta tb:TE):TE:=λσ H Q=>ta σ H λx H1=>tb σ H1 λy H2=>r x y H2 Q
noncomputable def rI(C:Int->Int->Prop)(g:Int->Int->V):R2:=λx y H Q=>∃ i j,x=.int i/\y=.int j/\C i j/\Q (g i j) H
noncomputable def rI0(g:Int->Int->V):R2:=λx y H Q=>∃ i j,x=.int i/\y=.int j/\Q (g i j) H
section
variable {X:Cx} {a b c:Expr} {ta tb tc:TE} {pos:Pos}
theorem binT(ha:PE X a ta)(hb:PE X b tb){pins:List (Addr×Obj)}{s:Shared}{σ:St}{H:Hp}{R:V->V->Hp->Prop}(I:Inv X pins σ H s)
  (h:ta σ H λx H1=>tb σ H1 λy H2=>R x y H2) {Q:Value->Shared->Prop} {f:Value->Value->Sem Value}
  (hf:∀ v u s2 x y H2,Inv X pins σ H2 s2->RelV x v->RelV y u->R x y H2->wpAny (model X.prog X.w) X.A (f v u) Q X.xe s2) :
  wpAny (model X.prog X.w) X.A (eval a X.env) (λv s₁=>wpAny (model X.prog X.w) X.A (eval b X.env) (λu s₂=>wpAny (model X.prog X.w) X.A (f v u) Q X.xe s₂) X.xe s₁) X.xe s:=by
 refine thn (ha pins s σ H _ I h) λv s1 ⟨x,H1,I1,r1,q1⟩=>?_;refine thn (hb pins s1 σ H1 _ I1 q1) λu s2 ⟨y,H2,I2,r2,q2⟩=>?_;exact hf v u s2 x y H2 I2 r1 r2 q2
theorem qg4{op:Operator}{r:R2}(ho:OpR X (binaryOp op) r)(ha:PE X a ta)(hb:PE X b tb):PE X (.BinOp a op b pos) (tOp r ta tb):=by
 intro pins s σ H Q I h;exact wpAny_BinOp (binT ha hb I h λv u s2 x y H2 I2 rx ry q=>ho pins s2 σ H2 x y v u Q I2 rx ry q)
theorem opI{f:Value->Value->Sem Value}{C:Int->Int->Prop}{g:Int->Int->Int}
  (rule:∀ (i j:Int) (t u:Tok) (s:Shared) (Q:Value->Shared->Prop) (E:Value->Shared->Prop),C i j->Q (.int (g i j) s.toks) { s with toks:=s.toks+1 }->wpAny (model X.prog X.w) X.A (f (.int i t) (.int j u)) Q E s) :
  OpR X f (rI C λi j=>.int (g i j)):=by
 intro pins s σ H x y v u Q I rx ry h;obtain⟨i,j,rfl,rfl,hc,q⟩:=h;obtain⟨t,rfl⟩:=rx;obtain⟨t',rfl⟩:=ry;exact rule i j t t' s _ _ hc ⟨.int (g i j),H,I.tok _,⟨_,rfl⟩,q⟩
theorem opI0{f:Value->Value->Sem Value}{g:Int->Int->Int}
  (rule:∀ (i j:Int) (t u:Tok) (s:Shared) (Q:Value->Shared->Prop) (E:Value->Shared->Prop),Q (.int (g i j) s.toks) { s with toks:=s.toks+1 }->wpAny (model X.prog X.w) X.A (f (.int i t) (.int j u)) Q E s) :
  OpR X f (rI0 λi j=>.int (g i j)):=by
 intro pins s σ H x y v u Q I rx ry h;obtain⟨i,j,rfl,rfl,q⟩:=h;obtain⟨t,rfl⟩:=rx;obtain⟨t',rfl⟩:=ry;exact rule i j t t' s _ _ ⟨.int (g i j),H,I.tok _,⟨_,rfl⟩,q⟩
theorem opB0{f:Value->Value->Sem Value}{g:Int->Int->Bool}
  (rule:∀ (i j:Int) (t u:Tok) (s:Shared) (Q:Value->Shared->Prop) (E:Value->Shared->Prop),Q (.bool (g i j)) s->wpAny (model X.prog X.w) X.A (f (.int i t) (.int j u)) Q E s) :
  OpR X f (rI0 λi j=>.bl (g i j)):=by
 intro pins s σ H x y v u Q I rx ry h;obtain⟨i,j,rfl,rfl,q⟩:=h;obtain⟨t,rfl⟩:=rx;obtain⟨t',rfl⟩:=ry;exact rule i j t t' s _ _ ⟨.bl (g i j),H,I,rfl,q⟩
def CDiv(i j:Int):Prop:=0 < j/\j < 1073741824
def CPow(i j:Int):Prop:=0 <= j/\j <= 1000000/\i.natAbs < 2 ^ 64
def CMul(i j:Int):Prop:=(-(2 ^ 64) < i/\i < 2 ^ 64)\/(-(2 ^ 64) < j/\j < 2 ^ 64)
theorem CMul.ok{i j:Int}(h:CMul i j):IntMulOk i j:=by
 rcases h with⟨h1,h2⟩|⟨h1,h2⟩
 ·exact .of_left (intBits_le_64 h1 h2)
 ·exact .of_right (intBits_le_64 h1 h2)
theorem qeL:OpR X (binaryOp .Add) (rI0 λi j=>.int (i+j)):=opI0 λ_ _ _ _ _ _ _ q=>add_int q
theorem qeY:OpR X (binaryOp .Sub) (rI0 λi j=>.int (i - j)):=opI0 λ_ _ _ _ _ _ _ q=>sub_int q
theorem qfR:OpR X (binaryOp .Mult) (rI CMul λi j=>.int (i*j)):=opI λ_ _ _ _ _ _ _ hc q=>mul_int q hc.ok
theorem qea:OpR X (binaryOp .FloorDiv) (rI CDiv λi j=>.int (i / j)):=opI λi j _ _ _ _ _ hc q=>by
 have h1:(0:Int) < j:=hc.1;have h2:j < 1073741824:=hc.2;exact floordiv_int (by omega) (by rw[Int.fdiv_eq_ediv_of_nonneg i (by omega)];exact q) (.inl (PyProof.noPylong_small (by omega)))
theorem qfm:OpR X (binaryOp .Mod) (rI (λ_ j=>0 < j) λi j=>.int (i % j)):=opI λi j _ _ _ _ _ hc q=>by
 have h1:(0:Int) < j:=hc;exact mod_int' (by omega) (by rw[Int.fmod_eq_emod_of_nonneg i (by omega)];exact q)
theorem qfB:OpR X (binaryOp .Pow) (rI CPow λi j=>.int (i ^ j.toNat)):=opI λ_ _ _ _ _ _ _ hc q=>pow_int_small hc.1 hc.2.1 hc.2.2 q
end
section
variable {X:Cx} {a b c:Expr} {ta tb tc:TE} {pos:Pos}
theorem qg9:OpR X (compareOp .Lt) (rI0 λi j=>.bl (decide (i < j))):=opB0 λ_ _ _ _ _ _ _ q=>lt_int q
theorem qd9:OpR X (compareOp .LtE) (rI0 λi j=>.bl (decide (i <= j))):=opB0 λ_ _ _ _ _ _ _ q=>le_int q
theorem qg1:OpR X (compareOp .Gt) (rI0 λi j=>.bl (decide (j < i))):=opB0 λ_ _ _ _ _ _ _ q=>gt_int q
theorem OpR.or{f:Value->Value->Sem Value}{r r':R2}(h:OpR X f r)(h':OpR X f r'):OpR X f (λx y H Q=>r x y H Q\/r' x y H Q):=by
 intro pins s σ H x y v u Q I rx ry q;rcases q with q|q
 ·exact h pins s σ H x y v u Q I rx ry q
 ·exact h' pins s σ H x y v u Q I rx ry q
theorem WG(b:Expr){op:CmpOp}(h:op≠.In:=by decide)(h2:op≠.NotIn:=by decide):behindInMarks op b=false:=by
 have e1:(op == CmpOp.In)=false:=by cases op <;> first|rfl|exact absurd rfl h
 have e2:(op == CmpOp.NotIn)=false:=by cases op <;> first|rfl|exact absurd rfl h2
 cases b <;> simp[behindInMarks,e1,e2]
theorem qdQ{op:CmpOp}{r:R2}(ho:OpR X (compareOp op) r)(ha:PE X a ta)(hb:PE X b tb)(hm:behindInMarks op b=false):PE X (.Compare a [op] [b] pos) (tOp r ta tb):=by
 intro pins s σ H Q I h;exact wpAny_Compare1 (binT ha hb I h λv u s2 x y H2 I2 rx ry q=>ho pins s2 σ H2 x y v u Q I2 rx ry q) hm
noncomputable def tTest(t:TE):TT:=λσ H Q=>t σ H λx H'=>∃ k,x=.bl k/\Q k H'
theorem qdR{op:CmpOp}{r:R2}(ho:OpR X (compareOp op) r)(ha:PE X a ta)(hb:PE X b tb)(hm:behindInMarks op b=false):PT X (.Compare a [op] [b] pos) (tTest (tOp r ta tb)):=by
 intro pins s σ H Q I h;refine wpAny_isTrue_Compare1 (thn (ha pins s σ H _ I h) λv s1 ⟨x,H1,I1,r1,q1⟩=>thn (hb pins s1 σ H1 _ I1 q1) λu s2 ⟨y,H2,I2,r2,q2⟩ =>
  thn (ho pins s2 σ H2 x y v u _ I2 r1 r2 q2) λc s3 ⟨z,H3,I3,r3,k,e,q3⟩=>?_) hm
 subst e;cases r3;exact wpAny_truthy_bool ⟨H3,I3,q3⟩
def TruV(K:zA)(x:V)(H:Hp)(k:Bool):Prop :=
 match x with
 | .non=>k=false
 | .bl b=>k=b
 | .int i=>k=(i != 0)
 | .str y=>y.length <= sizeLine/\k=((y.length:Int) != 0)
 | .byt y=>y.size <= sizeLine/\k=((y.size:Int) != 0)
 | .ref p=>(∃ xs,SqL K H p xs/\k=!xs.isEmpty)\/(∃ xs,SqT K H p xs/\k=!xs.isEmpty)\/∃ kvs,H p=some (.dK kvs)/\k=!kvs.isEmpty
 | _=>False
theorem qad{κ:Type}{kvs:List (κ×V)}{vs:List (κ×Value)}(r:KV kvs vs):(!vs.isEmpty)=!kvs.isEmpty:=by
 cases r <;> rfl
theorem q4x{xs:List V}{its:List Value}(r:Y2 xs its):(!its.toArray.isEmpty)=!xs.isEmpty:=by
 cases r <;> simp
theorem WW:(sizeLine:Nat) < 2 ^ 63:=by rw[sizeLine_eq];decide
theorem qf8:TruR X (λx H Q=>∃ k,TruV X.K x H k/\Q k H):=by
 intro pins s σ H x v Q I rx h;obtain⟨k,e,q⟩:=h;have hl:=WW;have hs:sizeLine=16777216:=sizeLine_eq;cases x with
 | non =>
  cases rx;have e':k=false:=e;subst e';exact truthy_none ⟨H,I,q⟩
 | bl b =>
  cases rx;have e':k=b:=e;subst e';exact wpAny_truthy_bool ⟨H,I,q⟩
 | int i =>
  obtain⟨t,rfl⟩:=rx;have e':k=(i != 0):=e;subst e';exact PySem.P.truthy_int ⟨H,I,q⟩
 | str y =>
  obtain⟨t,rfl⟩:=rx;obtain⟨hy,e'⟩:y.length <= sizeLine/\k=((y.length:Int) != 0):=e;subst e';exact PySem.P.truthy_str (by omega) ⟨H,I.tok _,q⟩
 | byt y =>
  obtain⟨t,rfl⟩:=rx;obtain⟨hy,e'⟩:y.size <= sizeLine/\k=((y.size:Int) != 0):=e;subst e';exact PySem.W.truthy_bytes (by omega) ⟨H,I.tok _,q⟩
 | ref p =>
  cases rx;have e':(∃ xs,SqL X.K H p xs/\k=!xs.isEmpty)\/(∃ xs,SqT X.K H p xs/\k=!xs.isEmpty)\/∃ kvs,H p=some (.dK kvs)/\k=!kvs.isEmpty:=e;rcases e' with⟨xs,hx,e'⟩|⟨xs,hx,e'⟩|⟨kvs,hx,e'⟩
  ·subst e'
   obtain⟨its,r,pl,hz⟩:=I.list hx;have hlen:=r.length;exact wpAny_truthy_list pl.isList (by simp only[zP];omega) ⟨H,I.tok _,by rw[q4x r];exact q⟩
  ·subst e'
   obtain⟨its,r,pl,hz⟩:=I.tuple hx;have hlen:=r.length;exact truthy_tuple pl (by simp only[zP];omega) ⟨H,I.tok _,by rw[q4x r];exact q⟩
  ·subst e'
   obtain⟨hz,hS,vs,r,m⟩:kvs.length <= sizeLine/\(p == sysModules)=false/\∃ vs,KV kvs vs/\s.heap.DictOf (Yv X.prog X.w) p vs:=I.hok p _ hx;have hlen:kvs.length=vs.length:=Paired.length r;exact wpAny_truthy_dict hS m (by omega) ⟨H,I.tok _,by rw[qad r];exact q⟩
 | _=>exact(show False from e).elim
theorem q2J(ha:PE X a ta)(he:∀ whole,isTrue a X.env whole=(do let v <- whole;standAt a.pos;holding [v] (truthy v))) :
  PT X a (λσ H Q=>ta σ H λx H'=>∃ k,TruV X.K x H' k/\Q k H'):=by
 intro pins s σ H Q I h;exact isTrue_plain (thn (ha pins s σ H _ I h) λv s1 ⟨x,H1,I1,r1,q1⟩=>qf8 pins s1 σ H1 x v Q I1 r1 q1) (he _)
theorem vals1{x:V}{us:List Value}(r:Y2 [x] us):∃ u,us=[u]/\RelV x u:=by
 cases r with
 | cons r1 r2=>cases r2;exact⟨_,rfl,r1⟩
theorem vals2{x y:V}{us:List Value}(r:Y2 [x,y] us):∃ u w',us=[u,w']/\RelV x u/\RelV y w':=by
 cases r with
 | cons r1 r2 =>
  cases r2 with
  | cons r3 r4=>cases r4;exact⟨_,_,rfl,r1,r3⟩
theorem qcN:Xl X (.builtin "abs") (λxs H Q=>∃ i,xs=[.int i]/\Q (.int (if i < 0 then -i else i)) H):=by
 intro pins s σ H xs us Q I r h;obtain⟨i,rfl,q⟩:=h;obtain⟨u,rfl,t,rfl⟩:=vals1 r;exact call_abs_int λu tk=>⟨.int (if i < 0 then -i else i),H,I.tok _,⟨_,rfl⟩,q⟩
theorem q5S(hc:X.calm=true):Xl X (.builtin "max") (λxs H Q=>∃ i j,xs=[.int i,.int j]/\Q (.int (if j > i then j else i)) H):=by
 intro pins s σ H xs us Q I r h;obtain⟨i,j,rfl,q⟩:=h;obtain⟨u,w',rfl,⟨t,rfl⟩,⟨t',rfl⟩⟩:=vals2 r;refine max_two_ints (I.ok.hd hc) λh' tk k=>⟨_,H,I.kept k,?_,q⟩
 by_cases hj:j > i
 ·rw[if_pos hj,if_pos hj];exact⟨_,rfl⟩
 ·rw[if_neg hj,if_neg hj];exact⟨_,rfl⟩
theorem qbe:Xl X (.type "int") (λxs H Q=>(∃ i,xs=[.int i]/\Q (.int i) H)\/∃ k,xs=[.bl k]/\Q (.int (if k then 1 else 0)) H):=by
 intro pins s σ H xs us Q I r h;rcases h with⟨i,rfl,q⟩|⟨k,rfl,q⟩
 ·obtain⟨u,rfl,t,rfl⟩:=vals1 r
  exact call_int_int ⟨.int i,H,I,⟨_,rfl⟩,q⟩
 ·obtain⟨u,rfl,r1⟩:=vals1 r
  cases r1;exact call_int_bool ⟨.int (if k then 1 else 0),H,I.tok _,⟨_,rfl⟩,q⟩
end
structure ObjM (h:Heap) (x dx C:Addr) (mA:Str->Option Value):Prop where
 obj:h.get? x=some (ZM C dx)
 ns:h.Ns1 dx mA
 ne:dx≠x
theorem qbd{h:Heap}{dx:Addr}{mA:Str->Option Value}(n:h.Ns1 dx mA):∃ od,h.get? dx=some od/\∀ name,ZV name od=some (mA name):=by
 obtain⟨o,es,ep,ho,hd,hk,_,hm⟩:=n;refine⟨o,ho,λname=>?_⟩;have e:=hm name;unfold nsFind findBy at e;rw[<- Array.find?_toList] at e;unfold ZV;rw[hd]
 dsimp only
 split
 ·rename_i y q
  rw[q] at e;exact congrArg some e
 ·rename_i q
  rw[q] at e;have a:es.toList.any (·.refKey)=false:=by
   rw[wg];intro y hy;obtain⟨z,t,hkey⟩:=hk y (Array.mem_toList_iff.mp hy);simp[DictEntry.refKey,hkey]
  have a':¬es.toList.any (·.refKey)=true:=by rw[a];exact yo
  rw[if_neg a'];exact congrArg some e
theorem ObjM.look{h:Heap}{x dx C:Addr}{mA:Str->Option Value}(I:ObjM h x dx C mA):∃ od,PySem.W.InstAt h x (ZM C dx) C (some od)/\∀ name,ZV name od=some (mA name) :=
 let ⟨od,ho,hl⟩:=qbd I.ns
 ⟨od,⟨I.obj,rfl,rfl,ho⟩,hl⟩
section
variable {prog:Program} {w:World} {A:Around} {E:Value->Shared->Prop} {s:Shared} {K:zA} {x dx C f:Addr} {mA:Str->Option Value} {name:Str} {v:Value}
end
theorem zAd.some_of{v:V}{o:Option Value}(r:zAd (some v) o):∃ u,o=some u/\RelV v u:=by
 cases o with
 | none=>exact(show False from r).elim
 | some u=>exact⟨u,rfl,r⟩
section
variable {P:Program} {w:World} {H H':Hp} {h h':Heap} {a C dx:Addr} {fs fs':List (Str×V)}
theorem qdm(hok:HOk P w H h)(e:H a=some (.ins C dx fs)):∃ mA,ObjM h a dx C mA/\(∀ f,zAd (fs.lookup f) (mA f))/\PySem.Within mA (fs.map (·.1))/\fs.length <= 1000/\H dx=some (.own a):=by
 obtain⟨d,z,ne,ob,mA,n,r,q⟩:=(show Y3 P w H h a (.ins C dx fs) from hok a _ e);exact⟨mA,⟨ob,n,ne⟩,r,q,z,d⟩
end
structure Cls (K:zA) (C:Addr):Prop where
 pg:YE K C Str.empty=true
 hd:PySem.W.hasDictIn K C=true
 po:PySem.W.plainOver K C=true
 sa:YR K (.ref C) "__setattr__" = some (some (.builtin "object.__setattr__"))
theorem Cls.get{K:zA}{C:Addr}(c:Cls K C)(f:Str):YE K C f=true:=c.pg
section
variable {X:Cx} {pins:List (Addr×Obj)} {σ:St} {H:Hp} {s:Shared} {a C dx:Addr} {fs:List (Str×V)} {f:Str} {v:V} {A:Around} {E:Value->Shared->Prop}
end
section
variable {X:Cx} {o e value:Expr} {f:Str} {pos pos' tpos:Pos} {ta tv:TE}
end
section
variable {X:Cx} {pins:List (Addr×Obj)} {σ:St} {H:Hp} {s:Shared} {A:Around} {E:Value->Shared->Prop} {Q:Value->Shared->Prop} {c:Value} {b:Bool}
inductive TyOf (K:zA) (H:Hp):V->Value->Prop where
 | non:TyOf K H .non (.type "NoneType")
 | bl (x:Bool):TyOf K H (.bl x) (.type "bool")
 | int (i:Int):TyOf K H (.int i) (.type "int")
 | str (x:Str):TyOf K H (.str x) (.type "str")
 | flt (x:UInt64):TyOf K H (.flt x) (.type "float")
 | lst {a:Addr} {xs:List V} (e:H a=some (.lst xs)):TyOf K H (.ref a) (.type "list")
 | frz {a:Addr} {o:Obj} {xs:List V} (e:H a=some (.frz o (.lst xs))):TyOf K H (.ref a) (.type "list")
 | tup {a:Addr} {xs:List V} (e:H a=some (.tup xs)):TyOf K H (.ref a) (.type "tuple")
 | dK {a:Addr} {kvs:List (Key×V)} (e:H a=some (.dK kvs)):TyOf K H (.ref a) (.type "dict")
 | dT {a:Addr} {kvs:List (List Key×V)} (e:H a=some (.dT kvs)):TyOf K H (.ref a) (.type "dict")
 | ins {a C dx:Addr} {fs:List (Str×V)} (e:H a=some (.ins C dx fs)) (cl:Cls K C) (ha:YR K (.ref C) "__class__" = some (some (.builtin "object.__class__")))
   (hn:PySem.W.specialIn K (.builtin "object.__class__") "__get__" = some (some (.builtin "getset_descriptor.__get__"))) (htk:PySem.W.takesIn K (.builtin "object.__class__")=some true)
   (hm:PySem.W.mroIn K C (.type "object")=some true):TyOf K H (.ref a) (.ref C)
theorem qbu{x:V}{u t:Value}(I:Inv X pins σ H s)(rx:RelV x u)(ty:TyOf X.K H x t)(e:ZW X.K t c=some b)(h:∀ tk,Q (.bool b) { s with toks:=tk }) :
  wpAny (model X.prog X.w) A (call (.builtin "isinstance") [u,c]) Q E s:=by
 cases ty with
 | non=>cases (show u=Value.none from rx);exact ye PySem.W.kitx_none I.kIn True.intro e (λz=>nomatch z) h
 | bl y=>cases (show u=Value.bool y from rx);exact ye PySem.W.kitx_bool I.kIn True.intro e (λz=>nomatch z) h
 | int i=>obtain⟨t,q⟩:=(show ∃ t,u=Value.int i t from rx);cases q;exact ye PySem.W.kitx_int I.kIn True.intro e (λz=>nomatch z) h
 | str y=>obtain⟨t,q⟩:=(show ∃ t,u=Value.str y t from rx);cases q;exact ye PySem.W.kitx_str I.kIn True.intro e (λz=>nomatch z) h
 | flt y=>obtain⟨t,q⟩:=(show ∃ t,u=Value.float y t from rx);cases q;exact ye PySem.W.kitx_float I.kIn True.intro e (λz=>nomatch z) h
 | @lst a xs ea =>
  cases (show u=Value.ref a from rx);obtain⟨_,_,n,_,h1⟩:=(show Y3 X.prog X.w H s.heap a (.lst xs) from I.hok a _ ea);exact ye Zx I.kIn ⟨_,h1,rfl⟩ e (λz=>nomatch z) h
 | @frz a ob xs ea =>
  cases (show u=Value.ref a from rx);obtain⟨_,_,_,n,_,h1⟩:=(show Y3 X.prog X.w H s.heap a (.frz ob (.lst xs)) from I.hok a _ ea);exact ye Zx I.kIn ⟨_,h1,rfl⟩ e (λz=>nomatch z) h
 | @tup a xs ea =>
  cases (show u=Value.ref a from rx);obtain⟨_,_,_,p⟩:=(show Y3 X.prog X.w H s.heap a (.tup xs) from I.hok a _ ea);obtain⟨o,h1,h2,_⟩:=p;exact ye PySem.W.kitx_tuple I.kIn ⟨o,h1,h2⟩ e (λz=>nomatch z) h
 | @dK a kvs ea =>
  cases (show u=Value.ref a from rx);obtain⟨_,_,vs,_,p⟩:=(show Y3 X.prog X.w H s.heap a (.dK kvs) from I.hok a _ ea);obtain⟨o,es,ep,h1,h2,_⟩:=p;exact ye Zy I.kIn ⟨o,h1,h2.1⟩ e (λz=>nomatch z) h
 | @dT a kvs ea =>
  cases (show u=Value.ref a from rx);obtain⟨_,_,xs,_,o,es,ep,h1,h2,_⟩:=(show Y3 X.prog X.w H s.heap a (.dT kvs) from I.hok a _ ea);exact ye Zy I.kIn ⟨o,h1,h2.1⟩ e (λz=>nomatch z) h
 | @ins a C dx fs ea cl ha hn htk hm =>
  cases (show u=Value.ref a from rx);obtain⟨mA,O,_⟩:=qdm I.hok ea;obtain⟨od,J,_⟩:=O.look;exact ye (PySem.W.kitx_own (cl.get _) cl.hd ha hn htk hm) I.kIn J e (λz=>nomatch z) h
end
structure Room (k:Nat) (A:Around):Prop where
 hd:A.handled=none
 dp:A.depth+3*k+5 < recursionLimit
 un:A.units+16*k+200 < cLine
theorem Room.mono{j k:Nat}{A:Around}(r:Room k A)(h:j <= k):Room j A:=⟨r.hd,by have:=r.dp;omega,by have:=r.un;omega⟩
theorem Room.deeper{k:Nat}{A:Around}(r:Room (k+1) A)(env:Env):Room k (A.deeper env) :=
 ⟨r.hd,by have:=r.dp;show A.depth+1+3*k+5 < _;omega,by have:=r.un;show A.units+3+16*k+200 < _;omega⟩
theorem Room.in1{k:Nat}{A:Around}(r:Room (k+1) A):Room k A.in1 :=
 ⟨r.hd,by have:=r.dp;show A.depth+3*k+5 < _;omega,by have:=r.un;show A.units+1+16*k+200 < _;omega⟩
theorem Room.depth{k:Nat}{A:Around}(r:Room k A):A.depth < recursionLimit:=by have:=r.dp;omega
theorem Room.units{k:Nat}{A:Around}(r:Room k A):A.units+64 < cLine:=by have:=r.un;omega
noncomputable def W8:TA:=λ_ H Q=>Q [] H
noncomputable def WN(ta:TE)(tr:TA):TA:=λσ H Q=>ta σ H λx H1=>tr σ H1 λxs H2=>Q (x::xs) H2
section
variable {X:Cx} {e:Expr} {es:List Expr} {te:TE} {t:TA} {pos:Pos}
theorem qo:PA X [] W8:=λ_ _ _ _ H Q I h=>Calls.spliced_nil ⟨[],H,I,.nil,h⟩
theorem qr(ha:PE X e te)(hr:PA X es t)(hs:starEach (e::es) X.env=(false,eval e X.env)::starEach es X.env:=by rfl):PA X (e::es) (WN te t):=by
 intro pos pins s σ H Q I h;rw[hs];show wpAny _ _ (spliced ((false,eval e X.env)::backTo pos (starEach es X.env))) _ _ s;refine Calls.spliced_cons (thn (ha pins s σ H _ I h) λu s1 ⟨x,H1,I1,r1,q1⟩=>?_);exact thn (hr pos pins s1 σ H1 _ I1 q1) λus s2 ⟨xs,H2,I2,r2,q2⟩=>⟨x::xs,H2,I2,.cons r1 r2,q2⟩
noncomputable def tTup(t:TA):TE:=λσ H Q=>t σ H λxs H1=>xs.length <= sizeLine/\∀ p,H1 p=none->Q (.ref p) (upd H1 p (.tup xs))
noncomputable def zCQ(t:TA):TE:=λσ H Q=>t σ H λxs H1=>xs.length <= sizeLine/\∀ p,H1 p=none->Q (.ref p) (upd H1 p (.lst xs))
theorem qeZ{x1}(h:PA X es t):PE X (.Tuple es x1 pos) (tTup t):=by
 intro pins s σ H Q I hq;refine wpAny_Tuple_spliced (thn (h pos pins s σ H _ I hq) λus s1 ⟨xs,H1,I1,r,z,q⟩=>⟨by rw[<- r.length];exact z,?_⟩);have hf:H1 s1.heap.objs.size=none:=I1.hok.fresh (zJ _);refine⟨.ref s1.heap.objs.size,upd H1 s1.heap.objs.size (.tup xs),I1.laid (t':=s1.toks) (λb u e=>zE _ e) (zJ _) ?_,rfl,q _ hf⟩;exact⟨z,us,r,⟨_,zR _ rfl,rfl,_,rfl⟩⟩
theorem q1T(h:PA X es t):PE X (.List es pos) (zCQ t):=by
 intro pins s σ H Q I hq;refine wpAny_List_spliced (thn (h pos pins s σ H _ I hq) λus s1 ⟨xs,H1,I1,r,z,q⟩=>⟨by rw[<- r.length];exact z,?_⟩);have hf:H1 s1.heap.objs.size=none:=I1.hok.fresh (zJ _);refine⟨.ref s1.heap.objs.size,upd H1 s1.heap.objs.size (.lst xs),I1.laid (t':=s1.toks) (λb u e=>zE _ e) (zJ _) ?_,rfl,q _ hf⟩;exact⟨z,us,0,r,zR _ rfl⟩
end
abbrev Sp:=List V->Hp->VK->XK->Prop
abbrev CXT:=List Env->Hp->Shared->XK->Value->Shared->Prop
structure Env0 (P:Program) (w:World) (K:zA) (mg:Str->Option Value) (base:Heap) (A:Around) (outer:List Env) (s:Shared) (H:Hp):Prop where
 frames:A.frames=some outer
 mod:Mod K mg base
 bs:∀ b o,base.get? b=some o->s.heap.get? b=some o/\H b=none
 bsz:base.objs.size <= s.heap.objs.size
 funs:s.heap.FunFrames base outer
 frf:∀ b∈frs outer,H b=none
 hok:HOk P w H s.heap
 bare:AllBare s.gens
def CE(outer:List Env)(P:Program)(w:World)(H:Hp)(s:Shared)(Q:VK)(u:Value)(s':Shared):Prop :=
 ∃ v H',s'.os=s.os/\AllBare s'.gens/\Un (frs outer) [] H H' s.heap s'.heap/\HOk P w H' s'.heap/\RelV v u/\Q v H'
def CR(CX:CXT)(outer:List Env)(P:Program)(w:World)(H:Hp)(s:Shared)(Q:VK)(E:XK)(r:Result)(s':Shared):Prop :=
 match r with
 | .ok (.ret u)=>CE outer P w H s Q u s'
 | .ok _=>False
 | .error e=>CX outer H s E e s'
structure FnOk (P:Program) (w:World) (K:zA) (mg:Str->Option Value) (base:Heap) (CX:CXT) (k:Nat) (f:Addr) (fd:FuncData) (ps:List Str) (sp:Sp):Prop where
 len:∀ vs H Q E,sp vs H Q E->vs.length=ps.length
 run:∀ (A:Around) (outer:List Env) (s:Shared) (H:Hp) (args:Args) (us:List Value) (vs:List V) (Q:VK) (E:XK),Room k A->Env0 P w K mg base A outer s H->BindsTo s fd args (ps.zip us)->Y2 vs us->sp vs H Q E ->
  codeAny (model P w) A (.call (.ref f) args) (CR CX outer P w H s Q E) s
theorem Env0.in1{P:Program}{w:World}{K:zA}{mg:Str->Option Value}{base:Heap}{A:Around}{outer:List Env}{s:Shared}{H:Hp}(e:Env0 P w K mg base A outer s H) :
  Env0 P w K mg base A.in1 outer s H:=⟨e.frames,e.mod,e.bs,e.bsz,e.funs,e.frf,e.hok,e.bare⟩
section
variable {X:Cx} {pins:List (Addr×Obj)} {σ:St} {H:Hp} {s s':Shared}
theorem Inv.env0(I:Inv X pins σ H s):Env0 X.prog X.w X.K X.mg X.base X.A X.stack s H :=
 ⟨I.ok.frames,I.ok.mod,I.bs,yG I.ok.bsz I.sz,I.stack,I.stkFree,I.hok,I.bare⟩
theorem Inv.after{Q:VK}{u:Value}(I:Inv X pins σ H s)(h:CE X.stack X.prog X.w H s Q u s'):EP X pins σ Q u s':=by
 obtain⟨v,H',os,bare,un,hok,r,q⟩:=h;obtain⟨hh,g,d,t,os'⟩:=s';obtain rfl:os'=s.os:=os;exact⟨v,H',I.call (h':=hh) (g':=g) (d':=d) (t':=t) (ch:=[]) un hok bare (λb z=>absurd z (by simp)),r,q⟩
end
noncomputable def tCall(sp:Sp)(dvs:List V)(E:XK)(t:TA):TE:=λσ H Q=>t σ H λvs H1=>sp (vs++dvs) H1 Q E
def Binds(K:zA)(fd:FuncData)(ps:List Str)(ds:List Value):Prop :=
 ∀ (s:Shared) (us:List Value),K.In s.heap->(us++ds).length=ps.length->BindsTo s fd ⟨us,[]⟩ (ps.zip (us++ds))
theorem Binds.all{K:zA}{fd:FuncData}{ps:List Str}(h:∀ us:List Value,us.length=ps.length->bindArgs fd ⟨us,[]⟩=pure (ps.zip us)):Binds K fd ps []:=λs us _ hl=>by
 rw[zr] at hl ⊢;exact .of_eq (h us hl)
def zAZ(CX:CXT)(X:Cx)(E:XK):Prop:=∀ (pins:List (Addr×Obj)) (σ:St) (H:Hp) (s:Shared) (e:Value) (s':Shared),Inv X pins σ H s->CX X.stack H s E e s'->X.xe e s'
section
variable {X:Cx} {CX:CXT} {k:Nat} {f C:Addr} {fd:FuncData} {ps:List Str} {sp:Sp} {dvs:List V} {ds:List Value} {E:XK} {x m:Str} {p pos apos:Pos} {e o:Expr} {es:List Expr} {ta:TE} {t:TA}
theorem qfx{pins:List (Addr×Obj)}{σ:St}{H:Hp}{s:Shared}{Q:VK}{us:List Value}{vs:List V}(F:FnOk X.prog X.w X.K X.mg X.base CX k f fd ps sp)(hr:Room k X.A)(hb:Binds X.K fd ps ds)(hd:Y2 dvs ds)(hx:zAZ CX X E)
  (I:Inv X pins σ H s) (r:Y2 vs us) (h:sp (vs++dvs) H Q E):wpAny (model X.prog X.w) X.A (call (.ref f) us) (EP X pins σ Q) X.xe s:=by
 have r2:Y2 (vs++dvs) (us++ds):=r.append hd;have hl:(us++ds).length=ps.length:=by rw[<- r2.length];exact F.len _ _ _ _ h
 refine wpAny_call (codeAny_mono (F.run X.A X.stack s H ⟨us,[]⟩ (us++ds) (vs++dvs) Q E hr I.env0 (hb s us I.kIn hl) r2 h) λr s' hq=>?_);cases r with
 | error e=>exact hx pins σ H s e s' I hq
 | ok fl =>
  cases fl with
  | ret u=>exact I.after hq
  | next=>exact False.elim hq
  | brk=>exact False.elim hq
  | cont=>exact False.elim hq
theorem q97(F:FnOk X.prog X.w X.K X.mg X.base CX k f fd ps sp)(hr:Room k X.A)(hg:Gl X x)(hm:X.mg x=some (.ref f))(hk:xk X.K (.ref f)=true)(hb:Binds X.K fd ps ds)(hd:Y2 dvs ds)(hx:zAZ CX X E)
  (ha:PA X (e::es) t) (hdb:(x == ("__debug__" : Str))=false:=by decide) (he:starEach (e::es) X.env=(false,eval e X.env)::starEach es X.env:=by rfl) (hpl:(backTo pos (starEach es X.env)).any (·.1)=false:=by rfl) :
  PE X (.Call (.Name x p) (e::es) [] pos) (tCall sp dvs E t):=by
 intro pins s σ H Q I h;refine wpAny_Call_Name_kw (q9i I hg hm ?_ hdb);refine PySem.W.callWith_K (h₀:=X.base) I.ok.mod.kin hk (thn (ha pos pins s σ H _ I h) λus s1 ⟨vs,H1,I1,r,q⟩=>⟨I1.kIn,?_⟩) he hpl;exact qfx F hr hb hd hx I1 r q
end
def PK(X:Cx)(kws:List Keyword)(t:TA):Prop :=
 ∀ (pos:Pos) (pins:List (Addr×Obj)) (s:Shared) (σ:St) (H:Hp) (Q:List V->Hp->Prop),Inv X pins σ H s->t σ H Q->wpAny (model X.prog X.w) X.A (evalAll ((backToKw pos (keywordEach kws X.env)).map (·.2))) (AP X pins σ Q) X.xe s
section
variable {X:Cx} {CX:CXT} {k:Nat} {f C:Addr} {fd:FuncData} {ps ks:List Str} {sp:Sp} {E:XK} {x m:Str} {p pos apos kpos:Pos} {e o:Expr} {es:List Expr} {kws:List Keyword} {te ta:TE} {t tk:TA} {nm:Option Str}
theorem qfP:PK X [] W8:=λ_ _ _ _ H Q I h=>wpAny_evalAll_nil ⟨[],H,I,.nil,h⟩
theorem qeI(ha:PE X e te)(hr:PK X kws t):PK X (⟨nm,e,kpos⟩::kws) (WN te t):=by
 intro pos pins s σ H Q I h;show wpAny _ _ (evalAll ((do let v <- eval e X.env;standAt pos;pure v)::(backToKw pos (keywordEach kws X.env)).map (·.2))) _ _ s;refine wpAny_evalAll_cons (wpAny_bind (thn (ha pins s σ H _ I h) λu s1 ⟨x,H1,I1,r1,q1⟩=>wpAny_bind (wpAny_standAt (wpAny_pure ?_))));exact thn (hr pos pins s1 σ H1 _ I1 q1) λus s2 ⟨xs,H2,I2,r2,q2⟩=>⟨x::xs,H2,I2,.cons r1 r2,q2⟩
variable {g:List Value->List Value->List Value} {gV:List V->List V->List V}
end
structure FnScope (N P:List Str) (sc:Scope):Prop where
 kind:sc.kind=.function
 co:sc.isCoroutine=false
 gen:sc.isGenerator=false
 nd:N.Nodup
 pre:N.take P.length=P
 par:∀ x∈P,sc.names.lookup x=some .local\/sc.names.lookup x=some .cell
 nofree:∀ y∈sc.names,y.2≠.free
theorem q6d{kindOf:Str->Option NameKind}{x:Str}:∀ {binds:List (Str×Value)} {m:Str->Option Value},(∀ v,(x,v)∉binds)->bindL kindOf binds m x=m x
 | [],_,_=>rfl
 | (n,v)::r,m,h=>by
  unfold bindL;rw[q6d λw hw=>h w (zH _ hw)]
  split
  ·have:x≠n:=by rintro rfl;exact h v zG
   simp[this]
  ·rfl
theorem q6e{kindOf:Str->Option NameKind}{x:Str}:∀ {binds:List (Str×Value)} {m:Str->Option Value},(∀ v,(x,v)∉binds)->bindC kindOf binds m x=m x
 | [],_,_=>rfl
 | (n,v)::r,m,h=>by
  unfold bindC;rw[q6e λw hw=>h w (zH _ hw)]
  split
  ·rfl
  ·have:x≠n:=by rintro rfl;exact h v zG
   simp[this]
theorem q6a{kindOf:Str->Option NameKind}{x:Str}{v:Value}:∀ {P:List Str} {vs:List Value} {i:Nat} {m:Str->Option Value},P.Nodup->P[i]?=some x->vs[i]?=some v->kindOf x=some .local ->
  bindL kindOf (P.zip vs) m x=some v
 | [],_,_,_,_,h,_,_=>by simp at h
 | _::_,[],_,_,_,_,h,_=>by simp at h
 | p::P,w::vs,0,m,nd,h1,h2,hk=>by
  simp at h1 h2;subst h1;subst h2;show bindL kindOf ((p,w)::P.zip vs) m p=_;unfold bindL;rw[q6d λv hv=>(yS.mp nd).1 (ZN hv).1,if_pos hk];simp
 | p::P,w::vs,i+1,m,nd,h1,h2,hk=>by
  show bindL kindOf ((p,w)::P.zip vs) m x=_;unfold bindL;exact q6a (i:=i) (yS.mp nd).2 (by simpa using h1) (by simpa using h2) hk
theorem q5M{kindOf:Str->Option NameKind}{x:Str}{v:Value}:∀ {P:List Str} {vs:List Value} {i:Nat} {m:Str->Option Value},P.Nodup->P[i]?=some x->vs[i]?=some v->kindOf x≠some .local ->
  bindC kindOf (P.zip vs) m x=some v
 | [],_,_,_,_,h,_,_=>by simp at h
 | _::_,[],_,_,_,_,h,_=>by simp at h
 | p::P,w::vs,0,m,nd,h1,h2,hk=>by
  simp at h1 h2;subst h1;subst h2;show bindC kindOf ((p,w)::P.zip vs) m p=_;unfold bindC;rw[q6e λv hv=>(yS.mp nd).1 (ZN hv).1,if_neg hk];simp
 | p::P,w::vs,i+1,m,nd,h1,h2,hk=>by
  show bindC kindOf ((p,w)::P.zip vs) m x=_;unfold bindC;exact q5M (i:=i) (yS.mp nd).2 (by simpa using h1) (by simpa using h2) hk
noncomputable def start(N:List Str)(vs:List V):St:=vs.map some++zh (N.length - vs.length) none
noncomputable def zBV(CX:CXT)(P:Program)(w:World)(K:zA)(mg:Str->Option Value)(base:Heap)(N:List Str)(qual:Str)(scope:Scope)(f:Addr)(cd:Value)(A:Around)(outer:List Env)(s:Shared)(H:Hp)(E:XK):Cx where
 prog:=P
 w:=w
 K:=K
 mg:=mg
 base:=base
 A:=A.deeper (envOfC qual scope s.heap.objs.size f cd)
 N:=N
 s₀:=s
 H₀:=H
 env:=envOfC qual scope s.heap.objs.size f cd
 outer:=outer
 stack:=envOfC qual scope s.heap.objs.size f cd::outer
 ex:=[]
 calm:=true
 fn:=λ_=>true
 pn:=[]
 xe:=λe s'=>wpAny (model P w) (A.deeper (envOfC qual scope s.heap.objs.size f cd)) (leaving (envOfC qual scope s.heap.objs.size f cd) e) (λ_ s''=>CX outer H s E e s'') (λe' s''=>CX outer H s E e' s'') s'
theorem q6O{sc:Scope}{n:Nat}{x:Str}(h:sc.names.lookup x=some .cell):∃ c,(cellsFrom n sc.names []).lookup x=some c:=by
 have q:=ZE sc.names n [] (.inl h);exact yl.mp q
theorem qaN{CX:CXT}{P:Program}{w:World}{K:zA}{mg:Str->Option Value}{base:Heap}{N ps:List Str}{qual:Str}{scope:Scope}{f:Addr}{cd:Value}{A:Around}{outer:List Env}{s s1:Shared}{H:Hp}{E:XK}{us:List Value}{vs:List V}
  (S:FnScope N ps scope) (hd:A.handled=none) (e0:Env0 P w K mg base A outer s H) (hl:vs.length=ps.length) (r:Y2 vs us)
  (x:InCallC s s.heap.objs.size (bindL (envOfC qual scope s.heap.objs.size f cd).kindOf (ps.zip us) λ_=>none) (cellsFrom (s.heap.objs.size+1) scope.names []) (bindC (envOfC qual scope s.heap.objs.size f cd).kindOf (ps.zip us) λ_=>none) s1) :
  Inv (zBV CX P w K mg base N qual scope f cd A outer s H E) [] (start N vs) H s1:=by
 have hpl:ps.length <= N.length:=by have:=congrArg xX S.pre;rw[zd] at this;omega
 obtain⟨h1,tk,rfl,hk⟩:=x.done;have noA:∀ b:Addr,b∉(zBV CX P w K mg base N qual scope f cd A outer s H E).ex:=λb z=>absurd (show b∈([]:List Addr) from z) (by simp);refine⟨⟨e0.mod,S.kind,rfl,rfl,zJ _,λy z c h1 h2=>?_,λy hy=>?_,λy c _ h=>?_,λ_=>hd,Around.frames_deeper e0.frames,.inr ⟨rfl,rfl⟩,λb z=>absurd z (noA b),e0.bs,e0.bsz,λb _ _=>noA b,λb z=>absurd z (noA b),e0.funs,e0.frf⟩,
  rfl,e0.bare,Un.kept hk,⟨_,x.toInCall.ns,λi y v h1 h2 h3=>?_⟩,λy c h=>⟨_,x.cell y c h⟩,e0.hok.fresh (zJ _),λy c h=>?_,λp hp=>absurd (show p∈([]:List (Addr×Obj)) from hp) (by simp),e0.hok.kept hk,?_⟩
 ·exact name_of_addr x.apart (PySem.mem_of_lookup h1) (PySem.mem_of_lookup h2)
 ·have hy:scope.names.lookup y=some .cell\/scope.names.lookup y=some .free:=hy
  rcases hy with hy|hy
  ·exact q6O hy
  ·exact absurd rfl (S.nofree _ (PySem.mem_of_lookup hy))
 ·exact yQ (x.above y c (PySem.mem_of_lookup h))
 ·have hi:i < vs.length:=by
   unfold start at h2
   by_cases hi:i < vs.length
   ·exact hi
   ·rw[zW (by simpa using hi)] at h2
    rw[yp] at h2
    split at h2 <;> cases h2
  have ha:vs[i]?=some v:=by
   unfold start at h2;rw[zc (by simpa using hi),za] at h2;cases e:vs[i]? with
   | none=>rw[e] at h2;cases h2
   | some a=>rw[e] at h2;cases h2;rfl
  obtain⟨u,hu,rv⟩:=r.get ha;have hp:ps[i]?=some y:=by
   rw[<- S.pre,xx (by omega)];exact h1
  have ndP:ps.Nodup:=by rw[<- S.pre];exact S.nd.sublist (wj _ _)
  refine⟨u,rv,?_⟩;rcases S.par y (z7 hp) with k|k
  ·exact .inl ⟨k,q6a ndP hp hu k⟩
  ·obtain⟨c,e⟩:=q6O (n:=s.heap.objs.size+1) k
   refine .inr ⟨.inl k,c,e,?_⟩;have q:=x.cell y c e;rw[q5M ndP hp hu (by show scope.names.lookup y≠_;rw[k];decide)] at q;exact q
 ·exact e0.hok.fresh (yQ (x.above y c (PySem.mem_of_lookup h)))
 ·unfold start
  show _=N.length;rw[zC,zB,yK];omega
theorem qg8{CX:CXT}{P:Program}{w:World}{K:zA}{mg:Str->Option Value}{base:Heap}{k:Nat}{f:Addr}{name qual:Str}{params:Arguments}{body:List Stmt}{scope:Scope}{dV kV doc pm cdv ct oc:Value}{an od:Option Addr}
  {osl:Array (Option Value)} {N ps:List Str} {sp:Sp} (lk:K.lookup f=some ⟨oc,od,.func (xY name qual params body scope dV kV doc pm an cdv ct),osl⟩) (hcd:wU K cdv qual=true) (S:FnScope N ps scope)
  (len:∀ vs H Q E,sp vs H Q E->vs.length=ps.length)
  (hbody:∀ (A:Around) (outer:List Env) (s:Shared) (H:Hp) (vs:List V) (Q:VK) (E:XK),Room k (A.deeper (envOfC qual scope s.heap.objs.size f cdv))->sp vs H Q E ->
   ∃ t,PSs (zBV CX P w K mg base N qual scope f cdv A outer s H E) body t/\t { nx:=λ_ H'=>Q .non H',rt:=Q } (start N vs) H) :
  FnOk P w K mg base CX (k+1) f (xY name qual params body scope dV kV doc pm an cdv ct) ps sp:=by
 refine⟨len,λA outer s H args us vs Q E hr e0 hb r hsp=>?_⟩;have hl:=len _ _ _ _ hsp;have KX:K.In s.heap:=e0.mod.kin.keeps λb o e=>(e0.bs b o e).1;have lim:s.heap.NoLimit:=e0.mod.nolimit.keeps λb o e=>(e0.bs b o e).1;have hkind:∀ y∈ps.zip us,scope.names.lookup y.1=some .local\/(scope.names.lookup y.1=some .cell/\((cellsFrom (s.heap.objs.size+1) scope.names []).lookup y.1).isSome=true):=λ⟨n,v⟩ hy=>by
  rcases S.par n (ZN hy).1 with q|q
  ·exact .inl q
  ·exact .inr ⟨q,ZE _ _ _ (.inl q)⟩
 refine codeAny_call_function hr.depth (KX _ _ lk) rfl S.co S.gen rfl (PySem.W.codeRec_of KX hcd) (hb _ _ _ _ ?_);refine wpAny_newFunctionEnv_cells S.kind hkind λenv he s1 x=>?_;subst he;refine⟨lim.keeps x.toInCall.keep,codeAny_func ?_⟩;obtain⟨t,ht,hq⟩:=hbody A outer s H vs Q E (hr.deeper _) hsp;have I:Inv (zBV CX P w K mg base N qual scope f cdv A outer s H E) [] (start N vs) H s1:=qaN S hr.hd e0 hl r x;refine wpAny_mono (ht [] s1 (start N vs) H _ I hq) (λfl s' hs=>?_) λe s' hs=>hs;have fin:∀ {σ':St} {H':Hp} {v:V} {u:Value},Inv (zBV CX P w K mg base N qual scope f cdv A outer s H E) [] σ' H' s'->RelV v u->Q v H'->CE outer P w H s Q u s' :=
  λ{σ' H' v u} J rv q=>⟨v,H',J.os,J.bare,J.base,J.hok,rv,q⟩
 cases fl with
 | ret u =>
  obtain⟨v,σ',H',J,rv,q⟩:=hs;exact fin J rv q
 | next =>
  obtain⟨σ',H',J,q⟩:=hs;exact fin (v:=V.non) (u:=Value.none) J rfl q
 | brk =>
  obtain⟨_,_,_,q⟩:=hs;exact False.elim q
 | cont =>
  obtain⟨_,_,_,q⟩:=hs;exact False.elim q
section
variable {X:Cx} {x:Str} {p pos:Pos} {e:Expr} {es:List Expr} {t:TA} {id T:String} {r:List V->Hp->VK->Prop}
noncomputable def tCB(r:List V->Hp->VK->Prop)(t:TA):TE:=λσ H Q=>t σ H λvs H1=>r vs H1 Q
theorem q1b(hc:Xl X (.builtin id) r)(hg:Gl X x)(hm:X.mg x=none)(hv:bootBuiltins x=some (.builtin id))(ha:PA X (e::es) t)(hn:x ≠ "__name__" := by decide)(hdb:(x == ("__debug__" : Str))=false:=by decide)
  (he:starEach (e::es) X.env=(false,eval e X.env)::starEach es X.env:=by rfl) (hpl:(backTo pos (starEach es X.env)).any (·.1)=false:=by rfl):PE X (.Call (.Name x p) (e::es) [] pos) (tCB r t):=by
 intro pins s σ H Q I h;refine wpAny_Call_Name_kw (q0l I hg hm hv ?_ hn hdb);exact PyProof.Rows.callWith_builtin1 (thn (ha pos pins s σ H _ I h) λus s1 ⟨vs,H1,I1,r1,q1⟩=>hc pins s1 σ H1 vs us Q I1 r1 q1) he hpl
theorem q5V(hc:Xl X (.type T) r)(hg:Gl X x)(hm:X.mg x=none)(hv:bootBuiltins x=some (.type T))(ha:PA X (e::es) t)(hn:x ≠ "__name__" := by decide)(hdb:(x == ("__debug__" : Str))=false:=by decide)
  (he:starEach (e::es) X.env=(false,eval e X.env)::starEach es X.env:=by rfl) (hpl:(backTo pos (starEach es X.env)).any (·.1)=false:=by rfl):PE X (.Call (.Name x p) (e::es) [] pos) (tCB r t):=by
 intro pins s σ H Q I h;refine wpAny_Call_Name_kw (q0l I hg hm hv ?_ hn hdb);exact PyProof.Rows.callWith_type1 (thn (ha pos pins s σ H _ I h) λus s1 ⟨vs,H1,I1,r1,q1⟩=>hc pins s1 σ H1 vs us Q I1 r1 q1) he hpl
end
end L2
namespace HT
open PySem PyProof.Rows
section
open PySem.SeqAt
open PySem.AutoSeq1 (wpAny_loadPart')
open PySem.MeetsSeq PySem.MeetsSeq2 PySem.MeetsSeq3
end
section
variable {prog:Program} {w:World} {A:Around} {E:Value->Shared->Prop} {s:Shared}
theorem qeb{t b:Addr}{vs ws:List Value}{Q:Value->Shared->Prop}(ht:IsTup s.heap t vs.toArray)(hb:IsTup s.heap b ws.toArray)(hv:vs≠[])
  (h1:ws=[]->Q (.ref t) s) (h2:ws≠[]->Q (.ref s.heap.objs.size) { s with heap:=s.heap.push { cls:=.type "tuple", data:=.seq (vs++ws).toArray } })
  (hsz:vs.length+ws.length <= sizeLine):wpAny (model prog w) A (binaryOp .Add (.ref t) (.ref b)) Q E s:=by
 obtain⟨⟨cls,dd,data,sl⟩,ho,hc,n,hd⟩:=id ht;obtain⟨⟨cls2,dd2,data2,sl2⟩,ho2,hc2,n2,hd2⟩:=id hb;simp only at hc hd hc2 hd2;subst hc hd hc2 hd2;have e:vs.toArray++ws.toArray=(vs++ws).toArray:=by simp
 by_cases hw:ws=[]
 ·exact concat_meets ⟨_,ho,rfl⟩ ⟨_,ho2,rfl⟩ noFill_tuple_add seq_tuple_add PySem.F.slot_tuple_add PySem.F.entry_tuple_add (PySem.F.args_tuple_add_2 _ _)
   (tuple_addW1 t b vs.toArray ws.toArray n n2 dd dd2 sl sl2 (by simpa using hv) (by simp[hw])) ⟨ho,ho2,h1 hw⟩
 ·refine concat_meets ⟨_,ho,rfl⟩ ⟨_,ho2,rfl⟩ noFill_tuple_add seq_tuple_add PySem.F.slot_tuple_add PySem.F.entry_tuple_add (PySem.F.args_tuple_add_2 _ _)
   (tuple_addW2 t b vs.toArray ws.toArray n n2 dd dd2 sl sl2 (by simpa using hv) (by simpa using hw) (by rw[zP,zP];exact hsz)) ⟨ho,ho2,?_⟩
  rw[e];exact h2 hw
noncomputable def sIx(n d:Nat):Option Int->Nat
 | none=>d
 | some v=>if v < 0 then (v+(n:Int)).toNat else min v.toNat n
theorem q44(n d:Nat):sIx n d none=d:=rfl
theorem q57(n d k:Nat):sIx n d (some (k:Int))=min k n:=by
 show (if (k:Int) < 0 then ((k:Int)+(n:Int)).toNat else min (k:Int).toNat n)=min k n;rw[if_neg (by omega),yh]
theorem qfX(n d:Nat)(hd:d <= n)(o:Option Int):sIx n d o <= n:=by
 cases o with
 | none=>exact hd
 | some v =>
  show (if v < 0 then (v+(n:Int)).toNat else min v.toNat n) <= n
  by_cases hv:v < 0
  ·rw[if_pos hv];omega
  ·rw[if_neg hv];exact YF _ _
theorem q93(v:Int)(n d:Nat):(if v < 0 then max (v+(n:Int)) 0 else min v (n:Int))=((sIx n d (some v):Nat):Int):=by
 show (if v < 0 then max (v+(n:Int)) 0 else min v (n:Int))=(((if v < 0 then (v+(n:Int)).toNat else min v.toNat n):Nat):Int)
 by_cases hv:v < 0
 ·simp only[if_pos hv];omega
 ·simp only[if_neg hv];omega
theorem qa7(lo hi:Option Int)(n:Nat):Builtin.Slice.sliceAdjust lo hi 1 (n:Int)=(((sIx n 0 lo:Nat):Int),((sIx n n hi:Nat):Int)):=by
 have h1:¬((1:Int) < 0):=by omega
 unfold Builtin.Slice.sliceAdjust;simp only[h1,if_false];refine Prod.ext ?_ ?_
 ·cases lo with
  | none=>rfl
  | some v=>exact q93 v n 0
 ·cases hi with
  | none=>rfl
  | some v=>exact q93 v n n
theorem q9E(i j:Nat):Builtin.Slice.slicePlaces (i:Int) (j:Int) 1=j - i:=by
 unfold Builtin.Slice.slicePlaces;have h1:(1:Int) > 0:=by omega
 simp only[h1,if_true,Int.ediv_one]
 split <;> omega
theorem q4F{v:Value}{o:Option Int}{Q:Option Int->Shared->Prop}(p:IsPart v o)(h:Q o s):wpAny (model prog w) A (Builtin.Slice.slicePartIndex v) Q E s:=by
 cases p with
 | none=>exact slicePart_none h
 | int i t=>exact slicePart_int h
theorem q1R{sl:Addr}{vl vu:Value}{lo hi:Option Int}{n:Nat}{Q:Int×Int×Nat->Shared->Prop}(hs:s.heap.IsSliceOf sl vl vu .none)(pl:IsPart vl lo)(pu:IsPart vu hi)
  (h:Q (((sIx n 0 lo:Nat):Int),1,sIx n n hi - sIx n 0 lo) s):wpAny (model prog w) A (Builtin.Slice.sliceApplied (.ref sl) (pure (n:Int))) Q E s:=by
 obtain⟨os,hos,hcs,hds⟩:=id hs;unfold Builtin.Slice.sliceApplied Builtin.Slice.sliceFields;refine wpAny_bind (wpAny_bind (wpAny_field hos hds (x:=vl) rfl (wpAny_bind (wpAny_field hos hds (x:=vu) rfl (wpAny_bind (wpAny_field hos hds (x:=.none) rfl (wpAny_pure ?_)))))));refine wpAny_bind (slicePart_none ?_);show wpAny _ _ (if ((1:Int) == 0)=true then _ else _) _ _ s;rw[if_neg (by decide)];refine wpAny_bind (q4F pl (wpAny_bind (q4F pu (wpAny_bind (wpAny_pure ?_)))));show wpAny _ _ (match Builtin.Slice.sliceAdjust lo hi 1 (n:Int) with|(lo,hi)=>pure (lo,(1:Int),Builtin.Slice.slicePlaces lo hi 1)) _ _ s;rw[qa7 lo hi n];show wpAny _ _ (pure (((sIx n 0 lo:Nat):Int),(1:Int),Builtin.Slice.slicePlaces ((sIx n 0 lo:Nat):Int) ((sIx n n hi:Nat):Int) 1)) _ _ s;rw[q9E];exact wpAny_pure h
theorem qcV(xs:Array Value)(i k:Nat):((zf k).filterMap λ(m:Nat)=>xs[((i:Int)+(m:Int)*1).toNat]?).toArray=((xs.toList.drop i).take k).toArray:=by
 have e:(λ(m:Nat)=>xs[((i:Int)+(m:Int)*1).toNat]?)=λm=>xs[i+m]?:=by
  funext m
  have:((i:Int)+(m:Int)*1).toNat=i+m:=by omega
  rw[this]
 rw[e];have:=pick_run xs i k;rw[Zt] at this;have e2:((λx=>xs[x]?) ∘ λx=>i+x)=λm=>xs[i+m]?:=rfl;rw[e2] at this;rw[this]
theorem q3D{t sl:Addr}{items:Array Value}{vl vu:Value}{lo hi:Option Int}{Q:Value->Shared->Prop}(ht:IsTup s.heap t items)(hs:s.heap.IsSliceOf sl vl vu .none)(pl:IsPart vl lo)(pu:IsPart vu hi)
  (hw:¬(sIx items.size 0 lo=0/\sIx items.size items.size hi=items.size))
  (h:Q (.ref s.heap.objs.size) { s with heap:=s.heap.push { cls:=.type "tuple", data:=.seq ((items.toList.drop (sIx items.size 0 lo)).take (sIx items.size items.size hi - sIx items.size 0 lo)).toArray } })
  (hsz:items.size <= sizeLine):wpAny (model prog w) A (getItem (.ref t) (.ref sl)) Q E s:=by
 have htake:sizeOk (.seq ((items.toList.drop (sIx items.size 0 lo)).take (sIx items.size items.size hi - sIx items.size 0 lo)).toArray):=by
  show ((items.toList.drop (sIx items.size 0 lo)).take (sIx items.size items.size hi - sIx items.size 0 lo)).toArray.size <= sizeLine;rw[zP,zd,yE,zM];omega
 have hj:sIx items.size items.size hi <= items.size:=qfX _ _ (zJ _) hi;obtain⟨os,hos,hcs,hds⟩:=id hs;have hTs:s.TypeIs (.ref sl) "slice" := ⟨os,hos,hcs⟩;unfold getItem
 try with_reducible refine wpAny_holding ?_
 first|refine wpAny_bind (wpAny_pure ?_)|skip
 refine wpAny_bind (wpAny_sequenceKey ht.typeIs (by decide) ?_);refine wpAny_bind (wpAny_callSpecial?_slot (name:=Str.ofString "__getitem__") ht.typeIs PyProof.Rows.slot_tuple_getitem
  (wpAny_call_entry PyProof.Rows.slot_tuple_getitem ht.typeIs entry_tuple_getitem ?_ (args_tuple_getitem _ _)))
 show wpAny _ _ (Builtin.Tuple.tupleItemsOf (.ref t) >>= _) _ _ s;refine wpAny_bind (tupleItemsOf_ ht ?_);refine wpAny_bind (wpAny_typeOf hTs ?_);rw[if_pos (by decide)];refine wpAny_bind (q1R hs pl pu ?_);have hno:¬((((sIx items.size 0 lo:Nat):Int) == 0 && (1:Int) == 1 && (sIx items.size items.size hi - sIx items.size 0 lo) == items.size)=true):=by
  intro q;rw[yI,yI] at q;have q1:((sIx items.size 0 lo:Nat):Int)=0:=eq_of_beq q.1.1;have q2:sIx items.size items.size hi - sIx items.size 0 lo=items.size:=eq_of_beq q.2;exact hw ⟨by omega,by omega⟩
 show wpAny _ _ (if (((sIx items.size 0 lo:Nat):Int) == 0 && (1:Int) == 1 && (sIx items.size items.size hi - sIx items.size 0 lo) == items.size)=true then _ else _) _ _ s;rw[if_neg hno,qcV]
 first
  | exact wpAny_bind (m:=Builtin.Tuple.tupleExact _) (wpAny_newObj_type (wpAny_pure ⟨_,rfl,wpAny_pure h⟩) htake)
  | exact wpAny_bind (m:=Builtin.Tuple.tupleExact _) (wpAny_newObj_type (wpAny_bind (wpAny_pure (wpAny_pure ⟨_,rfl,wpAny_pure h⟩))) htake)
  | exact wpAny_bind (wpAny_bind (m:=Builtin.Tuple.tupleExact _) (wpAny_newObj_type (wpAny_pure (wpAny_pure ⟨_,rfl,wpAny_pure h⟩)) htake))
  | exact wpAny_bind (wpAny_bind (m:=Builtin.Tuple.tupleExact _) (wpAny_newObj_type (wpAny_pure ⟨_,rfl,wpAny_pure h⟩) htake))
end
end HT
namespace L2
open PySem PySem.Spec PyProof.Rows
abbrev TO:=St->Hp->(Option Int->Hp->Prop)->Prop
def PO(X:Cx)(e:Option Expr)(t:TO):Prop :=
 ∀ (pins:List (Addr×Obj)) (s:Shared) (σ:St) (H:Hp) (Q:Option Int->Hp->Prop),Inv X pins σ H s->t σ H Q ->
  wpAny (model X.prog X.w) X.A (evalPart e X.env) (λu s'=>∃ o H',Inv X pins σ H' s'/\IsPart u o/\Q o H') X.xe s
noncomputable def zCL:TO:=λ_ H Q=>Q none H
noncomputable def tPart(t:TE):TO:=λσ H Q=>t σ H λx H1=>∃ i,x=.int i/\Q (some i) H1
theorem q2s{ns:List Int}:∀ {us:List Value},Y2 (ns.map V.int) us->IntsAre us ns:=by
 induction ns with
 | nil=>intro us r;rw[yc] at r;cases r;exact .nil
 | cons n ns ih =>
  intro us r;rw[zg] at r;cases r with
  | cons r1 r2 =>
   obtain⟨t,e⟩:=r1;subst e;exact .cons n t (ih r2)
section
variable {X:Cx} {e:Expr} {te:TE} {lo hi:Option Expr} {tl th:TO} {pos p2:Pos}
theorem qdS:PO X none zCL:=by
 intro pins s σ H Q I h;rw[evalPart_none];exact wpAny_pure ⟨none,H,I,.none,h⟩
theorem qe7(h:PE X e te):PO X (some e) (tPart te):=by
 intro pins s σ H Q I hw;rw[evalPart_some];refine thn (h pins s σ H _ I hw) λu s1 ⟨x,H1,I1,r1,q1⟩=>?_;obtain⟨i,rfl,q⟩:=q1;obtain⟨t,rfl⟩:=r1;exact⟨some i,H1,I1,.int i t,q⟩
def SlR(X:Cx)(r:V->Option Int->Option Int->Hp->VK->Prop):Prop :=
 ∀ (pins:List (Addr×Obj)) (s:Shared) (σ:St) (H:Hp) (x:V) (v vl vu:Value) (lo hi:Option Int) (sl:Addr) (Q:VK),Inv X pins σ H s->RelV x v->s.heap.IsSliceOf sl vl vu .none->IsPart vl lo->IsPart vu hi->r x lo hi H Q ->
  ∃ T id,typeLookup (.type T) "__getitem__" = pure (some (.builtin id))/\s.TypeIs v T/\wpAny (model X.prog X.w) X.A (getItem v (.ref sl)) (EP X pins σ Q) X.xe s
theorem SlR.or{r r':V->Option Int->Option Int->Hp->VK->Prop}(h:SlR X r)(h':SlR X r'):SlR X (λx lo hi H Q=>r x lo hi H Q\/r' x lo hi H Q):=by
 intro pins s σ H x v vl vu lo hi sl Q I rx hs pl pu q;rcases q with q|q
 ·exact h pins s σ H x v vl vu lo hi sl Q I rx hs pl pu q
 ·exact h' pins s σ H x v vl vu lo hi sl Q I rx hs pl pu q
noncomputable def tSl(r:V->Option Int->Option Int->Hp->VK->Prop)(te:TE)(tl th:TO):TE:=λσ H Q=>te σ H λx H1=>tl σ H1 λl H2=>th σ H2 λu H3=>r x l u H3 Q
theorem qcr{r:V->Option Int->Option Int->Hp->VK->Prop}(hr:SlR X r)(he:PE X e te)(hl:PO X lo tl)(hu:PO X hi th):PE X (.Subscript e (.Slice lo hi none p2) pos) (tSl r te tl th):=by
 intro pins s σ H Q I h;refine Subscript_ (thn (he pins s σ H _ I h) λv s1 ⟨x,H1,I1,r1,q1⟩=>?_);refine wpAny_Slice (thn (hl pins s1 σ H1 _ I1 q1) λvl s2 ⟨l,H2,I2,pl,q2⟩=>thn (hu pins s2 σ H2 _ I2 q2) λvu s3 ⟨u,H3,I3,pu,q3⟩=>?_);rw[evalPart_none];refine wpAny_pure ?_;have I4:Inv X pins σ H3 { s3 with heap:=s3.heap.push { cls:=.type "slice", data:=.fields #[vl,vu,.none] } }:=I3.kept (t':=s3.toks) λb ob q=>zE _ q;obtain⟨T,id,hT,ht,hg⟩:=hr pins { s3 with heap:=s3.heap.push { cls:=.type "slice", data:=.fields #[vl,vu,.none] } } σ H3 x v vl vu l u s3.heap.objs.size Q I4 r1 (Yd ..) pl pu q3;show wpAny (model X.prog X.w) X.A (subscriptTail e (.Slice lo hi none p2) v (.ref s3.heap.objs.size)) (EP X pins σ Q) X.xe { s3 with heap:=s3.heap.push { cls:=.type "slice", data:=.fields #[vl,vu,.none] } };exact tail_any (ops:=[.ref s3.heap.objs.size,v]) ht hT hg (by with_unfolding_all rfl)
noncomputable def zA2(xs:List V)(lo hi:Option Int):List V:=(xs.drop (HT.sIx xs.length 0 lo)).take (HT.sIx xs.length xs.length hi - HT.sIx xs.length 0 lo)
theorem q3G(xs:List V)(lo hi:Option Int):(zA2 xs lo hi).length <= xs.length:=by
 unfold zA2;rw[zd,yE];omega
def rSlT(K:zA):V->Option Int->Option Int->Hp->VK->Prop:=λx lo hi H Q=>∃ a xs,x=.ref a/\SqT K H a xs /\
 ¬(HT.sIx xs.length 0 lo=0/\HT.sIx xs.length xs.length hi=xs.length)/\∀ p,H p=none->Q (.ref p) (upd H p (.tup (zA2 xs lo hi)))
theorem qfn:SlR X (rSlT X.K):=by
 intro pins s σ H x v vl vu lo hi sl Q I rx hs pl pu h;obtain⟨a,xs,rfl,hx,hw,q⟩:=h;cases rx;obtain⟨its,r,ht,hz⟩:=I.tuple hx;have hlen:its.toArray.size=xs.length:=by rw[zP];exact r.length.symm
 refine⟨"tuple", _,PyProof.Rows.slot_tuple_getitem.lookup,ht.typeIs,?_⟩;refine HT.q3D ht hs pl pu (by rw[hlen];exact hw) ?_ (by rw[hlen];exact hz);rw[hlen];refine⟨.ref s.heap.objs.size,_,I.laid (t':=s.toks) (o:=.tup (zA2 xs lo hi)) (λb ob q=>zE _ q) (zJ _) ?_,rfl,q _ (I.hok.fresh (zJ _))⟩;exact⟨yG (q3G xs lo hi) hz,_,(r.drop (HT.sIx xs.length 0 lo)).take (HT.sIx xs.length xs.length hi - HT.sIx xs.length 0 lo),IsTup.new _ _⟩
noncomputable def rCatT(K:zA):R2:=λx y H Q=>∃ a b xs ys,x=.ref a/\y=.ref b/\SqT K H a xs/\SqT K H b ys/\xs≠[]/\xs.length+ys.length <= sizeLine /\
 (ys=[]->Q (.ref a) H)/\(ys≠[]->∀ p,H p=none->Q (.ref p) (upd H p (.tup (xs++ys))))
theorem Y2.nil_iff{xs:List V}{us:List Value}(r:Y2 xs us):us=[]↔xs=[]:=by
 cases r with
 | nil=>simp
 | cons _ _=>simp
theorem qdO:OpR X (binaryOp .Add) (rCatT X.K):=by
 intro pins s σ H x y v u Q I rx ry h;obtain⟨a,b,xs,ys,rfl,rfl,ha,hb,hx,hz,q1,q2⟩:=h;cases rx;cases ry;obtain⟨its,r1,p1,_⟩:=I.tuple ha;obtain⟨its2,r2,p2,_⟩:=I.tuple hb;refine HT.qeb p1 p2 (λz=>hx (r1.nil_iff.mp z)) (λz=>⟨.ref a,H,I,rfl,q1 (r2.nil_iff.mp z)⟩) (λz=>?_) (by rw[<- r1.length,<- r2.length];exact hz);refine⟨.ref s.heap.objs.size,_,I.laid (t':=s.toks) (o:=.tup (xs++ys)) (λb ob q=>zE _ q) (zJ _) ?_,rfl,q2 (λw=>z (r2.nil_iff.mpr w)) _ (I.hok.fresh (zJ _))⟩;exact⟨by rw[zC];exact hz,_,r1.append r2,IsTup.new _ _⟩
end
noncomputable def ixN(n:Nat)(i:Int):Option Nat:=if 0 <= i then (if i < n then some i.toNat else none) else if -(n:Int) <= i then some (i+n).toNat else none
noncomputable def atI{α:Type}(xs:List α)(i:Int):Option α:=(ixN xs.length i).bind λj=>xs[j]?
theorem qep{n:Nat}{i:Int}{j:Nat}(h:ixN n i=some j):seqIndex? i n=some j/\j < n/\-(n:Int) <= i/\i < n:=by
 unfold ixN at h
 by_cases h0:0 <= i
 ·rw[if_pos h0] at h
  by_cases h1:i < n
  ·rw[if_pos h1] at h
   have e:i.toNat=j:=zw h;exact⟨by rw[seqIndex_of h0 h1,e],by omega,by omega,h1⟩
  ·rw[if_neg h1] at h;cases h
 ·rw[if_neg h0] at h
  by_cases h1:-(n:Int) <= i
  ·rw[if_pos h1] at h
   have e:(i+n).toNat=j:=zw h;exact⟨by rw[seqIndex_neg (by omega) h1,e],by omega,h1,by omega⟩
  ·rw[if_neg h1] at h;cases h
theorem q5x{α:Type}{xs:List α}{i:Int}{v:α}(h:atI xs i=some v):∃ j,seqIndex? i xs.length=some j/\xs[j]?=some v/\j < xs.length/\-(xs.length:Int) <= i/\i < xs.length:=by
 unfold atI at h;cases e:ixN xs.length i with
 | none=>rw[e] at h;cases h
 | some j =>
  rw[e] at h;obtain⟨h1,h2,h3,h4⟩:=qep e;exact⟨j,h1,h,h2,h3,h4⟩
def zAE(b:Expr):Prop:=∀ o i,subscripted b false o i=operate [o,i] (getItem o i)
def IxR(X:Cx)(r:R2):Prop :=
 ∀ (value slice:Expr) (pins:List (Addr×Obj)) (s:Shared) (σ:St) (H:Hp) (x y:V) (v u:Value) (Q:VK),Inv X pins σ H s->RelV x v->RelV y u->r x y H Q ->
  subscripted slice false v u=operate [v,u] (getItem v u)->wpAny (model X.prog X.w) X.A (subscriptTail value slice v u) (EP X pins σ Q) X.xe s
def MtR(X:Cx)(id:String)(r:V->List V->Hp->VK->Prop):Prop :=
 ∀ (pins:List (Addr×Obj)) (s:Shared) (σ:St) (H:Hp) (x:V) (xs:List V) (v:Value) (us:List Value) (Q:VK),Inv X pins σ H s->RelV x v->Y2 xs us->r x xs H Q ->
  wpAny (model X.prog X.w) X.A (call (.builtin id) (v::us)) (EP X pins σ Q) X.xe s
section
variable {X:Cx} {a b:Expr} {ta tb:TE} {pos:Pos}
theorem IxR.or{r r':R2}(h:IxR X r)(h':IxR X r'):IxR X (λx y H Q=>r x y H Q\/r' x y H Q):=by
 intro value slice pins s σ H x y v u Q I rx ry q hs;rcases q with q|q
 ·exact h value slice pins s σ H x y v u Q I rx ry q hs
 ·exact h' value slice pins s σ H x y v u Q I rx ry q hs
theorem qgp{r:R2}(hr:IxR X r)(ha:PE X a ta)(hb:PE X b tb)(hs:zAE b):PE X (.Subscript a b pos) (tOp r ta tb):=by
 intro pins s σ H Q I h;exact Subscript_ (binT ha hb I h λv u s2 x y H2 I2 rx ry q=>hr a b pins s2 σ H2 x y v u Q I2 rx ry q (hs _ _))
noncomputable def rIxL(K:zA):R2:=λx y H Q=>∃ p xs i v,x=.ref p/\y=.int i/\SqL K H p xs/\atI xs i=some v/\Q v H
noncomputable def rIxT(K:zA):R2:=λx y H Q=>∃ p xs i v,x=.ref p/\y=.int i/\SqT K H p xs/\atI xs i=some v/\Q v H
noncomputable def rIxS:R2:=λx y H Q=>∃ z i c,x=.str z/\y=.int i/\z.length <= sizeLine/\atI z.cps.toList i=some c/\Q (.str ⟨#[c]⟩) H
theorem qdV:IxR X (rIxL X.K):=by
 intro value slice pins s σ H x y v u Q I rx ry h hs;obtain⟨p,xs,i,z,rfl,rfl,hq,he,q⟩:=h;cases rx;obtain⟨t,rfl⟩:=ry;obtain⟨its,r,pl,hz⟩:=I.list hq;obtain⟨j,h1,h2,h3,h4,h5⟩:=q5x he;obtain⟨w,ew,rw'⟩:=r.get h2;have hl:=r.length;have hn:=WW;have fin:EP X pins σ Q w s:=⟨z,H,I,rw',q⟩
 by_cases h0:0 <= i
 ·have hj:i.toNat=j:=by
   rw[seqIndex_of h0 h5] at h1;exact zw h1
  exact item_listR pl.isList h0 (by omega) (by rw[hj];simpa using ew) fin hs
 ·have hj:(i+(its.toArray.size:Int)).toNat=j:=by
   rw[seqIndex_neg (by omega) h4] at h1;rw[zP,<- hl];exact zw h1
  exact subscriptTail_builtinR (x:=w) pl.isList.typeIs slot_list_getitem.lookup
   (wpAny_getItem_list_neg (Q:=λr s'=>r=w/\EP X pins σ Q r s') pl.isList (by omega) (by rw[zP] <;> omega) (by omega) (by rw[hj];simpa using ew) ⟨rfl,fin⟩) hs
theorem qfV:IxR X (rIxT X.K):=by
 intro value slice pins s σ H x y v u Q I rx ry h hs;obtain⟨p,xs,i,z,rfl,rfl,hq,he,q⟩:=h;cases rx;obtain⟨t,rfl⟩:=ry;obtain⟨its,r,pl,hz⟩:=I.tuple hq;obtain⟨j,h1,h2,h3,h4,h5⟩:=q5x he;obtain⟨w,ew,rw'⟩:=r.get h2;have hl:=r.length;have hn:=WW;have fin:EP X pins σ Q w s:=⟨z,H,I,rw',q⟩;exact subscriptTail_builtinR (x:=w) pl.typeIs slot_tuple_getitem.lookup
  (getItem_tuple (j:=j) (Q:=λr s'=>r=w/\EP X pins σ Q r s') pl (by omega) (by omega) (by rw[zP,<- hl];exact h1) (by simpa using ew) ⟨rfl,fin⟩) hs
theorem qfq:IxR X rIxS:=by
 intro value slice pins s σ H x y v u Q I rx ry h hs;obtain⟨z,i,c,rfl,rfl,hz,he,q⟩:=h;obtain⟨t,rfl⟩:=rx;obtain⟨t',rfl⟩:=ry;obtain⟨j,h1,h2,h3,h4,h5⟩:=q5x he;have hl:z.cps.toList.length=z.length:=by simp[Str.length]
 rw[hl] at h1 h4 h5;have hn:=WW;exact tail_any (typeIs_str s z t) slot_str_getitem.lookup (getItem_str (c:=c) (by
  have e1:decide (i < -(2 ^ 63:Int))=false:=decide_eq_false (by omega);have e2:decide (i >= 2 ^ 63)=false:=decide_eq_false (by omega);rw[e1,e2,xy]) (by rw[h1];simpa using h2) ⟨.str ⟨#[c]⟩,H,I.tok _,⟨_,rfl⟩,q⟩) hs
noncomputable def rIx(K:zA):R2:=λx y H Q=>rIxL K x y H Q\/rIxT K x y H Q\/rIxS x y H Q
theorem qfL:IxR X (rIx X.K):=qdV.or (qfV.or qfq)
theorem Inv.lst{pins:List (Addr×Obj)}{σ:St}{H:Hp}{s:Shared}{p:Addr}{xs:List V}(I:Inv X pins σ H s)(h:H p=some (.lst xs)) :
  ∃ (its:List Value) (n:Nat),Y2 xs its/\s.heap.get? p=some { cls:=.type "list", data:=.seq its.toArray n }/\xs.length <= sizeLine:=by
 obtain⟨z,its,n,r,e⟩:=I.hok p _ h;exact⟨its,n,r,e,z⟩
theorem q6C(lo hi:Option Int)(n:Nat):(sliceBounds lo hi none n).1=((HT.sIx n 0 lo:Nat):Int)/\(sliceBounds lo hi none n).2.1=((HT.sIx n n hi:Nat):Int)/\(sliceBounds lo hi none n).2.2=1:=by
 refine⟨?_,?_,rfl⟩
 ·cases lo with
  | none=>simp[sliceBounds,HT.sIx]
  | some i =>
   simp only[sliceBounds,HT.sIx,YG,show (1:Int) > 0 by decide,if_true]
   by_cases h:i < 0
   ·simp only[h,if_true] <;> omega
   ·simp only[h,if_false] <;> omega
 ·cases hi with
  | none=>simp[sliceBounds,HT.sIx]
  | some i =>
   simp only[sliceBounds,HT.sIx,YG,show (1:Int) > 0 by decide,if_true]
   by_cases h:i < 0
   ·simp only[h,if_true] <;> omega
   ·simp only[h,if_false] <;> omega
theorem q6l(its:List Value)(lo hi:Option Int):slicePick its.toArray lo hi none=((its.drop (HT.sIx its.length 0 lo)).take (HT.sIx its.length its.length hi - HT.sIx its.length 0 lo)).toArray:=by
 obtain⟨h1,h2,h3⟩:=q6C lo hi its.toArray.size;unfold slicePick;rw[h1,h2,h3];simp only[sliceRange_one,pick_run,zP] <;> rfl
def rSlL(K:zA):V->Option Int->Option Int->Hp->VK->Prop:=λx lo hi H Q=>∃ a xs,x=.ref a/\SqL K H a xs/\∀ p,H p=none->Q (.ref p) (upd H p (.lst (zA2 xs lo hi)))
theorem qdB:SlR X (rSlL X.K):=by
 intro pins s σ H x v vl vu lo hi sl Q I rx hs pl pu h;obtain⟨a,xs,rfl,hx,q⟩:=h;cases rx;obtain⟨its,r,ht,hz⟩:=I.list hx;have hlen:=r.length;refine⟨"list", _,slot_list_getitem.lookup,ht.isList.typeIs,?_⟩;refine wpAny_getItem_list_slice ht.isList hs pl pu .none (by simp) ?_ (by rw[zP] <;> omega);rw[q6l,<- hlen];refine⟨.ref s.heap.objs.size,_,I.laid (t':=s.toks) (o:=.lst (zA2 xs lo hi)) (λb ob q=>zE _ q) (zJ _) ?_,rfl,q _ (I.hok.fresh (zJ _))⟩;exact⟨yG (q3G xs lo hi) hz,_,0,(r.drop (HT.sIx xs.length 0 lo)).take (HT.sIx xs.length xs.length hi - HT.sIx xs.length 0 lo),zR _ rfl⟩
theorem qm:Xl X (.builtin "len") (λxs H Q=>∃ p ys,xs=[.ref p]/\(SqL X.K H p ys\/SqT X.K H p ys)/\Q (.int ys.length) H):=by
 intro pins s σ H xs us Q I r h;obtain⟨p,ys,rfl,hq,q⟩:=h;obtain⟨u,rfl,rx⟩:=vals1 r;cases rx;have hn:=WW;rcases hq with hq|hq
 ·obtain⟨its,r',pl,hz⟩:=I.list hq
  have hlen:=r'.length;exact Calls.call_len_list pl.isList (by simp only[zP] <;> omega) ⟨.int ys.length,H,I.tok _,⟨s.toks+1,by rw[zP,hlen]⟩,q⟩
 ·obtain⟨its,r',pl,hz⟩:=I.tuple hq
  have hlen:=r'.length;exact len_tuple pl (by simp only[zP] <;> omega) ⟨.int ys.length,H,I.tok _,⟨s.toks+1,by rw[zP,hlen]⟩,q⟩
theorem q7y:Xl X (.type "list") (λxs H Q=>∃ p ys,xs=[.ref p]/\(SqL X.K H p ys\/SqT X.K H p ys)/\∀ l,H l=none->Q (.ref l) (upd H l (.lst ys))):=by
 intro pins s σ H xs us Q I r h;obtain⟨p,ys,rfl,hq,q⟩:=h;obtain⟨u,rfl,rx⟩:=vals1 r;cases rx;have fin:∀ (its:List Value),Y2 ys its->ys.length <= sizeLine->∀ (h':Heap) (c':Nat),(∀ b o',s.heap.get? b=some o'->h'.get? b=some o') ->
   h'.get? s.heap.objs.size=some { cls:=.type "list", dict:=none,data:=.seq its.toArray c',slots:=#[] }->EP X pins σ Q (.ref s.heap.objs.size) { s with heap:=h' }:=λits r' hz h' c' kp e =>
  ⟨.ref s.heap.objs.size,_,I.laid (t':=s.toks) kp (zJ _) (show Y3 X.prog X.w _ h' _ (.lst ys) from ⟨hz,its,c',r',e⟩),rfl,q _ (I.hok.fresh (zJ _))⟩
 rcases hq with hq|hq
 ·obtain⟨its,r',pl,hz⟩:=I.list hq
  have hlen:=r'.length;obtain⟨o,ho,hc,n,hd⟩:=pl.isList;exact call_list_seq p (.inl rfl) ho hc hd (λh' c' kp e=>fin its r' hz h' c' kp e) (by simp only[zP] <;> omega)
 ·obtain⟨its,r',pl,hz⟩:=I.tuple hq
  have hlen:=r'.length;obtain⟨o,ho,hc,n,hd⟩:=pl;exact call_list_seq p (.inr rfl) ho hc hd (λh' c' kp e=>fin its r' hz h' c' kp e) (by simp only[zP] <;> omega)
def tyV(K:zA)(T:String)(x:V)(H:Hp):Prop:=match x with
 | .str _=>T = "str"
 | .int _=>T = "int"
 | .ref p=>(T = "list" /\ ∃ xs,SqL K H p xs)\/(T = "tuple" /\ ∃ o,K.lookup p=some o/\o.cls=.type "tuple" /\ o.dict=none) \/
   (T = "dict" /\ ((∃ kvs,H p=some (.dK kvs))\/∃ kvs,H p=some (.dT kvs)))\/(T = "set" /\ ∃ S n,H p=some (.set S n))
 | _=>False
theorem qaS{pins:List (Addr×Obj)}{σ:St}{H:Hp}{s:Shared}{T:String}{x:V}{v:Value}(I:Inv X pins σ H s)(r:RelV x v)(ty:tyV X.K T x H) :
  s.TypeIs v T/\∀ a,v=.ref a->∃ ob,s.heap.get? a=some ob/\ob.dict=none:=by
 cases x with
 | str z =>
  obtain⟨t,rfl⟩:=r;cases (show T = "str" from ty);exact⟨typeIs_str s z t,λ_ e=>nomatch e⟩
 | int i =>
  obtain⟨t,rfl⟩:=r;cases (show T = "int" from ty);exact⟨typeIs_int s i t,λ_ e=>nomatch e⟩
 | ref p =>
  cases r;rcases ty with⟨rfl,xs,hq⟩|⟨rfl,o,hk,hc,hd⟩|⟨rfl,hk⟩|⟨rfl,S,n,hk⟩
  ·obtain⟨its,_,pl,_⟩:=I.list hq
   refine⟨pl.isList.typeIs,λa e=>?_⟩;cases e;obtain⟨o,n,e,c,hd,_⟩:=pl;exact⟨o,e,hd⟩
  ·refine⟨⟨o,I.kIn p o hk,hc⟩,λa e=>?_⟩
   cases e;exact⟨o,I.kIn _ o hk,hd⟩
  ·have z:∃ o,s.heap.get? p=some o/\o.ExactDict:=by
    rcases hk with⟨kvs,hk⟩|⟨kvs,hk⟩
    ·obtain⟨_,_,_,_,o,_,_,e,ex,_⟩:=I.hok p _ hk
     exact⟨o,e,ex⟩
    ·obtain⟨_,_,_,_,o,_,_,e,ex,_⟩:=I.hok p _ hk
     exact⟨o,e,ex⟩
   obtain⟨o,e,ex⟩:=z;refine⟨⟨o,e,ex.1⟩,λa e2=>?_⟩;cases e2;exact⟨o,e,ex.2.1⟩
  ·obtain⟨o,_,_,_,e,ex,_⟩:=I.hok p _ hk
   refine⟨⟨o,e,ex.1⟩,λa e2=>?_⟩;cases e2;exact⟨o,e,ex.2.1⟩
 | _=>exact False.elim ty
noncomputable def tBM0(K:zA)(T:String)(r:V->List V->Hp->VK->Prop)(to:TE):TE:=λσ H Q=>to σ H λx H1=>tyV K T x H1/\r x [] H1 Q
noncomputable def tBM(K:zA)(T:String)(r:V->List V->Hp->VK->Prop)(to:TE)(t:TA):TE:=λσ H Q=>to σ H λx H1=>tyV K T x H1/\t σ H1 λxs H2=>r x xs H2 Q
variable {o e:Expr} {es:List Expr} {to:TE} {t:TA} {name:Str} {apos cpos:Pos} {T id:String} {r:V->List V->Hp->VK->Prop}
theorem q7o(pa:PlainAttrs T)(slot:Slot T name id)(hty:typeOf (.builtin id)=pure (.type "method_descriptor"))(hm:MtR X id r)(ho:PE X o to)
  (hbase:attributeBase o name X.env (eval o X.env)=eval o X.env:=by rfl) (hline:(apos.endLine == cpos.line)=true:=by rfl):PE X (.Call (.Attribute o name apos) [] [] cpos) (tBM0 X.K T r to):=by
 intro pins s σ H Q I h;refine wpAny_Call_method0_late hbase hline (thn (ho pins s σ H _ I h) λv s1 ⟨x,H1,I1,r1,ty,q1⟩=>?_);obtain⟨h1,h2⟩:=qaS I1 r1 ty;exact⟨T,id,pa,slot,hty,h1,h2,Calls.callWith_builtin rfl (PySem.evalArgs_none (hm pins s1 σ H1 x [] v [] Q I1 r1 .nil q1))⟩
theorem q1Z(pa:PlainAttrs T)(slot:Slot T name id)(hty:typeOf (.builtin id)=pure (.type "method_descriptor"))(hm:MtR X id r)(ho:PE X o to)(ha:PA X (e::es) t)
  (hbase:attributeBase o name X.env (eval o X.env)=eval o X.env:=by rfl)
  (hfew:((backTo cpos (starEach (e::es) X.env)).all (λx=>!x.1) && (backToKw cpos (keywordEach [] X.env)).all (λx=>x.1.isSome)
   && decide ((e::es).length+([]:List Keyword).length+(if ([]:List Keyword).isEmpty then 0 else 1) < 30))=true:=by rfl)
  (hline:(apos.endLine == cpos.line)=true:=by rfl) (hs:starEach (e::es) X.env=(false,eval e X.env)::starEach es X.env:=by rfl) (hplain:(backTo cpos (starEach es X.env)).any (·.1)=false:=by rfl) :
  PE X (.Call (.Attribute o name apos) (e::es) [] cpos) (tBM X.K T r to t):=by
 intro pins s σ H Q I h;refine wpAny_Call_method_late hbase hfew hline rfl (thn (ho pins s σ H _ I h) λv s1 ⟨x,H1,I1,r1,ty,q1⟩=>?_);obtain⟨h1,h2⟩:=qaS I1 r1 ty;refine⟨T,id,pa,slot,hty,h1,h2,?_⟩;have hA:=ha cpos pins s1 σ H1 _ I1 q1;rw[hs] at hA ⊢;refine Calls.callWith_builtin (by show (false || (backTo cpos (starEach es X.env)).any (·.1))=false;rw[hplain] <;> rfl) (Calls.evalArgs_plain ?_);exact thn hA λus s2 ⟨vs,H2,I2,r2,q2⟩=>hm pins s2 σ H2 x vs v us Q I2 r1 r2 q2
/- xs.append(e),list.index on a module's tuple .. are MtR facts of 06m -/
end
def MtM(X:Cx)(id:String)(r:V->List V->Hp->VK->Prop):Prop :=
 ∀ (pins:List (Addr×Obj)) (s:Shared) (σ:St) (H:Hp) (x:V) (xs:List V) (v:Value) (us:List Value) (Q:VK),Inv X pins σ H s->RelV x v->Y2 xs us->r x xs H Q ->
  wpAny (model X.prog X.w) X.A (call (.builtin id) (v::us)) (EP X pins σ Q) X.xe s
theorem Y2.one:∀ {x:V} {us:List Value},Y2 [x] us->∃ u,us=[u]/\RelV x u
 | _,_,.cons r .nil=>⟨_,rfl,r⟩
theorem Y2.zero:∀ {us:List Value},Y2 [] us->us=[]
 | _,.nil=>rfl
theorem Y2.dropLast{xs:List V}{us:List Value}(h:Y2 xs us):Y2 xs.dropLast us.dropLast:=by
 induction h with
 | nil=>exact .nil
 | cons r t ih =>
  cases t with
  | nil=>exact .nil
  | cons q t'=>exact .cons r ih
theorem Y2.reverse{xs:List V}{us:List Value}(h:Y2 xs us):Y2 xs.reverse us.reverse:=by
 induction h with
 | nil=>exact .nil
 | cons r t ih=>rw[wk,wk];exact Y2.append ih (.cons r .nil)
theorem Y2.rep{xs:List V}{us:List Value}(h:Y2 xs us):∀ k:Nat,Y2 (zh k xs).flatten (zh k us).flatten
 | 0=>.nil
 | k+1=>by
  rw[yA,yA,yC,yC];exact Y2.append h (Y2.rep h k)
theorem qa8{α:Type}(l:List α):l.eraseIdx (l.length - 1)=l.dropLast:=by
 induction l with
 | nil=>rfl
 | cons a r ih =>
  cases r with
  | nil=>rfl
  | cons b r =>
   have e:(a::b::r).length - 1=((b::r).length - 1)+1:=by
    have h1:(a::b::r).length=r.length+2:=rfl;have h2:(b::r).length=r.length+1:=rfl;omega
   rw[e,List.eraseIdx_cons_succ,ih]
   all_goals rfl
theorem q5Q(its:List Value):∀ (k:Nat) (acc:List Value),
  ZF (λx1 x2=>x1++x2) acc.toArray (zh k its.toArray)=(acc++(zh k its).flatten).toArray
 | 0,acc=>by simp
 | k+1,acc=>by
  have e:acc.toArray++its.toArray=(acc++its).toArray:=by simp
  have e2:(acc++its)++(zh k its).flatten=acc++(zh (k+1) its).flatten:=by
   rw[yA,yC,zK]
  rw[<- e2,<- q5Q its k (acc++its),<- e,yA,YM]
section
variable {X:Cx} {pins:List (Addr×Obj)} {σ:St} {H:Hp} {s:Shared} {l b:Addr} {xs ys zs:List V}
theorem Inv.lset{its its':List Value}{n:Nat}{f:Array Value->Array Value}{t':Nat}(I:Inv X pins σ H s)(hH:H l=some (.lst xs))
  (e:s.heap.get? l=some { cls:=.type "list", data:=.seq its.toArray n }) (hf:f its.toArray=its'.toArray) (hv:Y2 ys its') (hz:ys.length <= sizeLine) :
  Inv X pins σ (upd H l (.lst ys)) { s with heap:=s.heap.update l (Obj.mapSeq f),toks:=t' }:=by
 have q:=PySem.IsL.update e f;rw[hf] at q;refine I.write (x:=l) (e:=l) (by rw[hH];exact trivial) (.inl rfl) (λb' u hb hu=>(zk s.heap (Obj.mapSeq f) (Ne.symm hb)).trans hu) ⟨_,q⟩ ?_;exact⟨hz,its',_,hv,q⟩
theorem Inv.lnew{its:List Value}{t':Nat}(I:Inv X pins σ H s)(hv:Y2 ys its)(hz:ys.length <= sizeLine) :
  Inv X pins σ (upd H s.heap.objs.size (.lst ys)) { s with heap:=s.heap.push { cls:=.type "list", data:=.seq its.toArray },toks:=t' } :=
 I.laid (λ_ _ q=>zE _ q) (zJ _) ⟨hz,its,0,hv,zR _ rfl⟩
theorem Inv.fresh(I:Inv X pins σ H s):H s.heap.objs.size=none:=I.hok.fresh (zJ _)
theorem Inv.lstM(I:Inv X pins σ H s)(hH:H l=some (.lst xs)):xs.length <= sizeLine/\∃ (its:List Value) (n:Nat),Y2 xs its/\xs.length=its.length/\s.heap.get? l=some { cls:=.type "list", data:=.seq its.toArray n }:=by
 obtain⟨z,its,n,r,e⟩:=I.hok l _ hH;exact⟨z,its,n,r,r.length,e⟩
theorem Wa{n:Nat}(h:n <= sizeLine):Builtin.List.listTooLong n=false:=by
 unfold Builtin.List.listTooLong;exact decide_eq_false (by omega)
end
section
variable {X:Cx}
def Xw:V->List V->Hp->VK->Prop:=λx vs H Q=>∃ l xs y,x=.ref l/\vs=[y]/\H l=some (.lst xs)/\xs.length < sizeLine/\Q .non (upd H l (.lst (xs++[y])))
theorem q0n:MtM X "list.append" Xw:=by
 intro pins s σ H x vs v us Q I rx rv h;obtain⟨l,xs,y,rfl,rfl,hH,hz,q⟩:=h;cases rx;obtain⟨u,rfl,ru⟩:=rv.one;obtain⟨z,its,n,r,hl,e⟩:=I.lstM hH;refine call_meets F.slot_list_append ⟨_,e,rfl⟩ F.entry_list_append (F.args_list_append_2 _ _) (PySem.list_append l its.toArray n u (by rw[zP];omega)) ⟨e,?_⟩;refine⟨.non,_,I.lset (its':=its++[u]) hH e (by simp) (r.append (.cons ru .nil)) ?_,rfl,q⟩;rw[zC,zU];omega
def zA6:V->List V->Hp->VK->Prop:=λx vs H Q=>∃ l b xs zs,x=.ref l/\vs=[.ref b]/\H l=some (.lst xs)/\H b=some (.lst zs)/\xs.length+zs.length <= sizeLine/\Q .non (upd H l (.lst (xs++zs)))
theorem qaA:MtM X "list.extend" zA6:=by
 intro pins s σ H x vs v us Q I rx rv h;obtain⟨l,b,xs,zs,rfl,rfl,hH,hB,hz,q⟩:=h;cases rx;obtain⟨u,rfl,ru⟩:=rv.one;cases ru;obtain⟨z,its,n,r,hl,e⟩:=I.lstM hH;obtain⟨z2,its2,n2,r2,hl2,e2⟩:=I.lstM hB;have hsz:its.toArray.size+its2.toArray.size <= sizeLine:=by rw[zP,zP];omega
 have hlong:¬(!its.toArray.isEmpty && Builtin.List.listTooLong (its.toArray.size+its2.toArray.size))=true:=by
  rw[Wa hsz,ym];exact yo
 refine call_meets F.slot_list_extend ⟨_,e,rfl⟩ F.entry_list_extend (F.args_list_extend_2 _ _)
  (AutoSeq1.list_extend_list_list_0 l its.toArray n b its2.toArray n2 hlong (by rw[zP];omega) (by omega)) ⟨e,e2,?_⟩
 refine⟨.non,_,I.lset (its':=its++its2) hH e (by simp) (r.append r2) ?_,rfl,q⟩;rw[zC];omega
def rPop:V->List V->Hp->VK->Prop:=λx vs H Q=>∃ l xs y,x=.ref l/\vs=[]/\H l=some (.lst xs)/\xs[xs.length - 1]?=some y/\Q y (upd H l (.lst xs.dropLast))
theorem q7P:MtM X "list.pop" rPop:=by
 intro pins s σ H x vs v us Q I rx rv h;obtain⟨l,xs,y,rfl,rfl,hH,hy,q⟩:=h;cases rx;have hus:=rv.zero;subst hus;obtain⟨z,its,n,r,hl,e⟩:=I.lstM hH;obtain⟨u,hu,ru⟩:=r.get hy;have hy':its.toArray[its.toArray.size - 1]?=some u:=by
  show its.toArray[its.length - 1]?=some u;rw[<- zZ,<- hl];exact hu
 refine call_meets F.slot_list_pop ⟨_,e,rfl⟩ F.entry_list_pop (F.args_list_pop_1 _) (MeetsSeq.list_pop_last l its.toArray n u hy' (by rw[zP];omega)) ⟨e,?_⟩;refine⟨y,_,I.lset (its':=its.dropLast) hH e ?_ r.dropLast ?_,ru,q⟩
 ·show its.toArray.eraseIdxIfInBounds (its.toArray.size - 1)=its.dropLast.toArray
  rw[zP,List.eraseIdxIfInBounds_toArray,qa8]
 ·rw[List.length_dropLast]
  omega
noncomputable def rCat:R2:=λx y H Q=>∃ l b xs zs,x=.ref l/\y=.ref b/\H l=some (.lst xs)/\H b=some (.lst zs)/\xs.length+zs.length <= sizeLine/\∀ p,H p=none->Q (.ref p) (upd H p (.lst (xs++zs)))
theorem qfH:OpR X (binaryOp .Add) rCat:=by
 intro pins s σ H x y v u Q I rx ry h;obtain⟨l,b,xs,zs,rfl,rfl,hH,hB,hz,q⟩:=h;cases rx;cases ry;obtain⟨z,its,n,r,hl,e⟩:=I.lstM hH;obtain⟨z2,its2,n2,r2,hl2,e2⟩:=I.lstM hB;refine PySem.P.add_list e e2 ?_ (by rw[zP,zP];omega);have ea:its.toArray++its2.toArray=(its++its2).toArray:=by simp
 rw[ea];exact⟨.ref _,_,I.lnew (t':=s.toks) (r.append r2) (by rw[zC];omega),rfl,q _ I.fresh⟩
noncomputable def rRep:R2:=λx y H Q=>∃ l k xs,x=.ref l/\y=.int k/\H l=some (.lst xs)/\-(2 ^ 63) <= k/\k < 2 ^ 63/\xs.length*k.toNat <= sizeLine /\
 ∀ p,H p=none->Q (.ref p) (upd H p (.lst (zh k.toNat xs).flatten))
theorem qdY{α:Type}(xs:List α)(k:Nat):(zh k xs).flatten.length=k*xs.length:=by
 induction k with
 | zero=>simp
 | succ k ih=>rw[yA,yC,zC,ih,Nat.succ_mul,Nat.add_comm]
theorem qf0:OpR X (binaryOp .Mult) rRep:=by
 intro pins s σ H x y v u Q I rx ry h;obtain⟨l,k,xs,rfl,rfl,hH,h1,h2,hz,q⟩:=h;cases rx;obtain⟨t,rfl⟩:=ry;obtain⟨z,its,n,r,hl,e⟩:=I.lstM hH;have hlen:its.toArray.size*k.toNat <= sizeLine:=by rw[zP,<- hl];exact hz
 have hcap:¬its.toArray.size*k.toNat > (2 ^ 63 - 1) / 8:=by
  have:(sizeLine:Nat) <= (2 ^ 63 - 1) / 8:=by decide
  omega
 have hfit:¬(!Builtin.List.listFitsIndex k)=true:=by
  rw[fitsIndex_both h1 h2];exact yo
 have hlong:¬Builtin.List.listTooLong (its.toArray.size*k.toNat)=true:=by
  rw[Wa hlen];exact yo
 have hnew:ZF (λx1 x2=>x1++x2) #[] (zh (if its.toArray.isEmpty=true then 0 else k.toNat) its.toArray)=(zh k.toNat its).flatten.toArray:=by
  have f0:∀ m:Nat,ZF (λx1 x2=>x1++x2) #[] (zh m its.toArray)=(zh m its).flatten.toArray:=λm=>by
   have:=q5Q its m [];rw[yF] at this;exact this
  rw[f0];cases its with
  | nil=>simp
  | cons a r'=>rw[if_neg (by simp)]
 refine wpAny_binaryOp_repeat_ref (T := "list") (U := "int") (by decide) ⟨_,e,rfl⟩ (λs'=>typeIs_int s' k t) noFill_list_mul F.fills_int_mul F.slot_int_rmul repeat_list F.slot_int_index.lookup
  (call_meets F.slot_int_rmul (typeIs_int s k t) F.entry_int_rmul (F.args_int_rmul_2 _ _) (int___rmul___int_list k t l its.toArray n)
   ⟨e,rfl,⟨_,e,rfl⟩,call_meets F.slot_list_mul ⟨_,e,rfl⟩ F.entry_list_mul (F.args_list_mul_2 _ _) (AutoListH.list___mul___list_int_3 l its.toArray n k t hfit hcap hlong) ⟨e,?_⟩⟩)
 rw[hnew];exact⟨.ref _,_,I.lnew (t':=s.toks) (r.rep k.toNat) (by rw[qdY,Nat.mul_comm];exact hz),rfl,q _ I.fresh⟩
end
section
variable {prog:Program} {w:World} {A:Around} {E:Value->Shared->Prop} {s:Shared}
end
section
variable {X:Cx}
end
end L2
namespace Att
open PySem PySem.W PySem.Calls PyProof.Rows
theorem WJ{P:Params}{h:Heap}:∀ (ns:List Int) (vs:List Value),WellAll P h vs (ns.map WData.int)->IntsAre vs ns:=by
 intro ns
 induction ns with
 | nil =>
  intro vs w;rw[yc] at w;cases w;exact .nil
 | cons n ns ih =>
  intro vs w;rw[zg] at w;cases w with
  | cons a b =>
   cases a;exact .cons _ _ (ih _ b)
theorem zAx{l:OpenLaw}{n:Nat}(hn:l.most=some n){P:Params}{h:Heap}{args:List WData}{vals:List Value}
  (hpre:l.row.toRowW.claim.pre args=true) (hwl:WellAll P h vals args) :
  ∃ a vs ns,vals=[Value.ref a]/\args=[WData.list (ns.map WData.int)]/\h.get? a=some { cls:=.type "list", data:=.seq vs.toArray }/\IntsAre vs ns/\ns.length <= n:=by
 have hsh:WShape.hasAll [] args [.list .int]=true:=(pre_splitW hpre).1;have hc:l.pre.holds [] { args:=args }=true:=(pre_splitW hpre).2;obtain⟨d,r,rfl,h1,h2⟩:=hasAllW_cons hsh;obtain rfl:=hasAllW_nil h2;obtain⟨xs,rfl,h3⟩:=hasW_list h1;obtain⟨ns,rfl⟩:=items_int h3;have hlen:ns.length <= n:=by
  unfold OpenLaw.pre at hc;have h4:(WTm.not (.lt (.lit (.int (n:Int))) (.len (.arg 0)))).holds [] { args:=[.list (ns.map .int)] }=true:=by
   have h4:=(holds_andW hc).1;rw[hn] at h4;exact h4
  have h5:=condW_of h4 (w_not (w_lt w_lit (w_len_list (w_arg rfl))));rw[zB] at h5;refine Nat.le_of_not_lt λq=>?_;have q':(n:Int) < ((ns.length:Nat):Int):=by omega
  first
   | (rw[decide_eq_true q'] at h5;exact absurd h5 (by decide))
   | (simp at h5;omega)
 cases hwl with
 | cons w1 w2 =>
  cases w2;cases w1 with
  | list ho hall=>exact⟨_,_,ns,rfl,rfl,ho,WJ ns _ hall,hlen⟩
theorem zBQ(l:OpenLaw)(args:List WData):l.row.toRowW.claim.post args (.bool true) args=true :=
 postW_of (r:=l.row.toRowW) (X:=(true == true))
  (show WShape.has [] (.bool true) .bool=true by first|rfl|decide|simp[WShape.has,WShape.arms,WShape.armsAll])
  (show (WTm.eq .res (.lit (.bool true))).value [] { args:=args,res:=some (.bool true),after:=args }=some (.bool (true == true)) from w_eq_bool (w_res rfl) w_lit) rfl
theorem attach_call{l:OpenLaw}{n:Nat}{q:Program}{loose:List Str}{XP:(Str->Option Value)->Heap->Prop}{YP:World->Heap->Prop}{d:DefRec}
  (hn:l.most=some n) (hdf:d.params.defaults=[])
  (call:∀ (w:World) (s₀ s₁:Shared) (mg mb:Str->Option Value) (fa:Addr) (o:Obj) (pm cd doc:Value) (a:Addr) (vs:List Value) (ns:List Int),
   Ground q loose [] XP w s₀ mg mb s₁.heap->YP w s₁.heap ->
   s₁.heap.get? fa=some o->o.data=.func (docDef d.name d.params d.body d.scope pm cd doc)->s₁.heap.CodeRec cd d.name->mg d.name=some (.ref fa) ->
   s₁.heap.get? a=some { cls:=.type "list", data:=.seq vs.toArray }->IntsAre vs ns->ns.length <= n->s₁.gens=#[] ->
   codeAny (model l.prog w) callerA (.call (.ref fa) ⟨[.ref a],[]⟩) (λr s'=>r=.ok (.ret (.bool true))/\OldK s₁.heap s'.heap/\s'.os=s₁.os/\AllBare s'.gens) s₁) :
  WalkO q loose XP YP l.row.toRowW d [] (λf vs=>PySem.call f vs):=by
 intro w s₀ s₁ mg mb G Y fa o pm cd doc dV kV ho hd hcd hD hmg hg args vals as hpre hlay hrd hwl hlo;obtain rfl:dV=.none:=Dflts.none hD hdf;obtain rfl:kV=.none:=Dflts.noKw hD;obtain⟨a,vs,ns,rfl,rfl,hobj,zAc,hlen⟩:=zAx hn hpre hwl;refine enter_call (codeAny_mono (call w s₀ s₁ mg mb fa o pm cd doc a vs ns G Y ho (fd_plain hd) hcd hmg hobj zAc hlen hg) λr s' hq=>?_);obtain⟨rfl,h2,h3,h4⟩:=hq;exact⟨.inl ⟨.bool true,.bool true,[],rfl,λ_=>rfl,.bool true,zBQ l _,λ_=>⟨xD,λ_ hm=>(nomatch hm)⟩⟩,h2,h3,h4⟩
section
variable {prog:Program} {w:World} {A:Around} {E:Value->Shared->Prop} {s:Shared} {K:Frag}
end
end Att
namespace L2
open PySem PySem.Spec PyProof.Rows
theorem q0F:∀ {vs:List Value} {ns:List Int},IntsAre vs ns->Y2 (ns.map V.int) vs
 | _,_,.nil=>.nil
 | _,_,.cons n t h=>.cons ⟨t,rfl⟩ (q0F h)
def Only(H:Hp):Prop:=∀ b,H b=none\/∃ o xs,H b=some (.frz o (.lst xs))
theorem qcE{P:Program}{w:World}{K:zA}{mg mb:Str->Option Value}{CX:CXT}{k:Nat}{fa a:Addr}{fd:FuncData}{x:Str}{sp:Sp}{s₁:Shared}{vs:List Value}{ns:List Int}
  (KX:K.In s₁.heap) (hns:s₁.heap.Ns mainGlobals mg) (hb:s₁.heap.Ns builtinsNs mb) (hbb:∀ x:Str,x ≠ "__name__" -> mb x=bootBuiltins x) (hlim:s₁.heap.NoLimit) (hg:s₁.gens=#[])
  (ha:s₁.heap.get? a=some { cls:=.type "list", data:=.seq vs.toArray }) (hi:IntsAre vs ns) (hl:ns.length <= sizeLine) (hr:Room k callerA)
  (F:∀ base:Heap,K.In base->base.Ns mainGlobals mg->FnOk P w K mg base CX k fa fd [x] sp) (hbind:∀ (s:Shared) (u:Value),BindsTo s fd ⟨[u],[]⟩ [(x,u)])
  (hsp:∀ H:Hp,Only H->SqL K H a (ns.map V.int)->sp [.ref a] H (λv _=>v=.bl true) λ_ _ _=>False)
  (hCX:∀ H e s',CX [] H s₁ (λ_ _ _=>False) e s'->False) :
  codeAny (model P w) callerA (.call (.ref fa) ⟨[.ref a],[]⟩) (λr s'=>r=.ok (.ret (.bool true))/\OldK s₁.heap s'.heap/\s'.os=s₁.os/\AllBare s'.gens) s₁:=by
 have rv:=q0F hi;have lenV:=hi.length;have core:∀ H:Hp,Only H->SqL K H a (ns.map V.int)->HOk P w H s₁.heap->(∀ b,H b≠none->b=a)->(H a≠none->K.lookup a=none) ->
   codeAny (model P w) callerA (.call (.ref fa) ⟨[.ref a],[]⟩) (λr s'=>r=.ok (.ret (.bool true))/\OldK s₁.heap s'.heap/\s'.os=s₁.os/\AllBare s'.gens) s₁:=by
  intro H hO hS hok hA hK;have base_of:∀ {b:Addr} {o:Obj},s₁.heap.get? b=some o->H b=none->(zBg s₁.heap H).get? b=some o:=λe n=>qck e n;have noA:∀ {b:Addr} {o:Obj} {es:Array DictEntry} {ep:Nat},s₁.heap.get? b=some o->o.data=.dict es ep->H b=none:=λ{b o es ep} e d=>by
   cases q:H b with
   | none=>rfl
   | some u =>
    have e':b=a:=hA b (by rw[q];simp);subst e';rw[ha] at e;cases e;have d':Data.seq vs.toArray _=Data.dict es ep:=d;cases d'
  have nsK:∀ {b:Addr} {m:Str->Option Value},s₁.heap.Ns b m->(zBg s₁.heap H).Ns b m:=λ{b m} ⟨o,es,ep,e,d,r⟩=>⟨o,es,ep,base_of e (noA e d),d,r⟩;have hKb:K.In (zBg s₁.heap H):=λb o e=>base_of (KX b o e) (by
   cases q:H b with
   | none=>rfl
   | some u =>
    have e':b=a:=hA b (by rw[q];simp);subst e';rw[hK (by rw[q];simp)] at e;cases e)
  have hM:Mod K mg (zBg s₁.heap H):=⟨hKb,nsK hns,⟨mb,nsK hb,hbb⟩,let ⟨mc,h1,h2⟩:=hlim;⟨mc,nsK h1,h2⟩⟩;have e0:Env0 P w K mg (zBg s₁.heap H) callerA [] s₁ H:=⟨rfl,hM,λb o e=>qei e,Nat.le_of_eq (qaQ _ _),trivial,λb hb=>absurd (show b∈([]:List Addr) from hb) (by simp),hok,.of_eq hg⟩;refine codeAny_mono ((F _ hKb (nsK hns)).run callerA [] s₁ H ⟨[.ref a],[]⟩ [.ref a] [.ref a] _ _ hr e0 (hbind s₁ (.ref a)) (.cons rfl .nil) (hsp H hO hS)) λr s' h=>?_;cases r with
  | error e=>exact(hCX H e s' h).elim
  | ok fl =>
   cases fl with
   | next=>exact False.elim h
   | brk=>exact False.elim h
   | cont=>exact False.elim h
   | ret u =>
    obtain⟨v,H',os,bare,un,hok',r',q⟩:=h;have q':v=.bl true:=q;subst q';obtain rfl:u=Value.bool true:=r';refine⟨rfl,OldK.of_keep λb o e=>?_,os,bare⟩;cases q:H b with
    | none=>exact un.keep b o e q (by intro z;exact absurd (show b∈([]:List Addr) from z) (by simp)) (by simp)
    | some u =>
     rcases hO b with z|⟨ob,xs,z⟩
     ·rw[q] at z;cases z
     ·have z2:=un.frzs b ob _ z
      obtain⟨e1,_⟩:=hok b _ z;obtain⟨e2,_⟩:=hok' b _ z2;rw[e] at e1;cases e1;exact e2
 cases hk:K.lookup a with
 | some o =>
  have e:=KX a o hk;rw[ha] at e;cases e;refine core (λ_=>none) (λ_=>.inl rfl) (.inr ⟨_,vs.toArray,_,hk,rfl,rfl,rfl,by rw[zP,lenV];exact hl,by simpa using rv⟩) (λb u z=>by have z':(none:Option HO)=some u:=z;cases z') (λb z=>absurd rfl z) λz=>absurd rfl z
 | none =>
  refine core (λb=>if b=a then some (.frz { cls:=.type "list", data:=.seq vs.toArray } (.lst (ns.map V.int))) else none) (λb=>?_) (.inl (.inr ⟨{ cls:=.type "list", data:=.seq vs.toArray },if_pos rfl⟩)) (λb u z=>?_) (λb z=>?_) λ_=>hk
  ·by_cases hb:b=a
   ·exact .inr ⟨_,_,if_pos hb⟩
   ·exact .inl (if_neg hb)
  ·by_cases hb:b=a
   ·have z':=(if_pos hb).symm.trans z
    cases z';subst hb;exact⟨ha,by rw[zB];exact hl,vs,_,rv,ha⟩
   ·have z':=(if_neg hb).symm.trans z
    cases z'
  ·by_cases hb:b=a
   ·exact hb
   ·exact absurd (if_neg hb) z
noncomputable abbrev KOf{K:zA}{h:Heap}(_:K.In h):zA:=K
theorem q9b{l:ZO}{n k:Nat}{q:Program}{loose:List Str}{XP:(Str->Option Value)->Heap->Prop}{YP:World->Heap->Prop}{d:DefRec}{K:Params->zA}{CX:World->CXT}{sp:World->Sp}{x:Str}
  (hn:l.most=some n) (hn2:n <= sizeLine) (hdf:d.params.defaults=[]) (hr:Room k callerA)
  (hY:∀ (w:World) (h:Heap),YP w h->(K w.params).In h)
  (F:∀ (w:World) (mg:Str->Option Value) (fa:Addr) (h:Heap),(K w.params).In h->h.Ns mainGlobals mg->mg d.name=some (.ref fa) ->
   ∃ fd:FuncData,(∀ (s:Shared) (u:Value),BindsTo s fd ⟨[u],[]⟩ [(x,u)]) /\
    ∀ base:Heap,(K w.params).In base->base.Ns mainGlobals mg->FnOk l.prog w (K w.params) mg base (CX w) k fa fd [x] (sp w))
  (hsp:∀ (w:World) (H:Hp) (a:Addr) (ns:List Int),ns.length <= n->Only H->SqL (K w.params) H a (ns.map V.int)->sp w [.ref a] H (λv _=>v=.bl true) λ_ _ _=>False)
  (hCX:∀ (w:World) (H:Hp) (s:Shared) (e:Value) (s':Shared),CX w [] H s (λ_ _ _=>False) e s'->False) :
  YZ q loose XP YP l.row.toRowW d [] (λf vs=>PySem.call f vs):=by
 refine Att.attach_call hn hdf λw s₀ s₁ mg mb fa o pm cd doc a vs ns G Y ho hd hcd hmg hobj zAc hlen hg=>?_;have KX:=hY w _ Y;obtain⟨fd,hb,hF⟩:=F w mg fa _ KX G.T.g hmg;exact qcE KX G.T.g G.T.b G.T.builtins G.T.nolimit hg hobj zAc (yG hlen hn2) hr hF hb (λH hO hS=>hsp w H a ns hlen hO hS) λH e s'=>hCX w H s₁ e s'
end L2
/- THE LAST THEOREM (shape;LID,My.* are yours):
  My.Adr: a structure of the addresses that your layer names (classes,functions);My.Txt K t: a structure (Prop) of the equations over K;
  My.txt_mk:{K} {implicit addresses ..} (e1:nsIn K mainGlobals "law" = some (some (.ref f))) (e2:K.lookup f=some ⟨oc,od,.func (fnOf "law" "law" params body scope dV kV doc pm an cdv ct),sl⟩) (e3:codeIn K cdv "law" = true) ..:∃ t,My.Txt K t
set_option maxRecDepth 100000 in
set_option maxHeartbeats 0 in
theorem PySem.Challenge.cw_LID_holds : PySem.Challenge.rw_LID.Holds := by
 w_on;o_law;k_head;(case hw=>w_witness2)
 k_fill
 refine L2.q9b (l:=PySem.Challenge.rw_LID) (n:=63) (k:=40) (x := "script") (CX:=λw=>..) (sp:=λ_=>My.sp_law) rfl (by decide) rfl ⟨rfl,by decide,by decide⟩ (λw h Y=>YS Y) ?F ?S ?C
 case F =>
  intro w mg fa h KX G hmg;have T:∃ t,My.Txt (L2.KOf KX) t:=by
   dsimp only[L2.KOf]                          -- K must stand as «<heap const> w.params» for k_is
   refine' My.txt_mk ?e1 ?e2 ?e3 ..
   (case e1=>PySem.W.k_is)                    -- in the order: a name->its address->its object->its parts
   (case e2=>PySem.W.k_is)
   ..
  obtain⟨t,T⟩:=T;have e0:=hmg.symm.trans (wq KX G T.law);cases e0                                       -- fa is the law's own address;exact⟨_,λs u=>.of_eq rfl,λbase kb nb=>My.law_fn T kb nb⟩     -- if «.of_eq rfl» comes too early: refine' ⟨_,?b,λbase kb nb=>My.law_fn T kb nb⟩;exact λs u=>.of_eq rfl
 case S=>exact λw H a ns hl hO hS=>..
 case C=>exact ..
(the tactic k_is has no namespace: write k_is) -/
namespace L2
open PySem PySem.Spec PyProof.Rows
noncomputable def Xm(s:Stmt):Arguments:=match s with
 | .FunctionDef _ a _ _ _ _ _ _ _ _=>a
 | _=>{ posonlyargs:=[],args:=[],vararg:=none,kwonlyargs:=[],kw_defaults:=[],kwarg:=none,defaults:=[] }
noncomputable def Xb(s:Stmt):List Stmt:=match s with
 | .FunctionDef _ _ b _ _ _ _ _ _ _=>b
 | _=>[]
noncomputable def Yj(s:Stmt):Scope:=match s with
 | .FunctionDef _ _ _ _ _ _ sc _ _ _=>sc
 | _=>{ kind:=.function,names:=[],isGenerator:=false,isCoroutine:=false }
noncomputable abbrev CX0:CXT:=λ_ _ _ _ _ _=>False
noncomputable abbrev E0:XK:=λ_ _ _=>False
theorem pass0{X:Cx}:zAZ CX0 X E0:=λ_ _ _ _ _ _ _ h=>h.elim
structure Fun (K:zA) (x qual:Str) (st:Stmt) (f:Addr) (fd:FuncData):Prop where
 ex:∃ (oc:Value) (od:Option Addr) (kV doc pm:Value) (an:Option Addr) (cdv ct:Value) (osl:Array (Option Value)),
  fd=xY x qual (Xm st) (Xb st) (Yj st) .none kV doc pm an cdv ct/\K.lookup f=some ⟨oc,od,.func fd,osl⟩/\wU K cdv qual=true
 kp:xk K (.ref f)=true
section
variable {P:Program} {w:World} {K:zA} {mg:Str->Option Value} {base:Heap}
theorem Fun.ok{x qual:Str}{st:Stmt}{f:Addr}{fd:FuncData}{N ps:List Str}{k:Nat}{sp:Sp}(F:Fun K x qual st f fd)(S:FnScope N ps (Yj st))(len:∀ vs H Q E,sp vs H Q E->vs.length=ps.length)
  (hbody:∀ (cdv:Value) (A:Around) (outer:List Env) (s:Shared) (H:Hp) (vs:List V) (Q:VK) (E:XK),Room k (A.deeper (envOfC qual (Yj st) s.heap.objs.size f cdv))->sp vs H Q E ->
   ∃ t,PSs (zBV CX0 P w K mg base N qual (Yj st) f cdv A outer s H E).nox (Xb st) t/\t { nx:=λ_ H'=>Q .non H',rt:=Q } (start N vs) H):FnOk P w K mg base CX0 (k+1) f fd ps sp:=by
 obtain⟨oc,od,kV,doc,pm,an,cdv,ct,osl,rfl,lk,hcd⟩:=F.ex;refine qg8 lk hcd S len λA outer s H vs Q E hr hsp=>?_;obtain⟨t,h,q⟩:=hbody cdv A outer s H vs Q E hr hsp;exact⟨t,h.nox,q⟩
theorem Fun.binds{x qual:Str}{st:Stmt}{f:Addr}{fd:FuncData}{ps:List Str}(F:Fun K x qual st f fd)
  (h:∀ (kV doc pm:Value) (an:Option Addr) (cdv ct:Value) (us:List Value),us.length=ps.length->bindArgs (xY x qual (Xm st) (Xb st) (Yj st) .none kV doc pm an cdv ct) ⟨us,[]⟩=pure (ps.zip us)):Binds K fd ps []:=by
 obtain⟨oc,od,kV,doc,pm,an,cdv,ct,osl,rfl,lk,hcd⟩:=F.ex;exact .all (h kV doc pm an cdv ct)
theorem qf4{x qual:Str}{st:Stmt}{f:Addr}{oc:Value}{od an:Option Addr}{osl:Array (Option Value)}{kV doc pm cdv ct:Value}(l:K.lookup f=some ⟨oc,od,.func (xY x qual (Xm st) (Xb st) (Yj st) .none kV doc pm an cdv ct),osl⟩)
  (c:wU K cdv qual=true) (k:xk K (.ref f)=true):Fun K x qual st f (xY x qual (Xm st) (Xb st) (Yj st) .none kV doc pm an cdv ct):=⟨⟨oc,od,kV,doc,pm,an,cdv,ct,osl,rfl,l,c⟩,k⟩
end
theorem zBH{n:Nat}(h:n <= 1000):n < sizeLine:=Zu h (by decide)
section
variable {X:Cx}
theorem pv(i:Nat){x:Str}{pos:Pos}(hN:X.N[i]?=some x:=by rfl)(hv:Vis X.env.scope x:=by first|exact Or.inl rfl|exact Or.inr (Or.inl rfl)|exact Or.inr (Or.inr rfl))(hd:(x == ("__debug__" : Str))=false:=by decide)
  (hcd:(x == ("__classdict__" : Str))=false:=by decide):PE X (.Name x pos) (XF i):=qf5 hN hv hd hcd
end
def Yz(H H':Hp):Prop:=∀ b o,H b=some o->H' b=some o
theorem Yz.refl(H:Hp):Yz H H:=λ_ _ h=>h
theorem Yz.trans{H H1 H2:Hp}(a:Yz H H1)(b:Yz H1 H2):Yz H H2:=λc o h=>b c o (a c o h)
theorem Yz.free{H H':Hp}(e:Yz H H'){l:Addr}(h:H' l=Yc):H l=Yc:=by
 cases q:H l with
 | none=>rfl
 | some o =>
  rw[e l o q] at h;cases h
theorem Yz.seq{K:zA}{H H':Hp}{a:Addr}{xs:List V}(e:Yz H H')(h:SqL K H a xs):SqL K H' a xs:=by
 rcases h with (h|⟨o,h⟩)|h
 ·exact .inl (.inl (e _ _ h))
 ·exact .inl (.inr ⟨o,e _ _ h⟩)
 ·exact .inr h
end L2
namespace Hk
open PySem
def zAl(xs:Array Nat):Prop:=xs.toList.Pairwise (· < ·)
theorem q3r{l:List Nat}(h:l.Pairwise (· < ·)){i j:Nat}(hi:i < l.length)(hj:j < l.length)(hij:i < j):l[i] < l[j]:=yL.mp h i j hi hj hij
theorem qcO{xs:Array Nat}{j:Nat}(h:zAl xs):∀ (fuel lo hi:Nat),lo <= hi->hi <= xs.size->hi - lo <= fuel->(∀ k (z:k < xs.toList.length),k < lo->xs.toList[k] < j)->(∀ k (z:k < xs.toList.length),hi <= k->j <= xs.toList[k]) ->
  SetTable.below.go xs j fuel lo hi <= xs.size/\(∀ k (z:k < xs.toList.length),k < SetTable.below.go xs j fuel lo hi->xs.toList[k] < j)/\(∀ k (z:k < xs.toList.length),SetTable.below.go xs j fuel lo hi <= k->j <= xs.toList[k]):=by
 intro fuel
 induction fuel with
 | zero =>
  intro lo hi h1 h2 h3 h4 h5;have e:lo=hi:=by omega
  subst e;exact⟨h2,h4,h5⟩
 | succ n ih =>
  intro lo hi h1 h2 h3 h4 h5;unfold SetTable.below.go
  by_cases hl:lo < hi
  ·rw[if_pos hl]
   have hm:(lo+hi) / 2 < xs.toList.length:=by rw[zM];omega
   have hg:xs.getD ((lo+hi) / 2) j=xs.toList[(lo+hi) / 2]:=by
    rw[Array.getD_eq_getD_getElem?,<- zZ,zD hm];rfl
   by_cases hc:xs.getD ((lo+hi) / 2) j < j
   ·simp only[hc,if_true]
    refine ih _ _ (by omega) h2 (by omega) (λk z hk=>?_) h5
    by_cases e:k=(lo+hi) / 2
    ·subst e;rw[hg] at hc;exact hc
    ·have:=q3r h z hm (by omega)
     rw[hg] at hc;omega
   ·simp only[hc,if_false]
    refine ih _ _ (by omega) (by omega) (by omega) h4 (λk z hk=>?_)
    by_cases e:k=(lo+hi) / 2
    ·subst e;rw[hg] at hc;omega
    ·have:=q3r h hm z (by omega)
     rw[hg] at hc;omega
  ·rw[if_neg hl]
   have e:lo=hi:=by omega
   subst e;exact⟨h2,h4,h5⟩
theorem q7S{xs:Array Nat}(h:zAl xs)(j:Nat):SetTable.below xs j <= xs.size/\(∀ k (z:k < xs.toList.length),k < SetTable.below xs j->xs.toList[k] < j)/\(∀ k (z:k < xs.toList.length),SetTable.below xs j <= k->j <= xs.toList[k]) :=
 qcO h xs.size 0 xs.size (zz _) (zJ _) (by omega) (λk z hk=>absurd hk (xz _)) (λk z hk=>by rw[zM] at z;omega)
theorem q2L{α:Type}(xs:Array α)(p:Nat)(x:α):(SetTable.insertAt xs p x).toList=xs.toList.take p++x::xs.toList.drop p:=by
 unfold SetTable.insertAt;simp[xZ,yf]
theorem q8l{xs:Array Nat}(h:zAl xs){j:Nat}(hn:xs[SetTable.below xs j]?≠some j):zAl (SetTable.insertAt xs (SetTable.below xs j) j):=by
 obtain⟨h1,h2,h3⟩:=q7S h j;unfold zAl;rw[q2L,zX];have lt:∀ y∈xs.toList.drop (SetTable.below xs j),j < y:=by
  intro y hy;obtain⟨k,hk,e⟩:=ze.mp hy;rw[yE] at hk;rw[xa] at e;have hb:SetTable.below xs j < xs.toList.length:=by omega
  have hh:=h3 _ hb (zJ _);have ne:xs.toList[SetTable.below xs j]≠j:=λz=>hn (by rw[<- zZ,zD hb,z]);have hle:xs.toList[SetTable.below xs j] <= y:=by
   by_cases e0:k=0
   ·subst e0;rw[<- e];simp
   ·rw[<- e];exact yQ (q3r h hb (by omega) (by omega))
  omega
 refine⟨wL (wj _ _) h,zb.mpr ⟨lt,wL (Zz _ _) h⟩,λa ha b hb=>?_⟩;have haj:a < j:=by
  obtain⟨k,hk,e⟩:=ze.mp ha;rw[zd] at hk;rw[xE] at e;rw[<- e];exact h2 k (by omega) (by omega)
 rcases zF.mp hb with rfl|hb
 ·exact haj
 ·exact Z0 haj (lt b hb)
structure Tb (t:SetTable) (n:Nat):Prop where
 fits:t.fits n=true
 rise:zAl t.place
 dum:t.dummies=#[]
theorem q6S{t:SetTable}(hd:t.dummies=#[])(j:Nat):t.slot j≠.dummy:=by
 unfold SetTable.slot;rw[hd]
 dsimp only
 split
 ·exact λz=>nomatch z
 ·have:SetTable.has #[] j=false:=by simp[SetTable.has]
  rw[this];exact λz=>nomatch z
theorem q8u{t:SetTable}(hd:t.dummies=#[]){h:Int}:∀ (fuel:Nat) (p:SetTable.Probe) (m:SetTable.Met),p.dummy=none->SetTable.probe.go t (λ_=>h+1) h fuel p=some m->∃ j,m=.empty j none/\t.slot j=.empty:=by
 intro fuel
 induction fuel with
 | zero=>intro p m _ e;cases e
 | succ n ih =>
  intro p m hp e;unfold SetTable.probe.go at e;cases hs:t.slot p.j with
  | empty =>
   rw[hs] at e;cases e;exact⟨p.j,by rw[hp],hs⟩
  | dummy=>exact absurd hs (q6S hd _)
  | live i =>
   rw[hs] at e;have hne:(h+1 == h)=false:=by simp only[beq_eq_false_iff_ne,ne_eq];omega
   dsimp only at e
   rw[hne] at e;refine ih _ m ?_ e;unfold SetTable.advance
   split
   ·exact hp
   ·exact hp
theorem q8v{t:SetTable}(hd:t.dummies=#[]){h:Int}{slot:Nat}{b:Bool}(e:t.freeSlot h=some (slot,b)):b=false/\t.place[SetTable.below t.place slot]?≠some slot:=by
 unfold SetTable.freeSlot at e;cases q:t.probe (λ_=>h+1) h (t.probeStart h) with
 | none=>rw[q] at e;cases e
 | some m =>
  rw[q] at e;obtain⟨j,rfl,hs⟩:=q8u hd _ _ m (by rfl) q;cases e;refine⟨rfl,λz=>?_⟩;unfold SetTable.slot at hs
  dsimp only at hs
  have:(t.place[SetTable.below t.place j]? == some j)=true:=by
   rw[show t.place[SetTable.below t.place j]?=some j from z];simp
  rw[if_pos this] at hs;cases hs
theorem q9G(n:Nat):zAl (Array.range n):=by
 unfold zAl;rw[Array.toList_range];exact ZG
theorem q1v(t:SetTable)(n:Nat):Tb (t.standIn n) n:=by
 refine⟨?_,q9G n,rfl⟩;unfold SetTable.fits SetTable.standIn SetTable.fill;simp;omega
theorem qgd{t:SetTable}{n:Nat}(h:zAl t.place)(hd:t.dummies=#[]):Tb (t.orStandIn n) n:=by
 unfold SetTable.orStandIn
 by_cases z:t.fits n=true
 ·rw[if_pos z];exact⟨z,h,hd⟩
 ·rw[if_neg z];exact q1v t n
theorem qfw(t:SetTable)(n:Nat):(t.orStandIn n).led=t.led:=by
 unfold SetTable.orStandIn
 split <;> rfl
theorem qbl{t:SetTable}{es:Array (Int×Value)}{h:Int}{x:Value}(T:Tb t es.size) :
  (layNew t es h x).2.2.1=false/\Tb (layNew t es h x).2.1 (layNew t es h x).1.size/\(layNew t es h x).2.1.led=t.led/\(layNew t es h x).1.toList.Perm ((h,x)::es.toList):=by
 unfold layNew;cases q:t.freeSlot h with
 | none =>
  refine⟨rfl,?_,rfl,?_⟩
  ·rw[ZP];exact q1v t _
  ·rw[wm]
   exact List.perm_append_singleton _ _
 | some p =>
  obtain⟨slot,b⟩:=p;obtain⟨rfl,hn⟩:=q8v T.dum q;have hd:(t.put slot).1.dummies=#[]:=by
   unfold SetTable.put
   dsimp only
   rw[T.dum];simp[SetTable.has]
  refine⟨rfl,qgd (q8l T.rise hn) hd,(qfw _ _).trans rfl,?_⟩;rw[q2L];refine yw wx ?_;rw[z0]
theorem q3V{α:Type}{f:α->Option α}(h:∀ x y,f x=some y->y=x):∀ l:List α,(l.filterMap f).Sublist l
 | []=>by simp
 | a::r=>by
  rw[xh];cases q:f a with
  | none=>exact(q3V h r).cons a
  | some b=>rw[h a b q];exact(q3V h r).cons_cons a
theorem q4u{α:Type}:∀ l:List α,(zf l.length).filterMap (λi=>l[i]?)=l
 | []=>rfl
 | a::r=>by
  rw[zL,ZH,xh];simp only[xF];rw[Zt];have e:((λi=>(a::r)[i]?) ∘ Nat.succ)=λi=>r[i]?:=by funext i;simp
  rw[e,q4u r]
theorem qej{mask finger moves:Nat}{led plain:Bool}{hs:Array Int}{t:SetTable}{o:Array Nat}(e:SetTable.laid mask finger moves led plain hs=some (t,o)):zAl t.place/\t.dummies=#[]/\t.led=led:=by
 unfold SetTable.laid at e;cases q:SetTable.layClean mask hs with
 | none=>rw[q] at e;cases e
 | some owner =>
  rw[q] at e;cases e;refine⟨?_,rfl,rfl⟩;unfold zAl
  dsimp only
  rw[List.map_filterMap];refine wL (q3V (λx y z=>?_) _) ZG;cases q2:owner.getD x none with
  | none=>rw[q2] at z;cases z
  | some c=>rw[q2] at z;exact(zw z).symm
theorem qco{t:SetTable}{es:Array (Int×Value)}(w:Nat):Tb (relayAll t es w).2.1 (relayAll t es w).1.size/\(relayAll t es w).2.1.led=t.led/\(relayAll t es w).1.toList.Perm es.toList:=by
 unfold relayAll;cases q:t.relaid (es.map (·.1)) w with
 | none=>exact⟨q1v t _,rfl,xN _⟩
 | some p =>
  obtain⟨t',order⟩:=p
  dsimp only
  obtain⟨h1,h2,h3⟩:=qej q
  by_cases z:(coversAll order es.size && t'.fits (order.filterMap (es[·]?)).size)=true
  ·rw[if_pos z]
   rw[yI] at z;refine⟨⟨z.2,h1,h2⟩,h3,?_⟩;have hp:order.toList.Perm (zf es.size):=List.isPerm_iff.mp z.1;rw[Array.toList_filterMap];have e:(λ(i:Nat)=>es[i]?)=λ(i:Nat)=>es.toList[i]?:=by funext i;simp
   rw[e];have q2:=hp.filterMap λi=>es.toList[i]?;rw[<- zM,q4u] at q2;exact q2
  ·rw[if_neg z]
   exact⟨q1v t _,rfl,xN _⟩
end Hk
namespace Hk
open PySem PySem.Spec PyProof.Rows
noncomputable def vI:Value->Int
 | .int i _=>i
 | _=>0
def We(e:Int×Value):Prop:=∃ x t,e=(hashInt x,Value.int x t)
theorem q9O{prog:Program}{w:World}{l:List (Int×Value)}(h:∀ e∈l,We e):ElemsOf (intKind prog w) l:=λe he=>by
 obtain⟨x,t,rfl⟩:=h e he;exact⟨⟨x,intKind_is _ _ _ _,rfl⟩,rfl⟩
def W7(h:Heap)(a:Addr)(led:Bool)(xs:List Int):Prop:=∃ o es ep t,h.get? a=some o/\o.ExactSet/\o.data=.set es ep t/\Tb t es.size/\t.led=led/\es.size < scanBound /\
 (∀ e∈es.toList,We e)/\es.toList.map (λe=>vI e.2)=xs/\xs.Nodup
theorem W7.len{h:Heap}{a:Addr}{led:Bool}{xs:List Int}(S:W7 h a led xs):xs.length < scanBound:=by
 obtain⟨o,es,ep,t,_,_,_,_,_,z,_,e,_⟩:=S;rw[<- e,zB,zM];exact z
theorem W7.at{h h':Heap}{a:Addr}{led:Bool}{xs:List Int}(S:W7 h a led xs)(k:∀ o,h.get? a=some o->h'.get? a=some o):W7 h' a led xs:=by
 obtain⟨o,es,ep,t,e,r⟩:=S;exact⟨o,es,ep,t,k o e,r⟩
theorem q96{prog:Program}{w:World}{e:Int×Value}(h:We e)(x:Int):(intKind prog w).is x e.2=decide (vI e.2=x):=by
 obtain⟨y,t,rfl⟩:=h;show Value.isInt x (.int y t)=decide (y=x)
 by_cases z:y=x
 ·subst z;simp[Value.isInt]
 ·simp[Value.isInt,z]
theorem qb8{prog:Program}{w:World}{l:List (Int×Value)}(h:∀ e∈l,We e){x:Int}(q:l.findIdx? (λe=>(intKind prog w).is x e.2)=none):x∉l.map (λe=>vI e.2):=λz=>by
 obtain⟨e,he,ex⟩:=z8.mp z;have:=List.findIdx?_eq_none_iff.mp q e he;rw[q96 (h e he),ex] at this;simp at this
theorem qaW{prog:Program}{w:World}{l:List (Int×Value)}(h:∀ e∈l,We e){x:Int}{j:Nat}(q:l.findIdx? (λe=>(intKind prog w).is x e.2)=some j):x∈l.map (λe=>vI e.2):=by
 obtain⟨hj,hp,_⟩:=List.findIdx?_eq_some_iff_getElem.mp q;rw[q96 (h _ (yU hj))] at hp;exact z8.mpr ⟨_,yU hj,of_decide_eq_true hp⟩
section
variable {prog:Program} {w:World} {A:Around} {E:Value->Shared->Prop} {s:Shared}
theorem q8B{h:Heap}{a:Addr}{o:Obj}{es es':Array (Int×Value)}{ep:Nat}{t t':SetTable}{led:Bool}{xs:List Int}(go:h.get? a=some o)(gx:o.ExactSet)(gd:o.data=.set es ep t)
  (T:Tb t' es'.size) (gl:t'.led=led) (gb:es'.size < scanBound) (gg:∀ e∈es'.toList,We e) (gv:es'.toList.map (λe=>vI e.2)=xs) (gn:xs.Nodup) :
  (h.update a (Obj.putSet es' t')).get? a=some { o with data:=.set es' (ep+1) t' }/\W7 (h.update a (Obj.putSet es' t')) a led xs:=by
 have q:=xT (Obj.putSet es' t') go (by rw[putSet_of es' t' gd];rfl);rw[putSet_of es' t' gd] at q;exact⟨q,_,es',ep+1,t',q,gx,rfl,T,gl,gb,gg,gv,gn⟩
theorem qaD{g:Bool->Sem Unit}(gw:∀ (b:Bool) (s1:Shared) (Q':Unit->Shared->Prop),Q' () s1->wpAny (model prog w) A (g b) Q' E s1)
  {a:Addr} {o:Obj} {es es1:Array (Int×Value)} {ep:Nat} {t t2:SetTable} {led:Bool} {xs:List Int} (go:s.heap.get? a=some o) (gx:o.ExactSet) (gd:o.data=.set es ep t)
  (T:Tb t2 es1.size) (gl:t2.led=led) (gb:es1.size < scanBound) (gg:∀ e∈es1.toList,We e) (gv:es1.toList.map (λe=>vI e.2)=xs) (gn:xs.Nodup) {dm:Bool} {R:Option Bool->Shared->Prop}
  (k:∀ h' ys,xW a s.heap h'->W7 h' a led ys->ys.Perm xs->R (some true) { s with heap:=h' }) :
  wpAny (model prog w) A (do
    storeSet a es1 t2
    if (!dm && t2.tooFull)=true then do
      g (relayAll t2 es1 (SetTable.grown es1.size)).2.2
      storeSet a (relayAll t2 es1 (SetTable.grown es1.size)).1 (relayAll t2 es1 (SetTable.grown es1.size)).2.1
      pure (some true)
     else pure (some true)) R E s:=by
 refine wpAny_bind (wpAny_storeSet_of go gd ?_ (fits_of_scanBound gb));obtain⟨g1,S1⟩:=q8B go gx gd T gl gb gg gv gn;have sb:=ZZ s.heap a (Obj.putSet es1 t2)
 split
 ·obtain⟨T2,l2,p2⟩:=qco (t:=t2) (es:=es1) (SetTable.grown es1.size)
  generalize relayAll t2 es1 (SetTable.grown es1.size)=rl at T2 l2 p2 ⊢;obtain⟨es2,t3,gv2⟩:=rl
  dsimp only at T2 l2 p2 ⊢
  have hz:es2.size=es1.size:=by rw[<- zM,p2.length_eq,zM]
  have gb2:es2.size < scanBound:=by rw[hz];exact gb
  have pv:(es2.toList.map λe=>vI e.2).Perm xs:=by rw[<- gv];exact p2.map _
  refine wpAny_bind (gw _ _ _ ?_);refine wpAny_bind (wpAny_storeSet_of g1 rfl ?_ (fits_of_scanBound gb2));obtain⟨_,S2⟩:=q8B g1 gx rfl T2 (l2.trans gl) gb2 (λe he=>gg e (p2.mem_iff.mp he)) rfl (pv.nodup_iff.mpr gn);exact wpAny_pure (k _ _ (sb.trans (ZZ _ a _)) S2 pv)
 ·exact wpAny_pure (k _ _ sb S1 (xN _))
theorem qgh{a:Addr}{led:Bool}{xs:List Int}{x:Int}{tk:Tok}{Q:Bool->Shared->Prop}(S:W7 s.heap a led xs)(room:xs.length+1 < scanBound)
  (k:∀ b h' ys,xW a s.heap h'->W7 h' a led ys->(x∈xs->ys=xs)->(x∉xs->ys.Perm (x::xs))->Q b { s with heap:=h' }) :
  wpAny (model prog w) A (setAddHashed a (.int x tk) (hashInt x)) Q E s:=by
 obtain⟨o,es,ep,t,go,gx,gd,T,gl,gb,gg,gv,gn⟩:=id S;have hl:es.size=xs.length:=by rw[<- gv,zB,zM]
 have el:ElemsOf (intKind prog w) es.toList:=q9O gg;unfold setAddHashed setAddHashedIn;refine wpAny_holding (wpAny_bind (wpAny_setState_of go gd T.fits ?_))
 dsimp only
 rw[byScan_of (knd:=intKind prog w) (x:=.int x tk) rfl gb el];simp only[↓reduceIte];unfold setAddByScan;refine wpAny_bind (wpAny_bind (wpAny_rule (wpAny_bind (wpAny_setScan_of (knd:=intKind prog w) (k:=x) (intKind_is _ _ _ _) go gd T.fits el ?_))));cases q:List.findIdx? (λe=>(intKind prog w).is x e.2) es.toList with
 | some j =>
  dsimp only
  have hx:x∈xs:=by rw[<- gv];exact qaW gg q
  refine wpAny_pure (wpAny_pure ?_);exact k false s.heap xs (Z1 a s.heap) S (λ_=>rfl) λz=>absurd hx z
 | none =>
  dsimp only
  have hx:x∉xs:=by rw[<- gv];exact qb8 gg q
  obtain⟨d0,T1,l1,p1⟩:=qbl (t:=t) (es:=es) (h:=hashInt x) (x:=.int x tk) T;generalize layNew t es (hashInt x) (.int x tk)=ly at d0 T1 l1 p1 ⊢;obtain⟨es1,t1,dm,gave⟩:=ly
  dsimp only at d0 T1 l1 p1 ⊢
  have gg1:∀ e∈es1.toList,We e:=λe he=>by
   rcases zF.mp (p1.mem_iff.mp he) with rfl|he
   ·exact⟨x,tk,rfl⟩
   ·exact gg e he
  have pv:(es1.toList.map λe=>vI e.2).Perm (x::xs):=by rw[<- gv];exact p1.map _
  have gn1:(es1.toList.map λe=>vI e.2).Nodup:=pv.nodup_iff.mpr (yS.mpr ⟨hx,gn⟩);have gb1:es1.size < scanBound:=by
   have:=pv.length_eq;rw[zB,zM,zL] at this;omega
  have gw:∀ (b:Bool) (s1:Shared) (Q':Unit->Shared->Prop),Q' () s1->wpAny (model prog w) A (match b with|true=>rule "set.scan.the-table-gave-way" | false=>pure ()) Q' E s1 :=
   λb s1 Q' z=>by cases b <;> first|exact wpAny_pure z|exact wpAny_rule z
  refine wpAny_bind (gw _ _ _ ?_);have fin:∀ h' ys,xW a s.heap h'->W7 h' a led ys->ys.Perm (es1.toList.map λe=>vI e.2)->Q true { s with heap:=h' }:=λh' ys sb S' p=>k true h' ys sb S' (λz=>absurd z hx) λ_=>p.trans pv
  split
  ·refine wpAny_bind ?_
   rw[hashByValue_scannable 8 (x:=Value.int x tk) rfl];refine wpAny_pure ?_;refine qaD (λb s1 Q' z=>by cases b <;> first|exact wpAny_pure z|exact wpAny_rule z) go gx gd T1 (l1.trans gl) gb1 gg1 rfl gn1 λh' ys sb S' p=>?_;exact wpAny_pure (fin h' ys sb S' p)
  ·refine wpAny_bind (wpAny_pure ?_)
   simp only[↓reduceIte];refine qaD (λb s1 Q' z=>by cases b <;> first|exact wpAny_pure z|exact wpAny_rule z) go gx gd T1 (l1.trans gl) gb1 gg1 rfl gn1 λh' ys sb S' p=>?_;exact wpAny_pure (fin h' ys sb S' p)
end
def zBk(h:Heap)(S:Addr)(led:Bool)(val:Nat->Int)(m:Nat):Prop:=∃ xs,W7 h S led xs/\xs.length <= m/\∀ x,x∈xs↔∃ i,i < m/\val i=x
theorem zBk.at{h h':Heap}{a:Addr}{led:Bool}{val:Nat->Int}{m:Nat}(S:zBk h a led val m)(k:∀ o,h.get? a=some o->h'.get? a=some o):zBk h' a led val m:=by
 obtain⟨xs,q,r⟩:=S;exact⟨xs,q.at k,r⟩
section
variable {prog:Program} {w:World} {A:Around} {R:Result->Shared->Prop} {I:Addr} {fp wr:List Addr} {G:Array GenState->Array GenState->Prop} {n:Nat} {P:Nat->Value->Prop} {St:Nat->Shared->Prop}
theorem zBz(W:WalksS prog w A.in1 I fp wr G n P St)(S:Addr)(hS:S∉fp){led:Bool}(val:Nat->Int)(hv:∀ i v,P i v->∃ t,v=.int (val i) t)(hb:n+1 < scanBound) :
  ∀ (k i:Nat) (s:Shared),n - i=k->i <= n->St i s->zBk s.heap S led val i->(∀ s',Moved (S::wr) G s s'->zBk s'.heap S led val n->R (.ok (.ret .none)) s') ->
   codeAny (model prog w) A (.builtin "set.update.loop" ⟨[.ref S,.ref I],[]⟩) R s:=by
 have hw:S∉wr:=λz=>hS (W.sub _ z);have hsub:∀ b∈wr,b∈S::wr:=λb z=>zH _ z;intro k
 induction k with
 | zero =>
  intro i s hk hi st SV hR;have hin:i=n:=by omega
  subst hin;refine codeAny_builtin PyProof.Rows.F.entry_set_update_loop ?_;rw[Around.under_plainId PyProof.Rows.F.plain_set_update_loop _];show wpAny _ A.in1 (pyNext (.ref I) >>= _) _ _ s;refine wpAny_bind (W.done s _ _ st λs' hm=>?_);show wpAny _ A.in1 (ret Value.none) _ _ s';exact wpAny_pure (hR s' (hm.mono hsub) (SV.at λo e=>hm.heap S o hw e))
 | succ k ih =>
  intro i s hk hi st SV hR;have hlt:i < n:=by omega
  refine codeAny_builtin PyProof.Rows.F.entry_set_update_loop ?_;rw[Around.under_plainId PyProof.Rows.F.plain_set_update_loop _];show wpAny _ A.in1 (pyNext (.ref I) >>= _) _ _ s;refine wpAny_bind (W.item i s _ _ hlt st λv s1 hP st1 hm=>?_);obtain⟨t,rfl⟩:=hv i v hP;obtain⟨xs,S1,hl,hx⟩:=SV.at (h':=s1.heap) λo e=>hm.heap S o hw e;show wpAny _ A.in1 (holding [Value.int (val i) t] (setAdd S (.int (val i) t)) >>= _) _ _ s1;refine wpAny_bind (wpAny_holding ?_);unfold setAdd;refine wpAny_holding ?_;refine wpAny_bind ((intKind prog w).pyHash (k:=val i) (intKind_is _ _ _ _) ?_);refine qgh (s:={ s1 with toks:=s1.toks+1 }) (x:=val i) S1 (by omega) λb h' ys sb S2 y1 y2=>?_;have SV2:zBk h' S led val (i+1):=by
   refine⟨ys,S2,?_,λx=>?_⟩
   ·by_cases z:val i∈xs
    ·rw[y1 z];omega
    ·rw[(y2 z).length_eq,zL];omega
   ·by_cases z:val i∈xs
    ·rw[y1 z,hx]
     refine⟨λ⟨j,h1,h2⟩=>⟨j,by omega,h2⟩,λ⟨j,h1,h2⟩=>?_⟩
     by_cases e:j=i
     ·subst e;exact(hx x).mp (by rw[<- h2];exact z)
     ·exact⟨j,by omega,h2⟩
    ·rw[(y2 z).mem_iff,zF,hx]
     refine⟨λh=>?_,λ⟨j,h1,h2⟩=>?_⟩
     ·rcases h with h|⟨j,h1,h2⟩
      ·exact⟨i,by omega,h.symm⟩
      ·exact⟨j,by omega,h2⟩
     ·by_cases e:j=i
      ·subst e;exact .inl h2.symm
      ·exact .inr ⟨j,by omega,h2⟩
  refine wpAny_pure ⟨plainId_quiet PyProof.Rows.F.plain_set_update_loop _,ih (i+1) _ (by omega) hlt (W.frame _ s1 _ _ st1 (xA _) λb z o e=>?_) SV2 λs2 hm2 S3=>?_⟩
  ·rw[sb.2 b (λy:b=S=>hS (by rw[<- y];exact z))];exact e
  ·refine hR s2 (Moved.trans W.gtrans ((hm.mono hsub).then_heap (xA _) λb o z e=>?_) hm2) S3
   rw[sb.2 b (λy:b=S=>z (by rw[y];exact zG))];exact e
end
noncomputable abbrev Xa(w:World):Bool:=!w.params.followText "set-order"
section
variable {prog:Program} {w:World} {A:Around} {E:Value->Shared->Prop} {s:Shared}
theorem qdw(a:Value){Q1:Value->Shared->Prop}(h:Q1 (.ref s.heap.objs.size) { s with heap:=s.heap.push { cls:=.type "set", data:=.set #[] 0 (.fresh 0 0 (Xa w)) } }) :
  codeAny (model prog w) A (.call (.builtin "set.__new__") ⟨[.type "set", a],[]⟩) (wants Q1 E) s:=by
 refine codeAny_of_tree ?_;show wpAny _ A.in1 (checkBuiltinCall "set.__new__" ⟨[.type "set", a],[]⟩ >>= λ_=>again (.builtin "set.__new__" ⟨[.type "set", a],[]⟩)) _ _ s;refine wpAny_bind (wpAny_of_eq (PySem.F.newCall_set_1 a) (wpAny_pure ⟨plainId_quiet PySem.F.plain_set_new _,codeAny_builtin PySem.F.entry_set_new ?_⟩));rw[Around.under_plainId PySem.F.plain_set_new _];unfold Builtin.«set.__new__» Builtin.Frozenset.newClass;have p1:=sub_set_self;obtain⟨hp,g,d,tk,os⟩:=s
 dsimp only
 wp_walk
 refine wpAny_askSetting (wpAny_pure ?_)
 dsimp only
 simp only[newObj];refine wpAny_bind (wpAny_alloc (wpAny_pure ?_));exact wpAny_pure h
set_option maxHeartbeats 3200000 in
theorem q8t{l:Addr}{items:Array Value}{ns:List Int}{Q:Value->Shared->Prop}(hh:A.handled=none)(il:s.heap.IsList l items)(ia:IntsAre items.toList ns)(hb:items.size+1 < scanBound)
  (k:∀ (h':Heap) (tk:Nat),zBk h' s.heap.objs.size (Xa w) (λi=>ns.getD i 0) items.size->(∀ b o,b < s.heap.objs.size->s.heap.get? b=some o->h'.get? b=some o)->Q (.ref s.heap.objs.size) { s with heap:=h',toks:=tk }) :
  wpAny (model prog w) A (call (.type "set") [.ref l]) Q E s:=by
 obtain⟨c,tl,c1⟩:=PySem.F.called_set.mro;have c2:=PySem.F.called_set.made;have c3:=PySem.F.called_set.sub;refine wpAny_call (codeAny_of_tree ?_);show wpAny _ _ (callAny (.type "set") _) _ _ _;refine wpAny_pure ⟨Code.quiet_builtin _ (by decide +kernel),codeAny_builtin PySem.F.entry_type_call ?_⟩;rw[Around.under_plain (weight_type_call_type "set" [.ref l] []) rfl];have c4:=PySem.F.called_set.notType;have c5:=PySem.F.called_set.canCreate;have c6:=PySem.F.typeCall_set_1 (.ref l)
 repeat (any_goals (first|assumption|wp_step))
 refine codeAny_mono (qdw (.ref l) (E:=E) (Q1:=λobj s1=>obj=.ref s.heap.objs.size/\s1={ s with heap:=s.heap.push { cls:=.type "set", data:=.set #[] 0 (.fresh 0 0 (Xa w)) } }) ⟨rfl,rfl⟩) λr s1 hr=>?_;cases r with
 | error e=>exact hr
 | ok fl =>
  cases fl with
  | ret obj =>
   obtain⟨rfl,rfl⟩:=hr;have hS:(s.heap.push { cls:=.type "set", data:=.set #[] 0 (.fresh 0 0 (Xa w)) }).get? s.heap.objs.size=some { cls:=.type "set", data:=.set #[] 0 (.fresh 0 0 (Xa w)) }:=zR _ rfl;have hT:Shared.TypeIs { s with heap:=s.heap.push { cls:=.type "set", data:=.set #[] 0 (.fresh 0 0 (Xa w)) } } (.ref s.heap.objs.size) "set" := ⟨_,hS,rfl⟩;have c7:=PySem.F.called_set.init.lookup;have c8:=PySem.F.called_set.init.bind (.ref s.heap.objs.size)
   repeat (any_goals (first|assumption|wp_step))
   refine codeAny_mono (codeAny_call_builtin (R:=wants (λr s2=>r=.none/\∃ h' tk,s2={ s with heap:=h',toks:=tk }/\zBk h' s.heap.objs.size (Xa w) (λi=>ns.getD i 0) items.size /\
     (∀ b o,b < s.heap.objs.size->s.heap.get? b=some o->h'.get? b=some o)) E) PySem.F.called_set.init.plain PySem.F.entry_set_init (check_set_init_1 hT ?_)) λr2 s2 hr2=>?_
   ·obtain⟨ol,e1,e2,nl,e3⟩:=il
    obtain⟨ocls,odict,odata,oslots⟩:=ol;simp only at e2 e3;subst e2;subst e3;have e1':(s.heap.push { cls:=.type "set", data:=.set #[] 0 (.fresh 0 0 (Xa w)) }).get? l=some { cls:=.type "list", dict:=odict,data:=.seq items nl,slots:=oslots }:=zE _ e1;have d1:=PySem.F.sub_list_set;have d2:=PySem.F.sub_list_frozenset;have d3:(Value.type "list" == Value.type "dict")=false:=by decide
    have il1:(s.heap.push { cls:=.type "set", data:=.set #[] 0 (.fresh 0 0 (Xa w)) }).IsList l items:=⟨_,e1',rfl,nl,rfl⟩;unfold Builtin.«set.__init__» noKeywords Builtin.Frozenset.updateFrom;generalize hPI:pyIter=PI
    wp_walk
    subst hPI;refine wpAny_pyIter_list il1 ?_;refine wpAny_bind (wpAny_runValue ?_);have lS:l < s.heap.objs.size:=zO e1;have h3:A.in1.in1.in1.handled=none:=by simp[hh]
    have nI:l≠(s.heap.push { cls:=.type "set", data:=.set #[] 0 (.fresh 0 0 (Xa w)) }).objs.size:=by rw[yd];exact zt (yN lS)
    have nS:s.heap.objs.size∉[(s.heap.push { cls:=.type "set", data:=.set #[] 0 (.fresh 0 0 (Xa w)) }).objs.size,l]:=by
     rw[yd];simp only[zF,zT,zi,or_false,not_or];exact⟨zt (yY _),xp lS⟩
    have hv:∀ (i:Nat) (v:Value),items[i]?=some v->∃ t,v=.int ((λi=>ns.getD i 0) i) t:=λi v z=>IntsAre.int_at ia i v (by rw[zZ];exact z);refine zBz ((Walks.list h3 _ l nI items).toS) s.heap.objs.size nS (led:=Xa w) (λi=>ns.getD i 0) hv hb (items.size - 0) 0 _ (by omega) (zz _) ⟨⟨_,zR _ rfl,rfl,rfl⟩,(il1.push _)⟩ ?S0 ?RR
    case S0 =>
     refine⟨[],⟨_,#[],0,.fresh 0 0 (Xa w),zE _ hS,⟨rfl,rfl,rfl⟩,rfl,⟨rfl,xD,rfl⟩,rfl,by show 0 < scanBound;decide,λe z=>by simp at z,rfl,xO⟩,zJ _,λx=>⟨λz=>(by cases z),λ⟨i,z,_⟩=>absurd z (xz _)⟩⟩
    case RR =>
     intro s' hm S';obtain⟨h',g',d',tk',os'⟩:=s';have eg:g'=s.gens:=hm.gens;have ed:d'=s.drawn:=hm.drawn;have eos:os'=s.os:=hm.os;subst eg;subst ed;subst eos;show wpAny _ _ _ _ _ _;refine wpAny_pure ?_;show wpAny _ _ (ret Value.none) _ _ _;refine wpAny_pure ⟨rfl,h',tk',rfl,S',λb o z y=>?_⟩;refine hm.heap b o ?_ (zE _ (zE _ y));simp only[zF,zT,zi,or_false,not_or];exact⟨zt z,by rw[yd];exact zt (yN z)⟩
   ·cases r2 with
    | error e=>exact hr2
    | ok fl2 =>
     cases fl2 with
     | ret r =>
      obtain⟨rfl,h',tk,rfl,S',kp⟩:=hr2
      repeat (any_goals (first|assumption|wp_step))
      exact k _ _ S' kp
     | next=>exact hr2.elim
     | brk=>exact hr2.elim
     | cont=>exact hr2.elim
  | next=>exact hr.elim
  | brk=>exact hr.elim
  | cont=>exact hr.elim
end
end Hk
namespace PySem.F
theorem slotSetNext:Slot "set_iterator" "__next__" "set_iterator.__next__" := .of (owner := "set_iterator") (n := "__next__") (by rw[typeLookup_type,builtinLookup_eq_fast];kernel_rfl) (by decide +kernel) (by decide +kernel) (by decide +kernel) (by first|exact .inl (by decide +kernel)|exact .inr (by decide +kernel)) (by rw[isSubtype_type];kernel_rfl)
theorem slotSetIt:Slot "set_iterator" "__iter__" "set_iterator.__iter__" := .of (owner := "set_iterator") (n := "__iter__") (by rw[typeLookup_type,builtinLookup_eq_fast];kernel_rfl) (by decide +kernel) (by decide +kernel) (by decide +kernel) (by first|exact .inl (by decide +kernel)|exact .inr (by decide +kernel)) (by rw[isSubtype_type];kernel_rfl)
theorem zAQ:Manifest.owners.lookup (String.ofList ['r','o','t','a','r','e','t','i','_','t','e','s'].reverse)=some Manifest.sig_set_iterator:=by kernel_rfl
theorem argsSetNext(a:Value):argsOk "set_iterator.__next__" ⟨[a],[]⟩:=by
 unfold argsOk;rw[signature?_of (id := "set_iterator.__next__") (n:=['_','_','t','x','e','n','_','_']) (o:=['r','o','t','a','r','e','t','i','_','t','e','s']) (by kernel_rfl) zAQ]
 kernel_rfl
theorem argsSetIt(a:Value):argsOk "set_iterator.__iter__" ⟨[a],[]⟩:=by
 unfold argsOk;rw[signature?_of (id := "set_iterator.__iter__") (n:=['_','_','r','e','t','i','_','_']) (o:=['r','o','t','a','r','e','t','i','_','t','e','s']) (by kernel_rfl) zAQ]
 kernel_rfl
theorem entSetNext:entryFor table "set_iterator.__next__" = some Builtin.«set_iterator.__next__»:=entryFor_of_tree (by kernel_rfl)
theorem entSetIter:entryFor table "set.__iter__" = some Builtin.«frozenset.__iter__»:=entryFor_alias (id' := "frozenset.__iter__") (by kernel_rfl) rfl (by decide +kernel) (by kernel_rfl)
theorem entSetIt:entryFor table "set_iterator.__iter__" = some Builtin.«dict_keyiterator.__iter__»:=entryFor_alias (id' := "dict_keyiterator.__iter__") (by kernel_rfl) rfl (by decide +kernel) (by kernel_rfl)
end PySem.F
namespace Hk
open PySem PySem.Spec PyProof.Rows
section
variable {prog:Program} {w:World} {A:Around} {E:Value->Shared->Prop} {s:Shared}
theorem q2G{α:Type}:∀ (l:List α) (k:Nat) (h:k < l.length),(l[k]::l.eraseIdx k).Perm l
 | a::r,0,_=>xN _
 | a::r,k+1,h=>by
  have h':k < r.length:=by simpa using h
  show (r[k]::a::r.eraseIdx k).Perm (a::r);exact(List.Perm.swap a r[k] _).trans ((q2G r k h').cons a)
theorem q8R{α:Type}(next:Nat->Nat):∀ (fuel k:Nat) (left:List α) (out:Array α),left.length=fuel->(pickOrder.go next fuel k left out).toList.Perm (out.toList++left)
 | 0,k,left,out,h=>by
  have e:left=[]:=yi h;subst e;unfold pickOrder.go;rw[zr]
 | fuel+1,k,left,out,h=>by
  unfold pickOrder.go;have hlt:next k % left.length < left.length:=Nat.mod_lt _ (by omega)
  rw[zD hlt]
  dsimp only
  refine(q8R next fuel (k+1) _ _ (by rw[wV hlt,h];rfl)).trans ?_;rw[wm,zK];exact yH _ (q2G left _ hlt)
theorem qbB{α:Type}(next:Nat->Nat)(xs:Array α):(pickOrder next xs).toList.Perm xs.toList:=by
 have:=q8R next xs.size 0 xs.toList #[] (by simp)
 simpa [pickOrder] using this
theorem qbq{M:Model}{src:Source}{n:Nat}{Q:Nat->Shared->Prop}(hn:n≠0)(h:Q (M.w.draws src (s.drawn.get src) % n) { s with drawn:=s.drawn.bump src }):wpAny M A (choose src n) Q E s:=λ_ _ _=>⟨hn,h⟩
theorem q3d{M:Model}{α:Type}:∀ (n:Nat) (xs:List α) (s:Shared) (Q:List α->Shared->Prop),xs.length=n->(∀ ys d,ys.Perm xs->Q ys { s with drawn:=d })->wpAny M A (drawOrder n xs) Q E s
 | 0,xs,s,Q,hl,h=>by
  have e:xs=[]:=yi hl;subst e;exact wpAny_pure (h [] s.drawn (xN _))
 | n+1,[],s,Q,hl,h=>by cases hl
 | n+1,x::r,s,Q,hl,h=>by
  unfold drawOrder;refine wpAny_bind (qbq (by simp) ?_);generalize hk:M.w.draws Source.order (s.drawn.get Source.order) % (x::r).length=k;have hlt:k < (x::r).length:=by rw[<- hk];exact Nat.mod_lt _ (by simp)
  rw[zD hlt]
  dsimp only
  have hl2:((x::r).eraseIdx k).length=n:=by rw[wV hlt,hl];rfl
  refine wpAny_bind (q3d n _ _ _ hl2 λys d p=>wpAny_pure (h _ d ?_));refine yw (p.cons _) ?_;exact q2G _ k hlt
end
noncomputable abbrev X2(f:Value)(i:Nat)(a:Addr)(n ep:Nat):Obj:={ cls:=.type "set_iterator", data:=.fields #[f,.int i 0,.ref a,.int n 0,.int ep 0] }
section
variable {prog:Program} {w:World} {A:Around} {E:Value->Shared->Prop} {s:Shared}
theorem q0Q{a:Addr}{o:Obj}{es:Array (Int×Value)}{ep:Nat}{t:SetTable}{Q:Array (Int×Value)->Shared->Prop}(go:s.heap.get? a=some o)(gd:o.data=.set es ep t)(gf:t.fits es.size=true)(h:Q es s):wpAny (model prog w) A (setEntries a) Q E s:=by
 unfold setEntries;exact wpAny_bind (wpAny_setState_of go gd gf (wpAny_pure h))
theorem qbm{it a:Addr}{slot i n ep:Nat}{o:Obj}{es:Array (Int×Value)}{t:SetTable}{x:Value}{nxt:Nat}{Q:Option Value->Shared->Prop}(e:s.heap.get? it=some (X2 (.int slot 0) i a n ep))
  (go:s.heap.get? a=some o) (gd:o.data=.set es ep t) (gf:t.fits es.size=true) (hn:es.size=n)
  (hnext:∀ A' Q' E',Q' (some (x,nxt)) s->wpAny (model prog w) A' (setNext a slot i ep) Q' E' s) (k:∀ h',h'.get? it=some (X2 (.int nxt 0) (i+1) a n ep)->xW it s.heap h'->Q (some x) { s with heap:=h' }) :
  wpAny (model prog w) A (pyNext (.ref it)) Q E s:=by
 have hT:s.TypeIs (.ref it) "set_iterator" := ⟨_,e,rfl⟩;unfold pyNext;refine wpAny_bind (wpAny_attempt (wpAny_callSpecial?_slot (name:=Str.ofString "__next__") hT F.slotSetNext (wpAny_call_entry F.slotSetNext hT F.entSetNext ?_ (F.argsSetNext _))));unfold Builtin.«set_iterator.__next__»;refine wpAny_bind (m:=slotArgs "__next__" 0 ⟨[.ref it],[]⟩) (wpAny_pure ?_);refine wpAny_bind (wpAny_fieldsOf e rfl ?_)
 dsimp only
 refine wpAny_bind (q0Q go gd gf ?_);rw[if_neg (by rw[hn];simp)];simp only[yh];refine wpAny_bind (hnext _ _ _ ?_)
 dsimp only
 refine wpAny_bind (wpAny_setField_rec e (by simp) λh1 e1 sb1=>?_);refine wpAny_bind (wpAny_setField_rec (s:={ s with heap:=h1 }) e1 (by simp) λh2 e2 sb2=>?_);refine wpAny_pure ⟨_,rfl,wpAny_pure (k h2 ?_ (sb1.trans sb2))⟩;rw[e2];simp[rawInt]
theorem qbn{it a:Addr}{slot i n ep:Nat}{o:Obj}{es:Array (Int×Value)}{t:SetTable}{Q:Option Value->Shared->Prop}(hh:A.handled=none)(e:s.heap.get? it=some (X2 (.int slot 0) i a n ep))
  (go:s.heap.get? a=some o) (gd:o.data=.set es ep t) (gf:t.fits es.size=true) (hn:es.size=n)
  (hnext:∀ A' Q' E',Q' none s->wpAny (model prog w) A' (setNext a slot i ep) Q' E' s) (k:∀ h',Heap.ExtBut it s.heap h'->Q none { s with heap:=h' }) :
  wpAny (model prog w) A (pyNext (.ref it)) Q E s:=by
 have hT:s.TypeIs (.ref it) "set_iterator" := ⟨_,e,rfl⟩;unfold pyNext;refine wpAny_bind (wpAny_attempt (wpAny_callSpecial?_slot (name:=Str.ofString "__next__") hT F.slotSetNext (wpAny_call_entry F.slotSetNext hT F.entSetNext ?_ (F.argsSetNext _))));unfold Builtin.«set_iterator.__next__»;refine wpAny_bind (m:=slotArgs "__next__" 0 ⟨[.ref it],[]⟩) (wpAny_pure ?_);refine wpAny_bind (wpAny_fieldsOf e rfl ?_)
 dsimp only
 refine wpAny_bind (q0Q go gd gf ?_);rw[if_neg (by rw[hn];simp)];simp only[yh];refine wpAny_bind (hnext _ _ _ ?_)
 dsimp only
 refine wpAny_bind (wpAny_setField_rec e (by simp) λh1 e1 sb1=>?_);show wpAny _ _ (newExc (.type "StopIteration") [] >>= λx=>raiseNew x) _ _ _;refine wpAny_bind ?_;simp only[newExc,newTuple];refine wpAny_bind (wpAny_newObj_type ?_ (by size_fits));refine wpAny_bind (m:=firstArgMember _ _) (wpAny_of_eq (a:=Value.none) (by first|rfl|(simp only[firstArgMember];rfl)) ?_);refine wpAny_newObj_type ?_ (by size_fits);simp only[raiseNew];refine wpAny_bind (wpAny_handled ?_);rw[show A.in1.handled=none from hh];refine wpAny_bind (wpAny_pure (wpAny_throw ?_));refine wpAny_bind (wpAny_isInstance (T := "StopIteration") (b:=true) ⟨_,zR _ rfl,rfl⟩ isSubtype_stop ?_);exact wpAny_pure (k _ ((sb1.extBut.push _).push _))
end
section
variable {prog:Program} {w:World} {A:Around} {E:Value->Shared->Prop} {s:Shared}
theorem q21{Q:Bool->Shared->Prop}(h:Q (w.params.followText "set-order") s):wpAny (model prog w) A setsByText Q E s:=by
 unfold setsByText;exact wpAny_bind (wpAny_askSetting (wpAny_pure h))
theorem q4n{a:Addr}{o:Obj}{es:Array (Int×Value)}{ep:Nat}{t:SetTable}{slot i:Nat}{r:Option (Value×Nat)}{Q:Option (Value×Nat)->Shared->Prop}(go:s.heap.get? a=some o)(gd:o.data=.set es ep t)(gf:t.fits es.size=true)
  (hB:w.params.followText "set-order" = false) (hl:t.led=true) (hd:(!t.plain && decide (es.size > 1))=false)
  (hr:(match es[SetTable.below t.place slot]?,t.place[SetTable.below t.place slot]? with|some (_,x),some j=>some (x,j+1)|_,_=>none)=r) (h:Q r s):wpAny (model prog w) A (setNext a slot i ep) Q E s:=by
 unfold setNext;refine wpAny_bind (wpAny_setState_of go gd gf ?_)
 dsimp only
 refine wpAny_bind (q21 ?_);rw[hB];refine wpAny_ite_split (λz=>absurd z (by decide)) (λ_=>?_);refine wpAny_ite_split (λz=>absurd ((show (!t.plain && decide (es.size > 1))=true from z).symm.trans hd) (by decide)) (λ_=>?_);refine wpAny_bind ?_;refine wpAny_ite_split (λz=>?_) (λ_=>?_)
 ·have z':(!t.led && !es.isEmpty)=true:=z
  rw[hl] at z';exact absurd z' (by simp)
 ·refine wpAny_pure ?_
  refine wpAny_pure ?_;rw[<- hr] at h;exact h
theorem qb1{a:Addr}{o:Obj}{es:Array (Int×Value)}{ep:Nat}{t:SetTable}{Q:Array (Int×Value)->Shared->Prop}(go:s.heap.get? a=some o)(gd:o.data=.set es ep t)(gf:t.fits es.size=true)
  (hB:w.params.followText "set-order" = true) (h:Q (pickOrder (w.params.setOrder a ep) es) s):wpAny (model prog w) A (setWalk a) Q E s:=by
 unfold setWalk;refine wpAny_bind (wpAny_setState_of go gd gf ?_)
 dsimp only
 refine wpAny_bind (q21 ?_);rw[hB];refine wpAny_ite_split (λ_=>?_) (λz=>absurd rfl z);exact wpAny_bind (wpAny_askSetting (wpAny_pure h))
theorem q5U{a:Addr}{o:Obj}{es:Array (Int×Value)}{ep:Nat}{t:SetTable}{slot i:Nat}{Q:Option (Value×Nat)->Shared->Prop}(go:s.heap.get? a=some o)(gd:o.data=.set es ep t)(gf:t.fits es.size=true)
  (hB:w.params.followText "set-order" = true) (h:Q (((pickOrder (w.params.setOrder a ep) es)[i]?).map λe=>(e.2,slot)) s):wpAny (model prog w) A (setNext a slot i ep) Q E s:=by
 unfold setNext;refine wpAny_bind (wpAny_setState_of go gd gf ?_)
 dsimp only
 refine wpAny_bind (q21 ?_);rw[hB];refine wpAny_ite_split (λ_=>?_) (λz=>absurd rfl z);refine wpAny_ite_split (λz=>absurd z (by simp)) (λ_=>?_);exact wpAny_bind (qb1 go gd gf hB (wpAny_pure h))
theorem q8F{it:Addr}{f:Value}{i:Nat}{a:Addr}{n ep:Nat}{Q:Value->Shared->Prop}(e:s.heap.get? it=some (X2 f i a n ep))(h:Q (.ref it) s):wpAny (model prog w) A (pyIter (.ref it)) Q E s:=by
 have hT:s.TypeIs (.ref it) "set_iterator" := ⟨_,e,rfl⟩;refine wpAny_pyIter_slot hT F.slotSetIt (wpAny_call_entry F.slotSetIt hT F.entSetIt ?_ (F.argsSetIt _));show wpAny _ _ (ret (.ref it)) _ _ s;exact wpAny_pure ⟨_,rfl, "set_iterator", _,hT,F.slotSetNext.lookup,h⟩
theorem q9m(hh:A.handled=none){I a:Addr}(hne:a≠I){o:Obj}{es:Array (Int×Value)}{ep:Nat}{t:SetTable}(gd:o.data=.set es ep t)(gf:t.fits es.size=true)(slot:Nat->Nat)(val:Nat->Value)
  (hn:∀ (i:Nat) (s:Shared),i < es.size->s.heap.get? a=some o->∀ A' Q' E',Q' (some (val i,slot (i+1))) s->wpAny (model prog w) A' (setNext a (slot i) i ep) Q' E' s)
  (hz:∀ (s:Shared),s.heap.get? a=some o->∀ A' Q' E',Q' none s->wpAny (model prog w) A' (setNext a (slot es.size) es.size ep) Q' E' s) :
  Walks prog w A I [I,a] [I] es.size (λi v=>v=val i) (λi h=>h.get? I=some (X2 (.int (slot i) 0) i a es.size ep)/\h.get? a=some o) where
 sub:=λb hb=>by simp at hb;simp[hb]
 frame:=λ_ _ _ st hk=>⟨hk I (by simp) _ st.1,hk a (by simp) _ st.2⟩
 item:=λi s Q E hi st hQ=>by
  refine qbm st.1 st.2 gd gf rfl (hn i s hi st.2) λh' e' sb=>?_;exact hQ _ h' s.toks rfl ⟨e',sb.extBut a o hne st.2⟩ λb u hb e=>sb.extBut b u (λz=>hb (by simp[z])) e
 done:=λs Q E st hQ=>qbn hh st.1 st.2 gd gf rfl (hz s st.2) λh' eb=>hQ h' s.toks λb u hb e=>eb b u (λz=>hb (by simp[z])) e
 self:=λ_ _ _ _ st hQ=>q8F st.1 hQ
theorem q9s{it a tp:Addr}{i n ep p:Nat}{o:Obj}{es:Array (Int×Value)}{t:SetTable}{x:Int×Value}{ps:Array Value}{ot:Obj}{nt:Nat}{Q:Option Value->Shared->Prop}(e:s.heap.get? it=some (X2 (.ref tp) i a n ep))
  (go:s.heap.get? a=some o) (gd:o.data=.set es ep t) (gf:t.fits es.size=true) (hn:es.size=n) (gt:s.heap.get? tp=some ot) (gtd:ot.data=.seq ps nt) (hp:ps[i]?=some (.int p 0)) (hx:es[p]?=some x)
  (k:∀ h',h'.get? it=some (X2 (.ref tp) (i+1) a n ep)->xW it s.heap h'->Q (some x.2) { s with heap:=h' }) :
  wpAny (model prog w) A (pyNext (.ref it)) Q E s:=by
 have hT:s.TypeIs (.ref it) "set_iterator" := ⟨_,e,rfl⟩;unfold pyNext;refine wpAny_bind (wpAny_attempt (wpAny_callSpecial?_slot (name:=Str.ofString "__next__") hT F.slotSetNext (wpAny_call_entry F.slotSetNext hT F.entSetNext ?_ (F.argsSetNext _))));unfold Builtin.«set_iterator.__next__»;refine wpAny_bind (m:=slotArgs "__next__" 0 ⟨[.ref it],[]⟩) (wpAny_pure ?_);refine wpAny_bind (wpAny_fieldsOf e rfl ?_)
 dsimp only
 refine wpAny_bind (q0Q go gd gf ?_);rw[if_neg (by rw[hn];simp)];refine wpAny_bind (wpAny_seqItems gt gtd ?_)
 dsimp only
 simp only[yh];rw[hp]
 dsimp only
 unfold setNextDrawn;refine wpAny_bind (wpAny_bind (wpAny_setState_of go gd gf ?_))
 dsimp only
 refine wpAny_ite_split (λz=>absurd z (by simp)) (λ_=>?_);simp only[yh];rw[hx];refine wpAny_pure ?_;refine wpAny_bind (wpAny_setField_rec e (by simp) λh1 e1 sb1=>?_);refine wpAny_pure ⟨_,rfl,wpAny_pure (k h1 ?_ sb1)⟩;rw[e1];simp[rawInt]
theorem q9y{it a tp:Addr}{i n ep:Nat}{o:Obj}{es:Array (Int×Value)}{t:SetTable}{ps:Array Value}{ot:Obj}{nt:Nat}{Q:Option Value->Shared->Prop}(hh:A.handled=none)(e:s.heap.get? it=some (X2 (.ref tp) i a n ep))
  (go:s.heap.get? a=some o) (gd:o.data=.set es ep t) (gf:t.fits es.size=true) (hn:es.size=n) (gt:s.heap.get? tp=some ot) (gtd:ot.data=.seq ps nt) (hp:ps[i]?=none)
  (k:∀ h',Heap.ExtBut it s.heap h'->Q none { s with heap:=h' }) :
  wpAny (model prog w) A (pyNext (.ref it)) Q E s:=by
 have hT:s.TypeIs (.ref it) "set_iterator" := ⟨_,e,rfl⟩;unfold pyNext;refine wpAny_bind (wpAny_attempt (wpAny_callSpecial?_slot (name:=Str.ofString "__next__") hT F.slotSetNext (wpAny_call_entry F.slotSetNext hT F.entSetNext ?_ (F.argsSetNext _))));unfold Builtin.«set_iterator.__next__»;refine wpAny_bind (m:=slotArgs "__next__" 0 ⟨[.ref it],[]⟩) (wpAny_pure ?_);refine wpAny_bind (wpAny_fieldsOf e rfl ?_)
 dsimp only
 refine wpAny_bind (q0Q go gd gf ?_);rw[if_neg (by rw[hn];simp)];refine wpAny_bind (wpAny_seqItems gt gtd ?_)
 dsimp only
 simp only[yh];rw[hp]
 dsimp only
 refine wpAny_bind (wpAny_setField_rec e (by simp) λh1 e1 sb1=>?_);refine wpAny_bind (wpAny_setField_rec (s:={ s with heap:=h1 }) e1 (by simp) λh2 e2 sb2=>?_);show wpAny _ _ (newExc (.type "StopIteration") [] >>= λx=>raiseNew x) _ _ _;refine wpAny_bind ?_;simp only[newExc,newTuple];refine wpAny_bind (wpAny_newObj_type ?_ (by size_fits));refine wpAny_bind (m:=firstArgMember _ _) (wpAny_of_eq (a:=Value.none) (by first|rfl|(simp only[firstArgMember];rfl)) ?_);refine wpAny_newObj_type ?_ (by size_fits);simp only[raiseNew];refine wpAny_bind (wpAny_handled ?_);rw[show A.in1.handled=none from hh];refine wpAny_bind (wpAny_pure (wpAny_throw ?_));refine wpAny_bind (wpAny_isInstance (T := "StopIteration") (b:=true) ⟨_,zR _ rfl,rfl⟩ isSubtype_stop ?_);exact wpAny_pure (k _ (((sb1.trans sb2).extBut.push _).push _))
theorem q8k(hh:A.handled=none){I a tp:Addr}(hne:a≠I)(htp:tp≠I){o:Obj}{es:Array (Int×Value)}{ep:Nat}{t:SetTable}(gd:o.data=.set es ep t)(gf:t.fits es.size=true){ot:Obj}{nt:Nat}(ord:List Nat)(hp:ord.Perm (zf es.size))(gtd:ot.data=.seq (ord.map λ(i:Nat)=>rawInt i).toArray nt) :
  Walks prog w A I [I,a,tp] [I] es.size (λi v=>∃ p x,ord[i]?=some p/\es[p]?=some x/\v=x.2) (λi h=>h.get? I=some (X2 (.ref tp) i a es.size ep)/\h.get? a=some o/\h.get? tp=some ot) where
 sub:=λb hb=>by simp at hb;simp[hb]
 frame:=λ_ _ _ st hk=>⟨hk I (by simp) _ st.1,hk a (by simp) _ st.2.1,hk tp (by simp) _ st.2.2⟩
 item:=λi s Q E hi st hQ=>by
  have hl:ord.length=es.size:=by rw[hp.length_eq,zo]
  have ho:ord[i]?=some (ord[i]'(by omega)):=zD _;have hlt:ord[i]'(by omega) < es.size:=yk.mp (hp.mem_iff.mp (yU _));refine q9s (p:=ord[i]'(by omega)) (x:=es[ord[i]'(by omega)]) st.1 st.2.1 gd gf rfl st.2.2 gtd (by simp[rawInt,ho]) (by simp[hlt]) λh' e' sb=>?_;exact hQ _ h' s.toks ⟨_,_,ho,by simp[hlt],rfl⟩ ⟨e',sb.extBut a o hne st.2.1,sb.extBut tp ot htp st.2.2⟩ λb u hb e=>sb.extBut b u (λz=>hb (by simp[z])) e
 done:=λs Q E st hQ=>q9y hh st.1 st.2.1 gd gf rfl st.2.2 gtd (by simp[hp.length_eq]) λh' eb=>hQ h' s.toks λb u hb e=>eb b u (λz=>hb (by simp[z])) e
 self:=λ_ _ _ _ st hQ=>q8F st.1 hQ
end
end Hk
namespace PySem.F
theorem slotSetLen:typeLookup (.type "set") "__len__" = pure (some (.builtin "set.__len__")):=by rw[typeLookup_type,builtinLookup_eq_fast];kernel_rfl
theorem slotSetIter:Slot "set" "__iter__" "set.__iter__" := .of (owner := "set") (n := "__iter__") (by rw[typeLookup_type,builtinLookup_eq_fast];kernel_rfl) (by decide +kernel) (by decide +kernel) (by decide +kernel) (by first|exact .inl (by decide +kernel)|exact .inr (by decide +kernel)) (by rw[isSubtype_type];kernel_rfl)
theorem argsSetIter(a:Value):argsOk "set.__iter__" ⟨[a],[]⟩:=by
 unfold argsOk;kernel_rfl
end PySem.F
namespace Hk
open PySem PySem.Spec PyProof.Rows
noncomputable def slotAt(xs:Array Nat):Nat->Nat
 | 0=>0
 | i+1=>xs.toList.getD i 0+1
theorem q4k{xs:Array Nat}(h:zAl xs):∀ i,i <= xs.size->SetTable.below xs (slotAt xs i)=i:=by
 intro i hi;obtain⟨h1,h2,h3⟩:=q7S h (slotAt xs i);have hz:xs.toList.length=xs.size:=zM;cases i with
 | zero =>
  rcases Nat.eq_zero_or_pos (SetTable.below xs (slotAt xs 0)) with z|z
  ·exact z
  ·exact absurd (h2 0 (by omega) z) (xz _)
 | succ i =>
  have hlt:i < xs.toList.length:=by omega
  have e:slotAt xs (i+1)=xs.toList[i]+1:=by
   show xs.toList.getD i 0+1=_;rw[zS,zD hlt];rfl
  rw[e] at h2 h3 h1 ⊢;generalize SetTable.below xs (xs.toList[i]+1)=b at h1 h2 h3 ⊢;have a1:i < b:=by
   rcases zu i b with z|z
   ·exact z
   ·have:=h3 i hlt z;omega
  have a2:b <= i+1:=by
   rcases zu (i+1) b with z|z
   ·have y:=h2 (i+1) (by omega) z
    have y':=q3r h hlt (show i+1 < xs.toList.length by omega) (yY i);omega
   ·exact z
  omega
theorem qbj{val:Nat->Value}{n:Nat}{acc:Array Value}(h:ItemsOf (λi v=>v=val i) acc n):acc.toList=(zf n).map val:=by
 apply yt;intro i;rw[zZ,za];rcases zu i n with z|z
 ·rw[xG z]
  have hz:i < acc.size:=by rw[h.1];exact z
  have:acc[i]?=some acc[i]:=zx hz;rw[this,h.2 i _ this];rfl
 ·rw[zn (by rw[zo];exact z),yX (by rw[h.1];exact z)];rfl
theorem q61:∀ {l:List (Int×Value)},(∀ e∈l,We e)->IntsAre (l.map (·.2)) (l.map λe=>vI e.2)
 | [],_=>.nil
 | e::r,h=>by
  obtain⟨x,t,rfl⟩:=h e zG;exact .cons _ _ (q61 λe he=>h e (zH _ he))
section
variable {prog:Program} {w:World} {A:Around} {E:Value->Shared->Prop} {s:Shared}
theorem qbS{r:Addr}{Q:Bool->Shared->Prop}(hT:s.TypeIs (.ref r) "set")(h:Q false s):wpAny (model prog w) A (Builtin.List.listLengthHint (.ref r)) Q E s:=by
 unfold Builtin.List.listLengthHint;refine wpAny_bind (wpAny_specialOf hT F.slotSetLen ?_);generalize hid:("set.__len__" : String)=id0
 wp_delta
 rw[show splitId id0=some ("set", "__len__") from by subst hid;decide +kernel];subst hid;refine wpAny_bind (wpAny_isInstance (T := "set") (b:=true) hT (by rw[isSubtype_type];kernel_rfl) ?_);refine wpAny_ite_split (λhab=>absurd hab (by decide)) (λ_=>?_);refine wpAny_ite_split (λ_=>?_) (λhab=>absurd (by decide +kernel) hab);refine wpAny_bind (wpAny_typeOf hT ?_);exact wpAny_pure h
theorem qc7{a:Addr}{xs:List Int}{Q:Value->Shared->Prop}(S:W7 s.heap a (Xa w) xs)
  (k:∀ (h':Heap) (d:Drawn) (I:Addr) (fp:List Addr) (P:Nat->Value->Prop) (St:Nat->Heap->Prop),(∀ b o,s.heap.get? b=some o->h'.get? b=some o)->s.heap.objs.size <= I->(∀ b∈fp,b=a\/s.heap.objs.size <= b) ->
   (∀ A:Around,A.handled=none->Walks prog w A I fp [I] xs.length P St)->St 0 h'->(∀ acc:Array Value,ItemsOf P acc xs.length->∃ ys,IntsAre acc.toList ys/\ys.Perm xs)->(∀ b∈fp,b < h'.objs.size)->Q (.ref I) { s with heap:=h',drawn:=d }) :
  wpAny (model prog w) A (pyIter (.ref a)) Q E s:=by
 obtain⟨o,es,ep,t,go,gx,gd,T,gl,gb,gg,gv,gn⟩:=id S;have hl:es.size=xs.length:=by rw[<- gv,zB,zM]
 have hlt:a < s.heap.objs.size:=zO go;have hps:t.place.size=es.size:=by
  have:=T.fits;unfold SetTable.fits at this;simp only[yI,beq_iff_eq] at this;exact this.1
 have hT:s.TypeIs (.ref a) "set" := ⟨o,go,gx.1⟩;refine wpAny_pyIter_slot hT F.slotSetIter (wpAny_call_entry F.slotSetIter hT F.entSetIter ?_ (F.argsSetIter _));unfold Builtin.«frozenset.__iter__» Builtin.Frozenset.slot0 Builtin.Frozenset.sizeOf;refine wpAny_bind ?_;refine wpAny_bind (m:=slotArgs "__iter__" 0 ⟨[.ref a],[]⟩) (wpAny_pure ?_);show wpAny _ _ (pure a) _ _ s;refine wpAny_pure ?_;refine wpAny_bind (wpAny_bind (q0Q go gd T.fits (wpAny_pure ?_)));refine wpAny_bind ?_;unfold setDrawn;refine wpAny_bind (wpAny_setState_of go gd T.fits ?_)
 dsimp only
 refine wpAny_bind (q21 (wpAny_pure ?_));have perm_ok:∀ (l:List (Int×Value)),l.Perm es.toList->∃ ys,IntsAre (l.map (·.2)) ys/\ys.Perm xs:=λl p =>
  ⟨_,q61 λe he=>gg e (p.mem_iff.mp he),by rw[<- gv];exact p.map _⟩
 have slots:∀ (slot:Nat->Nat) (l:List (Int×Value)),slot 0=0->l.Perm es.toList ->
   (∀ (i:Nat) (s:Shared),i < es.size->s.heap.get? a=some o->∀ A' Q' E',Q' (some ((l.map (·.2)).getD i .none,slot (i+1))) s->wpAny (model prog w) A' (setNext a (slot i) i ep) Q' E' s) ->
   (∀ (s:Shared),s.heap.get? a=some o->∀ A' Q' E',Q' none s->wpAny (model prog w) A' (setNext a (slot es.size) es.size ep) Q' E' s) ->
   Q (.ref s.heap.objs.size) { s with heap:=s.heap.push (X2 (.int (slot 0:Nat) 0) 0 a es.size ep) }:=λslot l h0 p hn hz=>by
  have:=k (s.heap.push (X2 (.int (slot 0:Nat) 0) 0 a es.size ep)) s.drawn s.heap.objs.size [s.heap.objs.size,a] (λi v=>v=(l.map (·.2)).getD i .none) (λi h=>h.get? s.heap.objs.size=some (X2 (.int (slot i) 0) i a es.size ep)/\h.get? a=some o)
   (λb u e=>zE _ e) (zJ _) (λb hb=>by
    simp only[zF,zi,or_false] at hb;rcases hb with rfl|rfl
    ·exact .inr (zJ _)
    ·exact .inl rfl) (λA hh=>by rw[<- hl];exact q9m hh (zt hlt) gd T.fits slot _ hn hz) ⟨zR _ rfl,zE _ go⟩ (λacc hacc=>by
    rw[qbj hacc];obtain⟨ys,y1,y2⟩:=perm_ok l p;have e:(zf xs.length).map (λi=>(l.map (·.2)).getD i .none)=l.map (·.2):=by
     apply yt;intro i;have hll:l.length=xs.length:=by rw[p.length_eq,zM,hl]
     rw[za];rcases zu i xs.length with z|z
     ·rw[xG z]
      show some ((l.map (·.2)).getD i .none)=_;rw[zS,zD (by rw[zB,hll];exact z)];rfl
     ·rw[zn (by rw[zo];exact z),zn (by rw[zB,hll];exact z)];rfl
    rw[e];exact⟨ys,y1,y2⟩) (λb hb=>by
    rw[yd];simp only[zF,zi,or_false] at hb;rcases hb with rfl|rfl
    ·exact yY _
    ·exact yN hlt)
  exact this
 have getD_at:∀ (l:List (Int×Value)) (i:Nat) (e:Int×Value),l[i]?=some e->(l.map (·.2)).getD i .none=e.2:=λl i e h=>by
  rw[zS,za,h];rfl
 cases hB:w.params.followText "set-order" with
 | true =>
  refine wpAny_bind (wpAny_pure ?_);refine wpAny_bind ?_;unfold setEpoch;refine wpAny_bind (wpAny_setState_of go gd T.fits (wpAny_pure ?_));refine wpAny_bind (wpAny_newObj_type (wpAny_pure ⟨_,rfl, "set_iterator", _,⟨_,zR _ rfl,rfl⟩,F.slotSetNext.lookup,?_⟩));have pp:=qbB (w.params.setOrder a ep) es;have hpl:(pickOrder (w.params.setOrder a ep) es).size=es.size:=by rw[<- zM,pp.length_eq,zM]
  refine slots (λ_=>0) _ rfl pp (λi s hi go' A' Q' E' q=>?_) λs go' A' Q' E' q=>?_
  ·refine q5U go' gd T.fits hB ?_
   have hz:i < (pickOrder (w.params.setOrder a ep) es).size:=by rw[hpl];exact hi
   rw[zx hz];have:=getD_at (pickOrder (w.params.setOrder a ep) es).toList i (pickOrder (w.params.setOrder a ep) es)[i] (by rw[zZ,zx hz]);rw[this] at q;exact q
  ·refine q5U go' gd T.fits hB ?_
   rw[yX (by rw[hpl];exact zJ _)];exact q
 | false =>
  have led:t.led=true:=by rw[gl];unfold Xa;rw[hB];rfl
  cases hD:(!t.plain && decide (es.size > 1)) with
  | false =>
   refine wpAny_ite_split (λz=>absurd ((show (!false && (!t.plain && decide (es.size > 1)))=true from z)) (by rw[hD];decide)) (λ_=>?_);refine wpAny_bind (wpAny_pure ?_);refine wpAny_bind ?_;unfold setEpoch;refine wpAny_bind (wpAny_setState_of go gd T.fits (wpAny_pure ?_));refine wpAny_bind (wpAny_newObj_type (wpAny_pure ⟨_,rfl, "set_iterator", _,⟨_,zR _ rfl,rfl⟩,F.slotSetNext.lookup,?_⟩));refine slots (slotAt t.place) es.toList rfl (xN _) (λi s hi go' A' Q' E' q=>?_) λs go' A' Q' E' q=>?_
   ·refine q4n go' gd T.fits hB led hD rfl ?_
    rw[q4k T.rise i (by omega),zx hi,zx (show i < t.place.size by omega)];have:=getD_at es.toList i es[i] (by rw[zZ,zx hi]);rw[this] at q;have e2:slotAt t.place (i+1)=t.place[i]'(by omega)+1:=by
     show t.place.toList.getD i 0+1=_;rw[zS,zZ,zx (show i < t.place.size by omega)];rfl
    rw[e2] at q;exact q
   ·refine q4n go' gd T.fits hB led hD rfl ?_
    rw[q4k T.rise es.size (by omega),yX (zJ _)];exact q
  | true =>
   refine wpAny_ite_split (λ_=>?_) (λz=>absurd (show (!false && (!t.plain && decide (es.size > 1)))=true by rw[hD];rfl) z);refine wpAny_bind (q3d es.size (zf es.size) _ _ zo λord d po=>?_);have hol:ord.length=es.size:=by rw[po.length_eq,zo]
   refine wpAny_bind (wpAny_newTuple ?_ (by rw[zB,hol];exact yG (yQ gb) (by decide)));refine wpAny_bind ?_;unfold setEpoch;have go2:(s.heap.push { cls:=.type "tuple", data:=.seq (ord.map λ(i:Nat)=>rawInt i).toArray }).get? a=some o:=zE _ go;refine wpAny_bind (wpAny_setState_of go2 gd T.fits (wpAny_pure ?_));refine wpAny_bind (wpAny_newObj_type (wpAny_pure ⟨_,rfl, "set_iterator", _,⟨_,zR _ rfl,rfl⟩,F.slotSetNext.lookup,?_⟩));have hs1:(s.heap.push { cls:=.type "tuple", data:=.seq (ord.map λ(i:Nat)=>rawInt i).toArray }).objs.size=s.heap.objs.size+1:=yd _ _;have ht1:(s.heap.push { cls:=.type "tuple", data:=.seq (ord.map λ(i:Nat)=>rawInt i).toArray }).get? s.heap.objs.size=some { cls:=.type "tuple", data:=.seq (ord.map λ(i:Nat)=>rawInt i).toArray }:=zR _ rfl;refine k _ d _ [(s.heap.push { cls:=.type "tuple", data:=.seq (ord.map λ(i:Nat)=>rawInt i).toArray }).objs.size,a,s.heap.objs.size] (λi v=>∃ p x,ord[i]?=some p/\es[p]?=some x/\v=x.2)
    (λi h=>h.get? (s.heap.push { cls:=.type "tuple", data:=.seq (ord.map λ(i:Nat)=>rawInt i).toArray }).objs.size=some (X2 (.ref s.heap.objs.size) i a es.size ep)/\h.get? a=some o/\h.get? s.heap.objs.size=some { cls:=.type "tuple", data:=.seq (ord.map λ(i:Nat)=>rawInt i).toArray }) (λb u e=>zE _ (zE _ e)) (by rw[hs1];exact xA _) (λb hb=>?_) (λA hh=>by
    rw[<- hl];exact q8k (tp:=s.heap.objs.size) hh (by rw[hs1];exact zt (yN hlt)) (by rw[hs1];exact zt (yY _)) gd T.fits ord po rfl)
    ⟨zR _ rfl,zE _ go2,zE _ ht1⟩ (λacc hacc=>?_) (λb hb=>?_)
   ·simp only[zF,zi,or_false] at hb
    rcases hb with rfl|rfl|rfl
    ·exact .inr (by rw[hs1];exact xA _)
    ·exact .inl rfl
    ·exact .inr (zJ _)
   ·have e:acc.toList=(ord.map λp=>es.toList.getD p (0,.none)).map (·.2):=by
     apply yt;intro i;rw[zZ,za,za];rcases zu i acc.size with z|z
     ·obtain⟨p,x,h1,h2,h3⟩:=hacc.2 i acc[i] (zx z)
      rw[zx z,h1,h3];show _=some (es.toList.getD p (0,.none)).2;rw[zS,zZ,h2];rfl
     ·rw[yX z,zn (by rw[hol,hl,<- hacc.1];exact z)];rfl
    have p2:(ord.map λp=>es.toList.getD p (0,.none)).Perm es.toList:=by
     refine(po.map _).trans ?_;have:(zf es.size).map (λp=>es.toList.getD p (0,Value.none))=es.toList:=by
      apply yt;intro i;rw[za];rcases zu i es.size with z|z
      ·rw[xG z]
       show some (es.toList.getD i (0,Value.none))=_;rw[zS,zD (by rw[zM];exact z)];rfl
      ·rw[zn (by rw[zo];exact z),zn (by rw[zM];exact z)];rfl
     rw[this]
    rw[e];exact perm_ok _ p2
   ·rw[yd,hs1]
    simp only[zF,zi,or_false] at hb;rcases hb with rfl|rfl|rfl
    ·rw[hs1];exact yY _
    ·exact yN (yN hlt)
    ·exact yN (yY _)
end
section
variable {prog:Program} {w:World} {A:Around} {E:Value->Shared->Prop} {s:Shared}
theorem qan{R:Result->Shared->Prop}{a:Addr}{xs:List Int}(hh:A.handled=none)(SI:W7 s.heap a (Xa w) xs)(S:Addr)(hSa:S≠a)(res:Value)(c₀:Nat)(hS:s.heap.get? S=some { cls:=.type "list", data:=.seq #[] c₀ })
  (hR:∀ h' tk d acc' c',(∀ b o,b≠S->s.heap.get? b=some o->h'.get? b=some o)->h'.get? S=some { cls:=.type "list", dict:=none,data:=.seq acc' c',slots:=#[] }->(∃ ys,IntsAre acc'.toList ys/\ys.Perm xs)->R (.ok (.ret res)) { s with heap:=h',toks:=tk,drawn:=d }) :
  wpAny (model prog w) A.in1 (Builtin.List.listExtendWith (.ref S) (.ref a) res)
   (λfin s'=>match fin with|.done f=>R (.ok f) s'|.again c'=>c'.quiet=true/\codeAny (model prog w) A c' R s') (λe s'=>R (.error e) s') s:=by
 have hn:xs.length <= sizeLine:=yG (yQ SI.len) (by decide);obtain⟨o,es,ep,t,go,gx,gd,T,gl,gb,gg,gv,gn⟩:=id SI;have hTy:∀ h:Heap,h.get? a=some o->Shared.TypeIs { s with heap:=h } (.ref a) "set" := λh e=>⟨o,e,gx.1⟩;unfold Builtin.List.listExtendWith;refine wpAny_bind (wpAny_typeOf (T := "set") ⟨o,go,gx.1⟩ ?_);have h1:Builtin.List.listSameRef (.ref S) (.ref a)=false:=by simp[Builtin.List.listSameRef,hSa]
 have h2:(Value.type "set" == Value.type "list")=false:=by decide
 have h3:(Value.type "set" == Value.type "tuple")=false:=by decide
 simp only[h1,h2,h3,xy,zy,if_false];refine wpAny_bind (qc7 SI λh1 d I fp P St keep hI hfp W st items hlt=>?_);have hS1:h1.get? S=some { cls:=.type "list", data:=.seq #[] c₀ }:=keep _ _ hS;have hSlt:S < s.heap.objs.size:=zO hS;have hSf:S∉fp:=λhm=>by
  rcases hfp S hm with z|z
  ·exact hSa z
  ·exact absurd hSlt (YT.mpr z)
 have key:∀ (h:Heap) (c₁ tk:Nat),St 0 h->(∀ b o,b≠S->s.heap.get? b=some o->h.get? b=some o) ->
   h.get? S=some { cls:=.type "list", data:=.seq #[] c₁ }->codeAny (model prog w) A (.builtin "list.extend.loop" ⟨[.ref S,.ref I,res],[]⟩) R { s with heap:=h,toks:=tk,drawn:=d }:=by
  intro h c₁ tk hst hk hS₁;refine codeAny_extend_loopS (W A.in1 hh).toS hn S hSf res xs.length 0 _ #[] c₁ rfl (zz _) hst hS₁ (ItemsOf.nil _) λs' acc' c' hm hS' hacc=>?_;rw[Moved.eq_with hm];refine hR s'.heap s'.toks d acc' c' (λb o hb e=>hm.heap b o (λhmem=>?_) (hk b o hb e)) hS' (items acc' hacc);rcases zF.mp hmem with e'|hmem
  ·exact hb e'
  ·exact absurd (zO e) (by rw[zT.mp hmem];exact YT.mpr hI)
 refine wpAny_bind (wpAny_holding (qbS ⟨o,keep _ _ go,gx.1⟩ ?_));refine wpAny_ite_split (λ_=>?_) (λ_=>wpAny_pure ⟨plainId_quiet PySem.F.plain_extend_loop _,key _ c₀ _ st (λb o _ e=>keep b o e) hS1⟩);refine wpAny_bind (wpAny_rule ?_);refine wpAny_bind ?_;show wpAny _ _ (updateSeq S (·.push .none) >>= λ_=>updateSeq S (·.pop)) _ _ _;refine wpAny_bind (wpAny_updateSeq hS1 rfl ?_);have hS₂:=xT (Obj.mapSeq (·.push Value.none)) hS1 rfl;refine wpAny_updateSeq (hz:=by seq_fits) hS₂ rfl ?_;have hS₃:=xT (Obj.mapSeq (·.pop)) hS₂ rfl;refine wpAny_pure ⟨plainId_quiet PySem.F.plain_extend_loop _,key _ _ _ ?_ (λb o hb e=>?_) hS₃⟩
 ·refine(W A.in1 hh).frame 0 _ _ st λb hb o e=>?_
  have hbS:b≠S:=λh=>hSf (h▸hb);exact(zk _ _ (Ne.symm hbS)).trans ((zk _ _ (Ne.symm hbS)).trans e)
 ·exact(zk _ _ (Ne.symm hb)).trans ((zk _ _ (Ne.symm hb)).trans (keep b o e))
theorem q8m{R:List Value->Shared->Prop}{a:Addr}{xs:List Int}(hh:A.handled=none)(SI:W7 s.heap a (Xa w) xs)
  (h:∀ (h':Heap) (tk:Nat) (d:Drawn) (vs:List Value) (ys:List Int),(∀ b o,s.heap.get? b=some o->h'.get? b=some o)->s.heap.objs.size < h'.objs.size->IntsAre vs ys->ys.Perm xs->R vs { s with heap:=h',toks:=tk,drawn:=d }) :
  wpAny (model prog w) A (collect (.ref a)) R E s:=by
 obtain⟨o,es,ep,t,go,gx,gd,T,gl,gb,gg,gv,gn⟩:=id SI;have hlt:a < s.heap.objs.size:=zO go;unfold collect;refine wpAny_bind (wpAny_runValue (codeAny_builtin entry_proto_collect' ?_));rw[Around.under_plainId PySem.F.plain_proto_collect _];show wpAny _ A.in1 (newList [] >>= λl=>again (.builtin "list.__iadd__" ⟨[l,.ref a],[]⟩)) _ _ s;refine wpAny_bind (wpAny_newObj_type ?_);refine wpAny_pure ⟨plainId_quiet PySem.F.plain_list_iadd _,codeAny_builtin entry_list_iadd' ?_⟩;rw[Around.under_plainId PySem.F.plain_list_iadd _];have hS₁:(s.heap.push { cls:=.type "list", data:=.seq ([]:List Value).toArray }).get? s.heap.objs.size=some { cls:=.type "list", data:=.seq #[] }:=zR _ rfl;show wpAny _ A.in1 (Builtin.List.listExtendWith (.ref s.heap.objs.size) (.ref a) (.ref s.heap.objs.size)) _ _ _;have key:=qan (prog:=prog) (A:=A) (s:={ s with heap:=s.heap.push { cls:=.type "list", data:=.seq ([]:List Value).toArray } })
  (R:=λ(q:Result) (s':Shared)=>∃ (h':Heap) (tk:Nat) (d:Drawn) (acc':Array Value) (c':Nat),q=.ok (.ret (.ref s.heap.objs.size))/\s'={ s with heap:=h',toks:=tk,drawn:=d } /\
   (∀ b o,s.heap.get? b=some o->h'.get? b=some o)/\h'.get? s.heap.objs.size=some { cls:=.type "list", dict:=none,data:=.seq acc' c',slots:=#[] }/\∃ ys,IntsAre acc'.toList ys/\ys.Perm xs)
  hh (SI.at λo e=>zE _ e) s.heap.objs.size (xp hlt) (.ref s.heap.objs.size) 0 hS₁
  (λh' tk d acc' c' hk hS' hacc=>⟨h',tk,d,acc',c',rfl,rfl,λb o e=>hk b o (zt (zO e)) (zE _ e),hS',hacc⟩)
 refine wpAny_mono key (λfin s' x=>?_) λe s' x=>?_
 ·cases fin with
  | done f =>
   obtain⟨h',tk,d,acc',c',e,rfl,hk,hS',ys,y1,y2⟩:=x;cases e;show wpAny _ A (load s.heap.objs.size >>= _) _ _ _;refine wpAny_bind (wpAny_load hS' ?_);exact wpAny_pure (h h' tk d _ ys hk (zO hS') y1 y2)
  | again c₁ =>
   refine⟨x.1,codeAny_mono x.2 λq s₂ y=>?_⟩;obtain⟨h',tk,d,acc',c',rfl,rfl,hk,hS',ys,y1,y2⟩:=y;show wpAny _ A (load s.heap.objs.size >>= _) _ _ _;refine wpAny_bind (wpAny_load hS' ?_);exact wpAny_pure (h h' tk d _ ys hk (zO hS') y1 y2)
 ·obtain⟨_,_,_,_,_,e',_⟩:=x
  cases e'
theorem qaj{a:Addr}{xs:List Int}{Q:Value->Shared->Prop}(hh:A.handled=none)(SI:W7 s.heap a (Xa w) xs)(h64:xs.length < 64)
  (h:∀ (D:Addr) (h':Heap) (tk:Nat) (d:Drawn) (vs:List Value) (ys:List Int) (n:Nat),(∀ b o,s.heap.get? b=some o->h'.get? b=some o)->s.heap.objs.size <= D->h'.get? D=some (seqObj "list" vs.toArray n)->IntsAre vs ys->ys.Perm xs->ys.Pairwise (· <= ·)->Q (.ref D) { s with heap:=h',toks:=tk,drawn:=d }) :
  wpAny (model prog w) A (call (.builtin "sorted") [.ref a]) Q E s:=by
 refine Calls.call_function_entry kind_sorted plain_sorted entry_sorted (args_sorted1 _) ?_;unfold Builtin.«sorted»;refine wpAny_bind (m:=checkCount "sorted" 1 1 _) (wpAny_pure ?_);refine wpAny_bind (q8m (A:=A.in1) hh SI λh1 tk d vs ys hk hz y1 y2=>?_);have hlen:vs.length=xs.length:=by rw[IntsAre.length y1,y2.length_eq]
 refine wpAny_bind (wpAny_newList ?_ (yG (by rw[hlen];exact yQ h64) (by decide)));have hoL:(h1.push (seqObj "list" vs.toArray 0)).get? h1.objs.size=some (seqObj "list" vs.toArray 0):=zR _ rfl;refine wpAny_bind (wpAny_holding (wpAny_call_entry slot_list_sort ⟨_,hoL,rfl⟩ entry_list_sort (list_sort_tree hoL y1 (by rw[hlen];exact h64) λout ns' a1 a2 a3=>⟨_,rfl,?_⟩) (args_list_sort _)));obtain⟨n,hn⟩:=sortedHeap_at (vs:=vs) (out:=out) hoL;refine wpAny_pure ⟨_,rfl,h h1.objs.size _ tk d out.toList ns' n (λb o e=>?_) ?_ ?_ a1 (a2.trans y2) a3⟩
 ·have e1:=hk b o e
  rw[sortedHeap_old (zt (zO e1)) (by rw[yd];exact yN (zO e1))];exact zE _ e1
 ·exact yQ hz
 ·rw[xb];exact hn
end
end Hk
namespace L2
open PySem PySem.Spec PyProof.Rows
noncomputable def WL(names:List (Str×NameKind))(cells:List (Str×Addr))(cs:List (Str×Addr)):List (Str×Addr) :=
 match names with
 | []=>cs
 | p::r=>WL r cells (if p.2 == .free then (p.1,(cells.lookup p.1).getD 0)::cs else cs)
theorem q2N{scope:Scope}{env:Env}(h:∀ p∈scope.names,p.2=NameKind.free->(env.cells.lookup p.1).isSome=true) :
  closureFor scope env=pure (WL scope.names env.cells []):=by
 simp only[closureFor];generalize scope.names=l at h ⊢;have key:∀ (l:List (Str×NameKind)) (cs:List (Str×Addr)),(∀ p∈l,p.2=NameKind.free->(env.cells.lookup p.1).isSome=true) ->
   (forIn l cs (λ(p:Str×NameKind) (r:List (Str×Addr))=>if (p.2 == NameKind.free)=true then (do let a <- cellOf env p.1;pure (ForInStep.yield ((p.1,a)::r))) else pure (ForInStep.yield r)):Sem _)=pure (WL l env.cells cs):=by
  intro l
  induction l with
  | nil=>intro cs _;rfl
  | cons p r ih =>
   intro cs hp;rw[ZQ];have hr:=λq hq=>hp q (zH _ hq)
   by_cases hf:p.2=NameKind.free
   ·have hs:=hp p zG hf
    obtain⟨a,ha⟩:=yl.mp hs;have e:cellOf env p.1=pure a:=by unfold cellOf;rw[ha]
    have hb:(p.2 == NameKind.free)=true:=by rw[hf];rfl
    rw[if_pos hb,e,pure_bind,pure_bind];show forIn r _ _=_;rw[ih _ hr];show _=pure (WL r env.cells (if p.2 == .free then _ else _));rw[if_pos hb,ha];rfl
   ·have hb:¬(p.2 == NameKind.free)=true:=by intro z;exact hf (by cases hk:p.2 <;> simp_all)
    rw[if_neg hb,pure_bind];show forIn r _ _=_;rw[ih _ hr];show _=pure (WL r env.cells (if p.2 == .free then _ else _));rw[if_neg hb]
 rw[key l [] h];rfl
theorem q99{k:NameKind}(h:(k == NameKind.free)=true):k=NameKind.free:=by cases k <;> first|rfl|cases h
theorem q35{cells:List (Str×Addr)}:∀ (l:List (Str×NameKind)) (cs:List (Str×Addr)),(∀ p∈l,p.2=NameKind.free->(cells.lookup p.1).isSome=true) ->
  (∀ x c,cs.lookup x=some c->cells.lookup x=some c)->∀ x c,(WL l cells cs).lookup x=some c->cells.lookup x=some c
 | [],cs,_,h,x,c,e=>h x c e
 | p::r,cs,hp,h,x,c,e=>by
  refine q35 r _ (λq hq=>hp q (zH _ hq)) (λy d hy=>?_) x c e
  by_cases hb:(p.2 == NameKind.free)=true
  ·rw[if_pos hb,y0] at hy
   cases hyp:y == p.1 with
   | true =>
    rw[hyp] at hy;have hy':(cells.lookup p.1).getD 0=d:=zw hy;obtain⟨a,ha⟩:=yl.mp (hp p zG (q99 hb));rw[ha] at hy';rw[eq_of_beq hyp,ha,<- hy'];rfl
   | false=>rw[hyp] at hy;exact h y d hy
  ·rw[if_neg hb] at hy;exact h y d hy
theorem q2Q{cells:List (Str×Addr)}:∀ (l:List (Str×NameKind)) (cs:List (Str×Addr)) (x:Str),((x,NameKind.free)∈l\/(cs.lookup x).isSome=true)->((WL l cells cs).lookup x).isSome=true
 | [],cs,x,h=>by
  rcases h with h|h
  ·cases h
  ·exact h
 | p::r,cs,x,h=>by
  refine q2Q r _ x ?_;rcases h with h|h
  ·rcases zF.mp h with rfl|h
   ·right
    show (List.lookup x (if (NameKind.free == NameKind.free)=true then _ else _)).isSome=true;rw[if_pos (by rfl),y0,beq_self_eq_true];rfl
   ·exact .inl h
  ·right
   by_cases hb:(p.2 == NameKind.free)=true
   ·rw[if_pos hb,y0]
    cases hx:x == p.1 with
    | true=>rfl
    | false=>exact h
   ·rw[if_neg hb];exact h
noncomputable def Xt(X:Cx)(N:List Str)(scope:Scope)(C:Addr)(s:Shared)(H:Hp)(fp:List Addr):Cx :=
 { X with N:=N,s₀:=s,H₀:=H,env:=compEnvC scope (WL scope.names X.env.cells []) C X.env,outer:=X.stack,stack:=X.stack,ex:=fp,fn:=λ_=>false,pn:=[],xe:=λ_ _=>False }
noncomputable def zBT(M:Nat)(frees:List Nat)(σ:St):St:=zh M none++frees.map λj=>(σ[j]?).getD none
structure BlkOk (X:Cx) (N:List Str) (M:Nat) (frees:List Nat) (scope:Scope):Prop where
 kind:scope.kind=.function
 nocell:∀ y∈scope.names,y.2≠.cell
 own:∀ y∈scope.names,y.2=.local->scope.names.lookup y.1=some .local
 cells:∀ p∈scope.names,p.2=NameKind.free->(X.env.cells.lookup p.1).isSome=true
 fr:∀ (k:Nat) (x:Str),N[M+k]?=some x->∃ j,frees[k]?=some j/\X.N[j]?=some x/\(X.env.kindOf x=some .cell\/X.env.kindOf x=some .free)/\scope.names.lookup x=some .free
 len:N.length=M+frees.length
theorem q1L{env:Env}{x:Str}:∀ {names:List (Str×NameKind)} {k:NameKind},(∀ y∈names,y.2≠.cell)->(k=.cell\/k=.free) ->
  (names.map λ(n,k)=>if (k == NameKind.free && env.scope.kind == .function && env.kindOf n == some .cell) then (n,NameKind.cell) else (n,k)).lookup x=some k->(x,NameKind.free)∈names
 | [],_,_,_,h=>by cases h
 | (n,k0)::r,k,hc,hk,h=>by
  have ih:=@q1L env x r k (λy hy=>hc y (zH _ hy)) hk;rw[zg] at h
  by_cases hb:(k0 == NameKind.free && env.scope.kind == .function && env.kindOf n == some .cell)=true
  ·have hf:k0=NameKind.free:=q99 (by rw[yI,yI] at hb;exact hb.1.1)
   dsimp only at h
   rw[if_pos hb,y0] at h;cases hx:x == n with
   | true=>rw[eq_of_beq hx,hf];exact zG
   | false=>rw[hx] at h;exact zH _ (ih h)
  ·dsimp only at h
   rw[if_neg hb,y0] at h;cases hx:x == n with
   | true =>
    rw[hx] at h;have e:k0=k:=zw h;have z:=hc (n,k0) zG;rw[eq_of_beq hx];rcases hk with rfl|rfl
    ·exact absurd e z
    ·rw[e];exact zG
   | false=>rw[hx] at h;exact zH _ (ih h)
theorem q31{env:Env}{x:Str}:∀ {names:List (Str×NameKind)},names.lookup x=some .free ->
  (names.map λ(n,k)=>if (k == NameKind.free && env.scope.kind == .function && env.kindOf n == some .cell) then (n,NameKind.cell) else (n,k)).lookup x=some .cell \/
  (names.map λ(n,k)=>if (k == NameKind.free && env.scope.kind == .function && env.kindOf n == some .cell) then (n,NameKind.cell) else (n,k)).lookup x=some .free
 | [],h=>by cases h
 | (n,k0)::r,h=>by
  have ih:=@q31 env x r;rw[zg]
  dsimp only
  rw[y0] at h
  by_cases hb:(k0 == NameKind.free && env.scope.kind == .function && env.kindOf n == some .cell)=true
  ·rw[if_pos hb,y0]
   cases hx:x == n with
   | true=>exact .inl rfl
   | false=>rw[hx] at h;exact ih h
  ·rw[if_neg hb,y0]
   cases hx:x == n with
   | true=>rw[hx] at h;exact .inr h
   | false=>rw[hx] at h;exact ih h
section
variable {X:Cx} {pins:List (Addr×Obj)} {σ:St} {H:Hp} {s:Shared} {N:List Str} {M:Nat} {frees:List Nat} {scope:Scope} {fp:List Addr}
theorem Inv.enter{h1:Heap}{C D tk:Nat}{m1:Str->Option Value}(I:Inv X pins σ H s)(B:BlkOk X N M frees scope)(f:∀ b∈fp,X7 X pins H b)(lt:∀ b∈fp,b < s.heap.objs.size)
  (hC:s.heap.objs.size < C) (hD:s.heap.objs.size <= D) (hDC:C≠D) (k:∀ b u,s.heap.get? b=some u->h1.get? b=some u) (hns:h1.Ns C m1)
  (hl:h1.get? D=some { cls:=.type "list", data:=.seq ([]:List Value).toArray }) :
  Inv (Xt X N scope C s H fp) [] (zBT M frees σ) (upd H D (.lst [])) { s with heap:=h1,toks:=tk }:=by
 have sub:=q35 (cells:=X.env.cells) scope.names [] B.cells (λx c e=>by cases e);have hfr:H D=none:=I.hok.fresh hD;have hfc:H C=none:=I.hok.fresh (yQ hC);have clt:∀ x c,(WL scope.names X.env.cells []).lookup x=some c->c < s.heap.objs.size:=λx c e=>by
  obtain⟨v,q⟩:=I.cell x c (sub x c e);exact q.lt
 refine⟨⟨I.ok.mod,B.kind,I.ok.glob,I.ok.blt,yQ hC,λx y c e1 e2=>I.ok.inj x y c (sub x c e1) (sub y c e2),λx hx=>?_,λx c e=>absurd e (by intro z;cases z),I.ok.hd,I.ok.frames,.inl rfl,λb hb=>?_,I.bs,yG I.ok.bsz I.sz,λb o e hb=>?_,
  λb hb hf=>?_,I.stack,I.stkFree⟩,rfl,I.bare,Un.laid k hD hfr,⟨m1,hns,λi x v e1 e2 e3=>?_⟩,λx c e=>?_,?_,λx c e=>?_,λp hp=>absurd (show p∈([]:List (Addr×Obj)) from hp) (by simp),I.hok.laid k hD ⟨zz _,[],0,.nil,hl⟩,?_⟩
 ·have hm:(x,NameKind.free)∈scope.names:=by
   rcases hx with hx|hx
   ·exact q1L B.nocell (.inl rfl) hx
   ·exact q1L B.nocell (.inr rfl) hx
  exact yl.mp (q2Q scope.names [] x (.inl hm))
 ·exact⟨zt (Z0 (lt b hb) hC),λx c e=>(f b hb).2.2.2.2.1 x c (sub x c e)⟩
 ·rcases (f b hb).2.2.2.1 with z|z
  ·exact I.ok.noex b o e z
  ·exact absurd (zv (zO e) (yG I.ok.bsz z)) (xg _)
 ·rcases zF.mp (I.stkSub b hf) with z|z
  ·exact(f b hb).2.1 z
  ·exact(f b hb).2.2.1 z
 ·have hi:M <= i:=by
   rcases zu i M with z|z
   ·unfold zBT at e2
    rw[zc (by simpa using z),yp,if_pos z] at e2;cases e2
   ·exact z
  obtain⟨q,rfl⟩:∃ q,i=M+q:=⟨i - M,by omega⟩;obtain⟨j,h1',h2',h3',h4'⟩:=B.fr q x e1;have ev:σ[j]?=some (some v):=by
   unfold zBT at e2;rw[zW (by simp),yK,wy,za,h1'] at e2;cases e:σ[j]? with
   | none=>rw[yn,e] at e2;cases e2
   | some o=>rw[yn,e] at e2;exact e2
  obtain⟨m,hn,hl'⟩:=I.loc;have vis:Vis X.env.scope x:=by
   rcases h3' with z|z
   ·exact .inr (.inl z)
   ·exact .inr (.inr z)
  obtain⟨u,ru,lk⟩:=hl' j x v h2' ev vis;refine⟨u,ru,.inr ?_⟩;rcases lk with⟨z,_⟩|⟨_,c,ec,ic⟩
  ·rcases h3' with y|y <;> (rw[z] at y;cases y)
  ·obtain⟨c',ec'⟩:=yl.mp (q2Q (cells:=X.env.cells) scope.names [] x (.inl (PySem.mem_of_lookup h4')))
   have:c'=c:=zw ((sub x c' ec').symm.trans ec);subst this;exact⟨q31 h4',c',ec',ic.keeps k⟩
 ·obtain⟨v,q⟩:=I.cell x c (sub x c e)
  exact⟨v,q.keeps k⟩
 ·show upd H D (.lst []) C=none
  rw[qc hDC];exact hfc
 ·show upd H D (.lst []) c=none
  rw[qc (zt (zv (clt x c e) hD))];exact I.freeC x c (sub x c e)
 ·show (zBT M frees σ).length=N.length
  unfold zBT;rw[zC,yK,zB,B.len]
end
section
variable {prog:Program} {w:World} {A:Around} {R:Result->Shared->Prop} {s:Shared}
theorem q8n{elt target iter:Expr}{ifs:List Expr}{scope:Scope}{pos:Pos}{it acc:Value}{env:Env}(J:Nat->Shared->Prop)
  (turn:∀ n s,J n s->wpAny (model prog w) A (pyNext it) (λr s1=>match r with
   | none=>R (.ok .next) s1
   | some v=>wpAny (model prog w) A (letOwnedTupleGo target it v) (λ_ s2=>wpAny (model prog w) A (assign target env v) (λ_ s3 =>
     wpAny (model prog w) A (forIn ifs true λc r=>if r=true then do let ok <- isTrue c env (eval c env);pure (ForInStep.yield ok) else pure (ForInStep.yield r)) (λok s4 =>
      if ok=true then wpAny (model prog w) A (eval elt env) (λx s5=>wpAny (model prog w) A (call (.builtin "list.append") [acc,x]) (λ_ s6=>∃ m,m < n/\J m s6) (λ_ _=>False) s5) (λ_ _=>False) s4
      else ∃ m,m < n/\J m s4) (λ_ _=>False) s3) (λ_ _=>False) s2) (λ_ _=>False) s1) (λ_ _=>False) s)
  (n:Nat) (h:J n s):codeAny (model prog w) A (.compLoop (.ListComp elt [⟨target,iter,ifs,0⟩] scope pos) 0 it acc env) R s:=by
 refine codeAny_loop rfl J (λn s hJ=>?_) n h;show wpAny _ A ((compTurn (.ListComp elt [⟨target,iter,ifs,0⟩] scope pos) 0 it acc env).onRaise (λx=>do noteFrame x env;theTreesLotGoes x)) _ _ s;refine wpAny_noted (wpAny_mono (Q:=λfin s'=>match fin with|.done f=>R (.ok f) s'|.again c'=>c'=.compLoop (.ListComp elt [⟨target,iter,ifs,0⟩] scope pos) 0 it acc env/\∃ m,m < n/\J m s') ?_ (λ_ _ q=>q) λ_ _ (z:False)=>z.elim);rw[compTurn_list];refine wpAny_bind (wpAny_standAt (wpAny_bind (wpAny_mono (turn n s hJ) (λr s1 h1=>?_) λ_ _ q=>q)));cases r with
 | none=>exact wpAny_pure h1
 | some v =>
  refine wpAny_bind (wpAny_mono h1 (λ_ s2 h2=>wpAny_bind (wpAny_mono h2 (λ_ s3 h3=>wpAny_bind (wpAny_mono h3 (λok s4 h4=>?_) λ_ _ q=>q)) λ_ _ q=>q)) λ_ _ q=>q);cases ok with
  | false=>exact wpAny_pure ⟨rfl,h4⟩
  | true=>exact wpAny_bind (wpAny_bind (wpAny_mono h4 (λx s5 h5=>wpAny_bind (wpAny_mono h5 (λ_ s6 h6=>wpAny_pure (wpAny_pure ⟨rfl,h6⟩)) λ_ _ q=>q)) λ_ _ q=>q))
end
def PTs(X:Cx)(ifs:List Expr)(t:TT):Prop :=
 ∀ (pins:List (Addr×Obj)) (s:Shared) (σ:St) (H:Hp) (Q:Bool->Hp->Prop),Inv X pins σ H s->t σ H Q ->
  wpAny (model X.prog X.w) X.A (forIn ifs true λc r=>if r=true then do let ok <- isTrue c X.env (eval c X.env);pure (ForInStep.yield ok) else pure (ForInStep.yield r)) (TP X pins σ Q) X.xe s
theorem qdC{X:Cx}:PTs X [] (λ_ H Q=>Q true H):=λ_ _ _ H _ I q=>wpAny_tests_nil ⟨H,I,q⟩
theorem qeq{X:Cx}{c:Expr}{t:TT}(h:PT X c t):PTs X [c] t:=λpins s σ H Q I q=>wpAny_tests_one (h pins s σ H Q I q)
noncomputable def zB5(M:Nat)(frees:List Nat)(wi:TI)(g:TG)(tc:TT)(te:TE):TE:=λσ H Q=>wi σ H λJ H1=>∀ D,H1 D=none ->
 ∃ W:Nat->Nat->St->Hp->Prop,(∃ m,W 0 m (zBT M frees σ) (upd H1 D (.lst [])))/\∀ i m σ' H',W i m σ' H' ->
  (J.stop i H'/\Q (.ref D) H')\/(J.go i H'/\∀ x H2,J.yld i H' x H2->g x σ' H2 λσ2 H3=>tc σ2 H3 λb H4 =>
   if b=true then te σ2 H4 λv H5=>∃ acc,H5 D=some (.lst acc)/\acc.length < sizeLine/\∃ m',m' < m/\W (i+1) m' σ2 (upd H5 D (.lst (acc++[v])))
   else ∃ m',m' < m/\W (i+1) m' σ2 H4)
section
variable {X:Cx} {N:List Str} {M:Nat} {frees:List Nat} {scope:Scope} {tg iter elt:Expr} {ifs:List Expr} {pos:Pos} {wi:TI} {g:TG} {tc:TT} {te:TE}
theorem q7b(hc:X.calm=true)(B:BlkOk X N M frees scope)
  (hb:∀ C s H fp,PG (Xt X N scope C s H fp) tg g/\PTs (Xt X N scope C s H fp) ifs tc/\PE (Xt X N scope C s H fp) elt te)
  {pins:List (Addr×Obj)} {σ:St} {Q:VK} {s2:Shared} {itv:Value} {E:Value->Shared->Prop} {RR:Value->Addr->Result->Shared->Prop}
  (h2:PIE X pins σ tg (λJ H1=>∀ D,H1 D=none ->
   ∃ W:Nat->Nat->St->Hp->Prop,(∃ m,W 0 m (zBT M frees σ) (upd H1 D (.lst [])))/\∀ i m σ' H',W i m σ' H' ->
    (J.stop i H'/\Q (.ref D) H')\/(J.go i H'/\∀ x H2,J.yld i H' x H2->g x σ' H2 λσ2 H3=>tc σ2 H3 λb H4 =>
     if b=true then te σ2 H4 λv H5=>∃ acc,H5 D=some (.lst acc)/\acc.length < sizeLine/\∃ m',m' < m/\W (i+1) m' σ2 (upd H5 D (.lst (acc++[v])))
     else ∃ m',m' < m/\W (i+1) m' σ2 H4)) itv s2)
  (hR:∀ D C s' H' m,Inv X pins σ H' s'->Q (.ref D) H'->s'.heap.Ns C m->H' C=none->C≠X.env.locals->X.s₀.heap.objs.size <= C->(∀ x c,X.env.cells.lookup x=some c->c≠C)->(∀ p∈X.pn++pins,p.1≠C)->RR (.ref D) C (.ok .next) s') :
  wpAny (model X.prog X.w) X.A (newList []) (λacc s3=>wpAny (model X.prog X.w) X.A (newFunctionEnv scope X.env.globals (WL scope.names X.env.cells []) [] X.env.qual none .none (some X.env)) (λcenv s4 =>
   codeAny (model X.prog X.w) X.A (.compStart (.ListComp elt [⟨tg,iter,ifs,0⟩] scope pos) 0 itv acc { cenv with scope:=relabel scope X.env }) (RR acc cenv.locals) s4) E s3) E s2:=by
 obtain⟨it,fp,tn,J,H2,e,I2,T,st2,f2,q⟩:=h2;subst e;refine wpAny_newObj_type (wpAny_newFunctionEnv B.nocell (by intro y hy;simp at hy) (λh1 hns hsb=>?_) B.kind)
 dsimp only at hns hsb ⊢
 generalize hP:s2.heap.push { cls:=.type "list", dict:=none,data:=.seq ([]:List Value).toArray }=P1 at hns hsb ⊢;have hsz:P1.objs.size=s2.heap.objs.size+1:=by rw[<- hP,yd]
 have below:∀ b,b < s2.heap.objs.size->b≠P1.objs.size:=λb z=>by rw[hsz];exact zt (yN z)
 have keep:∀ b u,s2.heap.get? b=some u->h1.get? b=some u:=λb u z=>hsb.extBut b u (below b (zO z)) (zE _ (hP▸zE _ z));have hne:s2.heap.objs.size≠P1.objs.size:=by rw[hsz];exact zt (yY _)
 have hl:h1.get? s2.heap.objs.size=some { cls:=.type "list", data:=.seq ([]:List Value).toArray }:=hsb.extBut _ _ hne (zE _ (hP▸zR _ rfl));have lt2:∀ b∈fp,b < s2.heap.objs.size:=λb z=>by
  obtain⟨o,eo,_⟩:=T.obj _ _ st2 b z;exact zO eo
 have hD0:H2 s2.heap.objs.size=none:=I2.hok.fresh (zJ _);obtain⟨W,⟨m0,w0⟩,turn⟩:=q s2.heap.objs.size hD0;have I4:=I2.enter (N:=N) (M:=M) (frees:=frees) (scope:=scope) (fp:=fp) (h1:=h1) (C:=P1.objs.size) (D:=s2.heap.objs.size) (tk:=s2.toks+([]:List (Str×Value)).length) B f2 lt2 (by rw[hsz];exact yY _) (zJ _) (Ne.symm hne) keep hns hl;have hcx:∀ (C:Addr),(Xt X N scope C s2 H2 fp).calm=true:=λ_=>hc;have stat:∀ {H':Hp},(∀ b∈fp,H' b=none)->∀ b∈fp,X7 (Xt X N scope P1.objs.size s2 H2 fp) [] H' b:=λ{H'} hn b z=>by
  refine⟨hn b z,below b (lt2 b z),λy=>?_,.inl z,λx c y=>?_,λp y=>absurd (show p∈([]:List (Addr×Obj)) from y) (by simp)⟩
  ·rcases zF.mp (I2.stkSub b y) with u|u
   ·exact(f2 b z).2.1 u
   ·exact(f2 b z).2.2.1 u
  ·exact(f2 b z).2.2.2.2.1 x c (q35 (cells:=X.env.cells) scope.names [] B.cells (λx c e=>by cases e) x c y)
 have fr4:∀ b∈fp,(upd H2 s2.heap.objs.size (HO.lst [])) b=none:=λb z=>by
  rw[qc (zt (lt2 b z))];exact(f2 b z).1
 have st4:tn 0 h1:=T.keep _ _ _ st2 λb _ o z=>keep b o z;have fin:∀ (s':Shared) (σ':St) (H':Hp),Inv (Xt X N scope P1.objs.size s2 H2 fp) [] σ' H' s'->Q (.ref s2.heap.objs.size) H'->RR (.ref s2.heap.objs.size) P1.objs.size (.ok .next) s':=λs' σ' H' I' q'=>by
  obtain⟨m,hm,_⟩:=I'.loc;have u':Un (frs X.stack) fp H2 H' s2.heap s'.heap:=I'.base;have I0:Inv X pins σ H' s':=I2.call' (ch:=fp) I'.os u' I'.hok I'.bare λb z=>⟨(f2 b z).2.2.2.1,(f2 b z).2.1,(f2 b z).2.2.2.2.1,(f2 b z).2.2.2.2.2⟩;refine hR _ _ s' H' m I0 q' hm I'.free (xp (zv I2.lt (by rw[hsz];exact xA _))) (yG I2.sz (by rw[hsz];exact xA _)) (λx c z=>?_) λp z=>?_
  ·obtain⟨v,y⟩:=I2.cell x c z
   exact below c y.lt
  ·exact below p.1 (zO (I2.pin p z).1)
 have loop:∀ s4:Shared,s4={ s2 with heap:=h1,toks:=s2.toks+([]:List (Str×Value)).length } ->
   codeAny (model X.prog X.w) X.A (.compLoop (.ListComp elt [⟨tg,iter,ifs,0⟩] scope pos) 0 (.ref it) (.ref s2.heap.objs.size) (compEnvC scope (WL scope.names X.env.cells []) P1.objs.size X.env)) (RR (.ref s2.heap.objs.size) P1.objs.size) s4:=by
  rintro s4 rfl;refine q8n (λn s'=>∃ i σ' H',Inv (Xt X N scope P1.objs.size s2 H2 fp) [] σ' H' s'/\tn i s'.heap/\(∀ b∈fp,H' b=none)/\W i n σ' H') ?_ m0 ⟨0,_,_,I4,st4,fr4,w0⟩;rintro n s5 ⟨i,σ5,H5,I5,st5,fr5,w5⟩;rcases turn i n σ5 H5 w5 with⟨stop,qn⟩|⟨go,step⟩
  ·refine thn (T.done (Xt X N scope P1.objs.size s2 H2 fp) rfl rfl rfl hc i [] s5 σ5 H5 _ I5 (stat fr5) st5 stop) λr s6 ⟨hr,I6⟩=>?_
   subst hr;exact fin s6 σ5 H5 I6 qn
  ·refine thn (T.item (Xt X N scope P1.objs.size s2 H2 fp) rfl rfl rfl hc i [] s5 σ5 H5 _ I5 (stat fr5) st5 go) λr s6 ⟨u,hr,h6⟩=>?_
   subst hr;refine thn h6 λ_ s7 ⟨x,H7,I7,r7,y7,st7,fr7⟩=>?_;have I7':=I7.pinned (stat fr7) (T.obj _ _ st7);have B7:=hb P1.objs.size s2 H2 fp;refine thn (B7.1 _ s7 σ5 H7 x u _ I7' r7 (step x H7 y7)) λ_ s8 ⟨σ8,H8,I8,q8⟩=>?_;refine thn (B7.2.1 _ s8 σ8 H8 _ I8 q8) λok s9 ⟨H9,I9,q9⟩=>?_;have again:∀ {σa:St} {Ha:Hp} {sa:Shared},Inv (Xt X N scope P1.objs.size s2 H2 fp) ([]++Wv fp s7.heap) σa Ha sa->(∃ m',m' < n/\W (i+1) m' σa Ha) ->
     ∃ m,m < n/\∃ i σ' H',Inv (Xt X N scope P1.objs.size s2 H2 fp) [] σ' H' sa/\tn i sa.heap/\(∀ b∈fp,H' b=none)/\W i m σ' H':=λ{σa Ha sa} Ia ⟨m',hm,wa⟩=>by
    refine⟨m',hm,i+1,σa,Ha,Ia.unpinned,T.keep _ _ _ st7 λb z o eo=>(Ia.pin (b,o) (zQ _ (zQ _ (q1x z eo)))).1,λb z=>?_,wa⟩;obtain⟨o,eo,d⟩:=T.obj _ _ st7 b z;exact(Ia.pin (b,o) (zQ _ (zQ _ (q1x z eo)))).2.1
   cases ok with
   | false=>exact again I9 q9
   | true =>
    rw[if_pos rfl];refine thn (B7.2.2 _ s9 σ8 H9 _ I9 q9) λy s10 ⟨v,H10,I10,r10,acc,ha,hz,m',hm,wn⟩=>?_;refine thn (q0n (X:=Xt X N scope P1.objs.size s2 H2 fp) _ s10 σ8 H10 (.ref s2.heap.objs.size) [v] (.ref s2.heap.objs.size) [y] (λ_ Hn=>∃ m',m' < n/\W (i+1) m' σ8 Hn) I10 rfl (.cons r10 .nil) ⟨_,acc,v,rfl,rfl,ha,hz,m',hm,wn⟩) λ_ s11 ⟨_,H11,I11,_,q11⟩=>?_;exact again I11 q11
 exact codeAny_compStart_list (loop _ rfl) (T.self _ 0 _ _ _ st4 (loop _ rfl))
theorem qez(hc:X.calm=true)(B:BlkOk X N M frees scope)(hi:PI X tg iter wi)
  (hb:∀ C s H fp,PG (Xt X N scope C s H fp) tg g/\PTs (Xt X N scope C s H fp) ifs tc/\PE (Xt X N scope C s H fp) elt te)
  (hs:∀ x,foldedSetIterable iter X.env x=pure x:=by intro _;rfl):PE X (.ListComp elt [⟨tg,iter,ifs,0⟩] scope pos) (zB5 M frees wi g tc te):=by
 intro pins s σ H Q I h;rw[eval_ListComp];refine wpAny_comprehension_free (use:=none) rfl hs (q2N B.cells) B.kind B.own (wpAny_mono (hi pins s σ H _ I h) (λv s1 h1=>wpAny_mono h1 (λitv s2 h2=>?_) λ_ _ q=>q) λ_ _ q=>q);refine q7b (RR:=λacc C=>compPost (model X.prog X.w) X.A X.xe none (EP X pins σ Q) acc C) hc B hb h2 λD C s' H' m I' q' hm hC h1 h3 h4 h5=>?_;exact⟨m,hm,λh' hs'=>⟨.ref D,H',I'.turned (t':=s'.toks) (λb o z y=>hs'.extBut b o z y) hC h1 (.inr h3) h4 h5,rfl,q'⟩⟩
theorem qed{i:Nat}{x:Str}{pos' spos:Pos}(hc:X.calm=true)(hN:X.N.Nodup)(hi':X.N[i]?=some x)(hx:X.env.scope.names.lookup x=some .local)(B:BlkOk X N M frees scope)(hi:PI X tg iter wi)
  (hb:∀ C s H fp,PG (Xt X N scope C s H fp) tg g/\PTs (Xt X N scope C s H fp) ifs tc/\PE (Xt X N scope C s H fp) elt te)
  (hsw:swapsWith (.ListComp elt [⟨tg,iter,ifs,0⟩] scope pos) (some (.Name x pos')) spos.line X.env=pure true:=by rfl)
  (hs:∀ x,foldedSetIterable iter X.env x=pure x:=by intro _;rfl):PS X (.Assign [.Name x pos'] (.ListComp elt [⟨tg,iter,ifs,0⟩] scope pos) spos) (zAV (zB5 M frees wi g tc te) (Xr i)):=by
 intro pins s σ H D I h;rw[exec_Assign_Name_used _ _ _ _ hsw];refine wpAny_bind (wpAny_standAt (wpAny_bind ?_));show wpAny _ X.A (do let _ <- comprehension (.ListComp elt [⟨tg,iter,ifs,0⟩] scope pos) scope X.env _ (newList []) false (eval iter X.env) (some (assign (.Name x pos') X.env))) _ _ s;refine wpAny_bind (wpAny_mono (wpAny_comprehension_free (use:=some (assign (.Name x pos') X.env)) (Q:=λ_ s'=>SP X pins D .next s') rfl hs (q2N B.cells) B.kind B.own
  (wpAny_mono (hi pins s σ H _ I h) (λv s1 h1=>wpAny_mono h1 (λitv s2 h2=>?_) λ_ _ q=>q) λ_ _ q=>q)) (λ_ s' hq=>wpAny_pure (wpAny_pure hq)) λ_ _ q=>q)
 refine q7b (Q:=λy H1=>Xr i y σ H1 D.nx) (RR:=λacc C=>compPost (model X.prog X.w) X.A X.xe (some (assign (.Name x pos') X.env)) (λ_ s'=>SP X pins D .next s') acc C) hc B hb h2 λDd C s' H' m I' q' hm hC h1 h3 h4 h5=>?_;show wpAny _ X.A (assign (.Name x pos') X.env (.ref Dd)) _ _ _;refine wpAny_assign_Name (q69 I' hN hi' (.inl hx) (v:=.ref Dd) (u:=.ref Dd) rfl (λs'' I'' ⟨a,hsb,ha⟩=>?_) (.inr hx));have hCa:C≠a:=by
  rcases ha with rfl|ha
  ·exact h1
  ·exact Ne.symm (h4 x a ha)
 refine⟨m,hm.sameBut hsb hCa,λh' hs'=>⟨_,H',I''.turned (t':=s''.toks) (λb o z y=>hs'.extBut b o z y) hC h1 (.inr h3) h4 h5,q'⟩⟩
end
end L2
namespace Hk
open PySem L2
inductive D where
 | non|bl (b:Bool)|int (i:Int)|str (x:Str)|lst (xs:List D)|tup (xs:List D)|scr (ns:List Int)|exc (c:Str)|dic (ks:List Int) (xs:List D)
noncomputable def kvsOf:List Int->List V->List (Key×V)
 | k::ks,v::vs=>(.inl k,v)::kvsOf ks vs
 | _,_=>[]
def excP(a C:Addr)(h:Heap):Prop:=∃ o,h.get? a=some o/\o.cls=.ref C
mutual
def Rep(K:zA)(H:Hp):D->V->Prop
 | .non,v=>v=.non
 | .bl b,v=>v=.bl b
 | .int i,v=>v=.int i
 | .str x,v=>v=.str x
 | .lst ds,v=>∃ a vs,v=.ref a/\H a=some (.lst vs)/\Yo K H ds vs
 | .tup ds,v=>∃ a vs,v=.ref a/\H a=some (.tup vs)/\Yo K H ds vs
 | .scr ns,v=>∃ a,v=.ref a/\SqL K H a (ns.map V.int)
 | .exc c,v=>∃ a C,v=.ref a/\yO K mainGlobals c=some (some (.ref C))/\H a=some (.ext (excP a C))
 | .dic ks ds,v=>∃ a vs,v=.ref a/\(∃ o,H a=some (.frz o (.dK (kvsOf ks vs))))/\ks.length=ds.length/\Yo K H ds vs
def Yo(K:zA)(H:Hp):List D->List V->Prop
 | [],vs=>vs=[]
 | d::ds,vs=>∃ v r,vs=v::r/\Rep K H d v/\Yo K H ds r
end
mutual
theorem Rep.mono{K:zA}{H H':Hp}(e:Yz H H'):∀ {d:D} {v:V},Rep K H d v->Rep K H' d v
 | .non,_,h=>h
 | .bl _,_,h=>h
 | .int _,_,h=>h
 | .str _,_,h=>h
 | .lst _,_,⟨a,vs,h1,h2,h3⟩=>⟨a,vs,h1,e _ _ h2,Yo.mono e h3⟩
 | .tup _,_,⟨a,vs,h1,h2,h3⟩=>⟨a,vs,h1,e _ _ h2,Yo.mono e h3⟩
 | .scr _,_,⟨a,h1,h2⟩=>⟨a,h1,e.seq h2⟩
 | .exc _,_,⟨a,C,h1,h2,h3⟩=>⟨a,C,h1,h2,e _ _ h3⟩
 | .dic _ _,_,⟨a,vs,h1,⟨o,h2⟩,h4,h3⟩=>⟨a,vs,h1,⟨o,e _ _ h2⟩,h4,Yo.mono e h3⟩
theorem Yo.mono{K:zA}{H H':Hp}(e:Yz H H'):∀ {ds:List D} {vs:List V},Yo K H ds vs->Yo K H' ds vs
 | [],_,h=>h
 | _::_,_,⟨v,r,h1,h2,h3⟩=>⟨v,r,h1,Rep.mono e h2,Yo.mono e h3⟩
end
section
variable {K:zA} {H:Hp}
theorem Yo.nil:Yo K H [] []:=rfl
theorem Yo.cons{d:D}{ds:List D}{v:V}{vs:List V}(h:Rep K H d v)(t:Yo K H ds vs):Yo K H (d::ds) (v::vs):=⟨v,vs,rfl,h,t⟩
theorem Yo.len:∀ {ds:List D} {vs:List V},Yo K H ds vs->ds.length=vs.length
 | [],_,h=>by cases (show _=_ from h);rfl
 | _::_,_,⟨v,r,h1,_,h3⟩=>by rw[h1,zL,zL,Yo.len h3]
theorem Yo.app:∀ {ds es:List D} {vs us:List V},Yo K H ds vs->Yo K H es us->Yo K H (ds++es) (vs++us)
 | [],_,_,_,h,t=>by cases (show _=_ from h);exact t
 | _::_,_,_,_,⟨v,r,h1,h2,h3⟩,t=>by rw[h1];exact⟨v,_,rfl,h2,Yo.app h3 t⟩
theorem Yo.get:∀ {ds:List D} {vs:List V} {i:Nat} {d:D},Yo K H ds vs->ds[i]?=some d->∃ v,vs[i]?=some v/\Rep K H d v
 | [],_,_,_,_,e=>by simp at e
 | _::_,_,0,_,⟨v,r,h1,h2,h3⟩,e=>by simp at e;subst e;rw[h1];exact⟨v,rfl,h2⟩
 | _::_,_,i+1,d,⟨v,r,h1,h2,h3⟩,e=>by
  obtain⟨u,e1,e2⟩:=Yo.get (i:=i) (d:=d) h3 (by simpa using e);exact⟨u,by rw[h1];simpa using e1,e2⟩
theorem Yo.take:∀ {ds:List D} {vs:List V} (n:Nat),Yo K H ds vs->Yo K H (ds.take n) (vs.take n)
 | _,_,0,_=>rfl
 | [],_,_+1,h=>by cases (show _=_ from h);rfl
 | _::_,_,n+1,⟨v,r,h1,h2,h3⟩=>by rw[h1];exact⟨v,_,rfl,h2,Yo.take n h3⟩
theorem Yo.drop:∀ {ds:List D} {vs:List V} (n:Nat),Yo K H ds vs->Yo K H (ds.drop n) (vs.drop n)
 | _,_,0,h=>h
 | [],_,_+1,h=>by cases (show _=_ from h);rfl
 | _::_,_,n+1,⟨v,r,h1,h2,h3⟩=>by rw[h1];exact Yo.drop n h3
theorem Yo.ints:∀ (ns:List Int),Yo K H (ns.map D.int) (ns.map V.int)
 | []=>rfl
 | n::r=>⟨.int n,_,rfl,rfl,Yo.ints r⟩
theorem Yo.of_ints:∀ {ns:List Int} {vs:List V},Yo K H (ns.map D.int) vs->vs=ns.map V.int
 | [],_,h=>h
 | n::r,_,⟨v,vs,h1,h2,h3⟩=>by
  have:=Yo.of_ints h3;have e:v=.int n:=h2;rw[h1,this,e];rfl
theorem Yo.one{d:D}{vs:List V}(h:Yo K H [d] vs):∃ v,vs=[v]/\Rep K H d v:=by
 obtain⟨v,r,h1,h2,h3⟩:=h;cases (show r=[] from h3);exact⟨v,h1,h2⟩
theorem Yo.two{d e:D}{vs:List V}(h:Yo K H [d,e] vs):∃ v u,vs=[v,u]/\Rep K H d v/\Rep K H e u:=by
 obtain⟨v,r,h1,h2,h3⟩:=h;obtain⟨u,rfl,h4⟩:=Yo.one h3;exact⟨v,u,h1,h2,h4⟩
end
structure Ext (G H G' H':Hp):Prop where
 gg:Yz G G'
 gh:Yz G' H'
 hh:Yz H H'
 new:∀ b,G b=none->H b≠none->G' b=none
theorem Ext.refl{G H:Hp}(h:Yz G H):Ext G H G H:=⟨Yz.refl _,h,Yz.refl _,λ_ e _=>e⟩
theorem Ext.trans{G H G1 H1 G2 H2:Hp}(a:Ext G H G1 H1)(b:Ext G1 H1 G2 H2):Ext G H G2 H2:=by
 refine⟨a.gg.trans b.gg,b.gh,a.hh.trans b.hh,λc h1 h2=>?_⟩;have e1:=a.new c h1 h2;refine b.new c e1 λz=>h2 ?_;exact a.hh.free z
theorem XY{H:Hp}{p:Addr}(h:H p=none)(o:HO):Yz H (upd H p o):=λb u q=>by rw[qc (q09 q h)];exact q
theorem Wx{G H:Hp}{p:Addr}(e:Yz G H)(o:HO):Yz (upd G p o) (upd H p o):=λb u q=>by
 by_cases z:b=p
 ·subst z;rw[qd] at q ⊢;exact q
 ·rw[qc z] at q ⊢;exact e b u q
theorem Yy{G H:Hp}{p:Addr}(e:Yz G H)(h:G p=none)(o:HO):Yz G (upd H p o):=λb u q=>by rw[qc (q09 q h)];exact e b u q
theorem Ext.lay{G H:Hp}{p:Addr}(e:Yz G H)(h:H p=none)(o:HO):Ext G H (upd G p o) (upd H p o):=by
 have g:G p=none:=e.free h;refine⟨XY g o,Wx e o,XY h o,λb h1 h2=>?_⟩
 by_cases z:b=p
 ·subst z;exact absurd h h2
 ·rw[qc z];exact h1
theorem Ext.hide{G H:Hp}{p:Addr}(e:Yz G H)(h:H p=none)(o:HO):Ext G H G (upd H p o) :=
 ⟨Yz.refl _,Yy e (e.free h) o,XY h o,λ_ z _=>z⟩
inductive W where
 | sh (d:D)|ow (ds:List D)|od (ks:List Int) (ds:List D)|pw (ds:List D)
noncomputable abbrev WSt:=List (Option W)
structure Fr where
 hp:Hp
 pin:Nat->Addr
noncomputable instance:CoeFun Fr λ_=>Hp:=⟨Fr.hp⟩
noncomputable instance:Coe Fr Hp:=⟨Fr.hp⟩
noncomputable def fr(H:Hp):Fr:=⟨H,λ_=>0⟩
def Xg(K:zA)(F:Fr)(G:Hp)(ω:WSt)(σ:St)(H:Hp):Prop:=∀ (i:Nat) ds,ω[i]?=some (some (.pw ds))->∃ vs,σ[i]?=some (some (.ref (F.pin i)))/\H (F.pin i)=some (.lst vs)/\G (F.pin i)=none/\F.hp (F.pin i)=none/\Yo K G ds vs /\
 (∀ (j:Nat) es,ω[j]?=some (some (.pw es))->F.pin j=F.pin i->j=i)/\∀ (j:Nat) es,ω[j]?=some (some (.ow es))->σ[j]?≠some (some (.ref (F.pin i)))
theorem Xg.keep{K:zA}{F:Fr}{G G':Hp}{ω:WSt}{σ:St}{H H':Hp}(o:Xg K F G ω σ H)(e:Ext G H G' H'):Xg K F G' ω σ H':=λi ds h=>by
 obtain⟨vs,h1,h2,h3,h4,h5,h6⟩:=o i ds h;exact⟨vs,h1,e.hh _ _ h2,e.new _ h3 (by rw[h2];exact λz=>by cases z),h4,h5.mono e.gg,h6⟩
theorem Xg.no{K:zA}{F:Fr}{G:Hp}{ω:WSt}{σ:St}{H:Hp}(h:∀ (i:Nat) ds,ω[i]?≠some (some (.pw ds))):Xg K F G ω σ H:=λi ds e=>absurd e (h i ds)
structure Own (K:zA) (G0:Hp) (H0:Fr) (G:Hp) (ω:WSt) (σ:St) (H:Hp):Prop where
 ext:Ext G0 H0.hp G H
 len:ω.length=σ.length
 sh:∀ (i:Nat) d,ω[i]?=some (some (.sh d))->∃ v,σ[i]?=some (some v)/\Rep K G d v
 ow:∀ (i:Nat) ds,ω[i]?=some (some (.ow ds))->∃ l vs,σ[i]?=some (some (.ref l))/\H l=some (.lst vs)/\G l=none/\H0 l=none/\Yo K G ds vs
 nd:∀ (i j:Nat) ds es l,ω[i]?=some (some (.ow ds))->ω[j]?=some (some (.ow es))->σ[i]?=some (some (.ref l))->σ[j]?=some (some (.ref l))->i=j
 od:∀ (i:Nat) ks ds,ω[i]?=some (some (.od ks ds))->∃ p vs,σ[i]?=some (some (.ref p))/\H p=some (.dK (kvsOf ks vs))/\G p=none/\H0 p=none/\ks.length=ds.length/\Yo K G ds vs /\
  ∀ (j:Nat) ks' es,ω[j]?=some (some (.od ks' es))->σ[j]?=some (some (.ref p))->i=j
 pw:Xg K H0 G ω σ H
inductive R where
 | sh (d:D)|fr (ds:List D)|vw (ds:List D)
noncomputable def R.d:R->D
 | .sh d=>d
 | .fr ds=>.lst ds
 | .vw ds=>.lst ds
def zBt(K:zA)(H G' H':Hp):R->V->Prop
 | .sh d,v=>Rep K G' d v
 | .fr ds,v=>∃ l vs,v=.ref l/\H l=none/\G' l=none/\H' l=some (.lst vs)/\Yo K G' ds vs
 | .vw ds,v=>∃ l vs,v=.ref l/\H' l=some (.lst vs)/\Yo K G' ds vs
def Vw(K:zA)(G H:Hp)(d:D)(v:V):Prop:=Rep K G d v\/∃ ds l vs,d=.lst ds/\v=.ref l/\H l=some (.lst vs)/\Yo K G ds vs
theorem Own.keep{K:zA}{G0:Hp}{H0:Fr}{G G':Hp}{ω:WSt}{σ:St}{H H':Hp}(o:Own K G0 H0 G ω σ H)(e:Ext G H G' H'):Own K G0 H0 G' ω σ H':=by
 refine⟨o.ext.trans e,o.len,λi d h=>?_,λi ds h=>?_,o.nd,λi ks ds h=>?_,o.pw.keep e⟩
 ·obtain⟨v,h1,h2⟩:=o.sh i d h
  exact⟨v,h1,h2.mono e.gg⟩
 ·obtain⟨l,vs,h1,h2,h3,h4,h5⟩:=o.ow i ds h
  exact⟨l,vs,h1,e.hh _ _ h2,e.new l h3 (by rw[h2];exact λz=>by cases z),h4,h5.mono e.gg⟩
 ·obtain⟨l,vs,h1,h2,h3,h4,h6,h5,h7⟩:=o.od i ks ds h
  exact⟨l,vs,h1,e.hh _ _ h2,e.new l h3 (by rw[h2];exact λz=>by cases z),h4,h6,h5.mono e.gg,h7⟩
theorem Own.gh{K:zA}{G0:Hp}{H0:Fr}{G:Hp}{ω:WSt}{σ:St}{H:Hp}(o:Own K G0 H0 G ω σ H):Yz G H:=o.ext.gh
noncomputable abbrev FE:=WSt->Option R
noncomputable abbrev FD:=WSt->Option D
noncomputable abbrev FT:=WSt->Option Bool
noncomputable abbrev FA:=WSt->Option (List D)
def zCO(K:zA)(t:TE)(f:FE):Prop:=∀ G0 H0 G ω σ H r (Q:VK),Own K G0 H0 G ω σ H->f ω=some r ->
 (∀ v G' H',Ext G H G' H'->zBt K H G' H' r v->Q v H')->t σ H Q
def zAp(K:zA)(t:TE)(f:FD):Prop:=∀ G0 H0 G ω σ H d (Q:VK),Own K G0 H0 G ω σ H->f ω=some d ->
 (∀ v G' H',Ext G H G' H'->Rep K G' d v->Q v H')->t σ H Q
def SimV(K:zA)(t:TE)(f:FD):Prop:=∀ G0 H0 G ω σ H d (Q:VK),Own K G0 H0 G ω σ H->f ω=some d ->
 (∀ v G' H',Ext G H G' H'->Vw K G' H' d v->Q v H')->t σ H Q
def zAU(K:zA)(t:TT)(f:FT):Prop:=∀ G0 H0 G ω σ H b (Q:Bool->Hp->Prop),Own K G0 H0 G ω σ H->f ω=some b ->
 (∀ G' H',Ext G H G' H'->Q b H')->t σ H Q
def SimA(K:zA)(t:TA)(f:FA):Prop:=∀ G0 H0 G ω σ H ds (Q:List V->Hp->Prop),Own K G0 H0 G ω σ H->f ω=some ds ->
 (∀ vs G' H',Ext G H G' H'->Yo K G' ds vs->Q vs H')->t σ H Q
def XE(X:Cx)(e:Expr)(f:FE):Prop:=∃ t,PE X e t/\zCO X.K t f
def XD(X:Cx)(e:Expr)(f:FD):Prop:=∃ t,PE X e t/\zAp X.K t f
def XV(X:Cx)(e:Expr)(f:FD):Prop:=∃ t,PE X e t/\SimV X.K t f
def XT(X:Cx)(e:Expr)(f:FT):Prop:=∃ t,PT X e t/\zAU X.K t f
def XW(X:Cx)(e:Expr)(f:FT):Prop:=∃ t,PW X e t/\zAU X.K t f
def XA(X:Cx)(es:List Expr)(f:FA):Prop:=(∃ t,PA X es t/\SimA X.K t f)/\∀ ω ds,f ω=some ds->ds.length=es.length
noncomputable def eOf(f:FD):FE:=λω=>(f ω).map R.sh
noncomputable def dOf(f:FE):FD:=λω=>match f ω with
 | some (.sh d)=>some d
 | some (.fr ds)=>some (.lst ds)
 | _=>none
noncomputable def vOf(f:FE):FD:=λω=>(f ω).map R.d
section
variable {X:Cx} {e:Expr}
theorem XD.toE{f:FD}(h:XD X e f):XE X e (eOf f):=by
 obtain⟨t,h1,h2⟩:=h;refine⟨t,h1,λG0 H0 G ω σ H r Q o e k=>?_⟩;unfold eOf at e;cases q:f ω with
 | none=>rw[q] at e;cases e
 | some d=>rw[q] at e;cases e;exact h2 G0 H0 G ω σ H d Q o q k
theorem XE.toD{f:FE}(h:XE X e f):XD X e (dOf f):=by
 obtain⟨t,h1,h2⟩:=h;refine⟨t,h1,λG0 H0 G ω σ H d Q o e k=>?_⟩;unfold dOf at e;cases q:f ω with
 | none=>rw[q] at e;cases e
 | some r =>
  rw[q] at e;cases r with
  | sh d'=>cases e;exact h2 G0 H0 G ω σ H _ Q o q k
  | fr ds =>
   cases e;refine h2 G0 H0 G ω σ H _ Q o q λv G' H' x ⟨l,vs,e1,e2,e3,e4,e5⟩=>?_;have s1:Yz G' (upd G' l (.lst vs)):=XY e3 _;refine k v (upd G' l (.lst vs)) H' ⟨x.gg.trans s1,λb u z=>?_,x.hh,λb z1 z2=>?_⟩ ⟨l,vs,e1,qd,e5.mono s1⟩
   ·by_cases hb:b=l
    ·subst hb;rw[qd] at z;rw[e4];exact z
    ·rw[qc hb] at z;exact x.gh b u z
   ·rw[qc (λhb=>z2 (by rw[hb];exact e2))];exact x.new b z1 z2
  | vw ds=>cases e
theorem XE.toV{f:FE}(h:XE X e f):XV X e (vOf f):=by
 obtain⟨t,h1,h2⟩:=h;refine⟨t,h1,λG0 H0 G ω σ H d Q o e k=>?_⟩;unfold vOf at e;cases q:f ω with
 | none=>rw[q] at e;cases e
 | some r =>
  rw[q] at e;have e':r.d=d:=zw e;subst e';refine h2 G0 H0 G ω σ H r Q o q λv G' H' x y=>k v G' H' x ?_;cases r with
  | sh d'=>exact .inl y
  | fr ds=>obtain⟨l,vs,e1,e2,e3,e4,e5⟩:=y;exact .inr ⟨ds,l,vs,rfl,e1,e4,e5⟩
  | vw ds=>obtain⟨l,vs,e1,e2,e3⟩:=y;exact .inr ⟨ds,l,vs,rfl,e1,e2,e3⟩
theorem XD.toV{f:FD}(h:XD X e f):XV X e f:=by
 obtain⟨t,h1,h2⟩:=h;exact⟨t,h1,λG0 H0 G ω σ H d Q o e k=>h2 G0 H0 G ω σ H d Q o e λv G' H' x y=>k v G' H' x (.inl y)⟩
end
noncomputable def Yh(i:Nat):FE:=λω=>match ω[i]? with
 | some (some (.sh d))=>some (.sh d)
 | some (some (.ow ds))=>some (.vw ds)
 | some (some (.pw ds))=>some (.vw ds)
 | _=>none
noncomputable def fC(d:D):FD:=λ_=>some d
section
variable {X:Cx}
theorem zAv{e:Expr}(i:Nat)(h:PE X e (XF i)):XE X e (Yh i):=by
 refine⟨_,h,λG0 H0 G ω σ H r Q o e k=>?_⟩;unfold Yh at e;cases q:ω[i]? with
 | none=>rw[q] at e;cases e
 | some w =>
  rw[q] at e;cases w with
  | none=>cases e
  | some w =>
   cases w with
   | sh d =>
    cases e;obtain⟨v,h1,h2⟩:=o.sh i d q;exact⟨v,h1,k v G H (Ext.refl o.gh) h2⟩
   | ow ds =>
    cases e;obtain⟨l,vs,h1,h2,h3,h4,h5⟩:=o.ow i ds q;exact⟨_,h1,k _ G H (Ext.refl o.gh) ⟨l,vs,rfl,h2,h5⟩⟩
   | od ks ds=>cases e
   | pw ds =>
    cases e;obtain⟨vs,h1,h2,h3,h4,h5,_⟩:=o.pw i ds q;exact⟨_,h1,k _ G H (Ext.refl o.gh) ⟨_,vs,rfl,h2,h5⟩⟩
theorem xd_c{e:Expr}{v:V}{d:D}(h:PE X e (tC v))(hr:∀ K H,Rep K H d v):XD X e (fC d):=by
 refine⟨_,h,λG0 H0 G ω σ H r Q o e k=>?_⟩;cases e;exact k v G H (Ext.refl o.gh) (hr _ _)
theorem Yg{i j pos}:XD X (.Constant (.int i) j pos) (fC (.int i)):=xd_c qfa λ_ _=>rfl
theorem W0{b j pos}:XD X (.Constant (.bool b) j pos) (fC (.bl b)):=xd_c qgb λ_ _=>rfl
theorem zAt{x j pos}:XD X (.Constant (.str x) j pos) (fC (.str x)):=xd_c qf2 λ_ _=>rfl
end
theorem bnd{α β:Type}{o:Option α}{f:α->Option β}{r:β}(h:o.bind f=some r):∃ a,o=some a/\f a=some r:=Option.bind_eq_some_iff.mp h
theorem mpd{α β:Type}{o:Option α}{f:α->β}{r:β}(h:o.map f=some r):∃ a,o=some a/\f a=r:=wG.mp h
noncomputable def Ys:FA:=λ_=>some []
noncomputable def Yf(f:FD)(g:FA):FA:=λω=>(f ω).bind λd=>(g ω).map λds=>d::ds
section
variable {X:Cx} {e:Expr} {es:List Expr}
theorem Yl:XA X [] Ys:=⟨⟨_,qo,λG0 H0 G ω σ H ds Q o e k=>by cases e;exact k [] G H (Ext.refl o.gh) rfl⟩,λω ds e=>by cases e;rfl⟩
theorem Ye{f:FD}{g:FA}(h:XD X e f)(hr:XA X es g)(hs:starEach (e::es) X.env=(false,eval e X.env)::starEach es X.env:=by rfl):XA X (e::es) (Yf f g):=by
 obtain⟨t,h1,h2⟩:=h;obtain⟨⟨u,h3,h4⟩,h5⟩:=hr;refine⟨⟨_,qr h1 h3 hs,λG0 H0 G ω σ H ds Q o e k=>?_⟩,λω ds e=>?_⟩
 ·obtain⟨d,q,e⟩:=bnd e
  obtain⟨r,q2,e⟩:=mpd e;subst e;refine h2 G0 H0 G ω σ H d _ o q λv G1 H1 x1 y1=>?_;refine h4 G0 H0 G1 ω σ H1 r _ (o.keep x1) q2 λvs G2 H2 x2 y2=>?_;exact k _ G2 H2 (x1.trans x2) (Yo.cons (y1.mono x2.gg) y2)
 ·obtain⟨d,q,e⟩:=bnd e
  obtain⟨r,q2,e⟩:=mpd e;subst e;rw[zL,zL,h5 ω r q2]
noncomputable def Wj(g:FA):FD:=λω=>(g ω).map D.tup
noncomputable def zAP(g:FA):FE:=λω=>(g ω).map R.fr
theorem zBN{n:Nat}(h:n <= 1000):n <= sizeLine:=yQ (zBH h)
theorem Y7{x1 pos}{g:FA}(h:XA X es g)(hl:es.length <= 1000:=by decide):XD X (.Tuple es x1 pos) (Wj g):=by
 obtain⟨⟨t,h1,h2⟩,h5⟩:=h;refine⟨_,qeZ h1,λG0 H0 G ω σ H d Q o e k=>?_⟩;obtain⟨ds,q,e⟩:=mpd e;subst e;refine h2 G0 H0 G ω σ H ds _ o q λvs G1 H1 x1 y1=>⟨zBN (by rw[<- y1.len,h5 ω ds q];exact hl),λp hp=>?_⟩;have x2:=Ext.lay x1.gh hp (.tup vs);exact k _ _ _ (x1.trans x2) ⟨p,vs,rfl,qd,y1.mono x2.gg⟩
theorem Xc{pos}{g:FA}(h:XA X es g)(hl:es.length <= 1000:=by decide):XE X (.List es pos) (zAP g):=by
 obtain⟨⟨t,h1,h2⟩,h5⟩:=h;refine⟨_,q1T h1,λG0 H0 G ω σ H d Q o e k=>?_⟩;obtain⟨ds,q,e⟩:=mpd e;subst e;refine h2 G0 H0 G ω σ H ds _ o q λvs G1 H1 x1 y1=>⟨zBN (by rw[<- y1.len,h5 ω ds q];exact hl),λp hp=>?_⟩;have x2:=Ext.hide x1.gh hp (.lst vs);exact k _ _ _ (x1.trans x2) ⟨p,vs,rfl,x1.hh.free hp,x1.gh.free hp,qd,y1⟩
inductive O where
 | sh (d:D)|fr (ds:List D)
noncomputable def O.r:O->R
 | .sh d=>.sh d
 | .fr ds=>.fr ds
noncomputable def spD(K:zA)(n:Nat)(m:List D->Option O):Sp:=λvs H Q _=>∃ G ds r,m ds=some r/\ds.length=n/\Yz G H/\Yo K G ds vs/\∀ v G' H',Ext G H G' H'->zBt K H G' H' r.r v->Q v H'
noncomputable def Yu(m:List D->Option O)(g:FA):FE:=λω=>(g ω).bind λds=>(m ds).map O.r
theorem zB8{CX:CXT}{k:Nat}{f:Addr}{fd:FuncData}{ps:List Str}{m:List D->Option O}{E:XK}{x:Str}{p pos:Pos}{g:FA}
  (F:FnOk X.prog X.w X.K X.mg X.base CX k f fd ps (spD X.K (e::es).length m)) (hr:Room k X.A) (hg:Gl X x) (hm:X.mg x=some (.ref f)) (hk:xk X.K (.ref f)=true) (hb:Binds X.K fd ps []) (hx:zAZ CX X E)
  (ha:XA X (e::es) g) (hdb:(x == ("__debug__" : Str))=false:=by decide) (he:starEach (e::es) X.env=(false,eval e X.env)::starEach es X.env:=by rfl) (hpl:(backTo pos (starEach es X.env)).any (·.1)=false:=by rfl) :
  XE X (.Call (.Name x p) (e::es) [] pos) (Yu m g):=by
 obtain⟨⟨t,h1,h2⟩,h5⟩:=ha;refine⟨_,q97 F hr hg hm hk hb .nil hx h1 hdb he hpl,λG0 H0 G ω σ H r Q o e k=>?_⟩;obtain⟨ds,q,e⟩:=bnd e;obtain⟨r',q2,e⟩:=mpd e;subst e;refine h2 G0 H0 G ω σ H ds _ o q λvs G1 H1 x1 y1=>?_;refine⟨G1,ds,r',q2,h5 ω ds q,x1.gh,by rw[zr];exact y1,λv G2 H2 x2 y2=>k v G2 H2 (x1.trans x2) ?_⟩;cases r' with
 | sh d=>exact y2
 | fr ds=>obtain⟨l,vs,e1,e2,e3⟩:=y2;exact⟨l,vs,e1,x1.hh.free e2,e3⟩
end
open PySem.Spec PyProof.Rows PySem.SeqAt PySem.MeetsSeq PySem.MeetsSeq2 PySem.MeetsSeq3 in
theorem q6n{prog:Program}{w:World}{A:Around}{E:Value->Shared->Prop}{s:Shared}{t sl:Addr}{items:Array Value}{vl vu:Value}{lo hi:Option Int}{Q:Value->Shared->Prop}(ht:IsTup s.heap t items)(hs:s.heap.IsSliceOf sl vl vu .none)(pl:IsPart vl lo)(pu:IsPart vu hi)
  (hw:HT.sIx items.size 0 lo=0/\HT.sIx items.size items.size hi=items.size) (h:Q (.ref t) s):wpAny (model prog w) A (getItem (.ref t) (.ref sl)) Q E s:=by
 obtain⟨os,hos,hcs,hds⟩:=id hs;have hTs:s.TypeIs (.ref sl) "slice" := ⟨os,hos,hcs⟩;unfold getItem
 try with_reducible refine wpAny_holding ?_
 first|refine wpAny_bind (wpAny_pure ?_)|skip
 refine wpAny_bind (wpAny_sequenceKey ht.typeIs (by decide) ?_);refine wpAny_bind (wpAny_callSpecial?_slot (name:=Str.ofString "__getitem__") ht.typeIs PyProof.Rows.slot_tuple_getitem
  (wpAny_call_entry PyProof.Rows.slot_tuple_getitem ht.typeIs entry_tuple_getitem ?_ (args_tuple_getitem _ _)))
 show wpAny _ _ (Builtin.Tuple.tupleItemsOf (.ref t) >>= _) _ _ s;refine wpAny_bind (tupleItemsOf_ ht ?_);refine wpAny_bind (wpAny_typeOf hTs ?_);rw[if_pos (by decide)];refine wpAny_bind (HT.q1R hs pl pu ?_);have hy:(((HT.sIx items.size 0 lo:Nat):Int) == 0 && (1:Int) == 1 && (HT.sIx items.size items.size hi - HT.sIx items.size 0 lo) == items.size)=true:=by
  rw[hw.1,hw.2];simp
 show wpAny _ _ (if (((HT.sIx items.size 0 lo:Nat):Int) == 0 && (1:Int) == 1 && (HT.sIx items.size items.size hi - HT.sIx items.size 0 lo) == items.size)=true then _ else _) _ _ s;rw[if_pos hy];have hb:∀ {R:Bool->Shared->Prop},R true s->wpAny (model prog w) A.in1 (Builtin.Tuple.tupleIsExact (.ref t)) R E s:=λr=>by
  unfold Builtin.Tuple.tupleIsExact;refine wpAny_bind (wpAny_typeOf ht.typeIs ?_);exact wpAny_pure r
 refine wpAny_bind (hb ?_);rw[if_pos rfl];refine wpAny_bind (wpAny_rule ?_);exact wpAny_pure ⟨_,rfl,wpAny_pure h⟩
section
variable {X:Cx}
def rSlW(K:zA):V->Option Int->Option Int->Hp->VK->Prop:=λx lo hi H Q=>∃ a xs,x=.ref a/\SqT K H a xs /\
 (HT.sIx xs.length 0 lo=0/\HT.sIx xs.length xs.length hi=xs.length)/\Q (.ref a) H
theorem qcX:SlR X (rSlW X.K):=by
 intro pins s σ H x v vl vu lo hi sl Q I rx hs pl pu h;obtain⟨a,xs,rfl,hx,hw,q⟩:=h;cases rx;obtain⟨its,r,ht,hz⟩:=I.tuple hx;have hlen:its.toArray.size=xs.length:=by rw[zP];exact r.length.symm
 refine⟨"tuple", _,PyProof.Rows.slot_tuple_getitem.lookup,ht.typeIs,?_⟩;exact q6n ht hs pl pu (by rw[hlen];exact hw) ⟨.ref a,H,I,rfl,q⟩
end
theorem Vw.rep{K:zA}{G H:Hp}{d:D}{v:V}(h:Vw K G H d v)(e:Yz G H):Rep K H d v:=by
 rcases h with h|⟨ds,l,vs,rfl,rfl,h1,h2⟩
 ·exact h.mono e
 ·exact⟨l,vs,rfl,h1,h2.mono e⟩
theorem Vw.keep{K:zA}{G H G' H':Hp}{d:D}{v:V}(h:Vw K G H d v)(e:Ext G H G' H'):Vw K G' H' d v:=by
 rcases h with h|⟨ds,l,vs,h0,h1,h2,h3⟩
 ·exact .inl (h.mono e.gg)
 ·exact .inr ⟨ds,l,vs,h0,h1,e.hh _ _ h2,h3.mono e.gg⟩
theorem Vw.lst{K:zA}{G H:Hp}{ds:List D}{v:V}(h:Vw K G H (.lst ds) v)(e:Yz G H):∃ a vs,v=.ref a/\H a=some (.lst vs)/\Yo K G ds vs:=by
 rcases h with⟨a,vs,h1,h2,h3⟩|⟨ds',l,vs,h0,h1,h2,h3⟩
 ·exact⟨a,vs,h1,e _ _ h2,h3⟩
 ·cases h0;exact⟨l,vs,h1,h2,h3⟩
theorem Vw.of_ne{K:zA}{G H:Hp}{d:D}{v:V}(h:Vw K G H d v)(n:∀ ds,d≠.lst ds):Rep K G d v:=by
 rcases h with h|⟨ds',l,vs,h0,h1,h2,h3⟩
 ·exact h
 ·exact absurd h0 (n _)
def VwA(K:zA)(G H:Hp):List D->List V->Prop
 | [],vs=>vs=[]
 | d::ds,vs=>∃ v r,vs=v::r/\Vw K G H d v/\VwA K G H ds r
def SimVA(K:zA)(t:TA)(f:FA):Prop:=∀ G0 H0 G ω σ H ds (Q:List V->Hp->Prop),Own K G0 H0 G ω σ H->f ω=some ds ->
 (∀ vs G' H',Ext G H G' H'->VwA K G' H' ds vs->Q vs H')->t σ H Q
def XVA(X:Cx)(es:List Expr)(f:FA):Prop:=∃ t,PA X es t/\SimVA X.K t f
section
variable {X:Cx} {e:Expr} {es:List Expr}
theorem qp:XVA X [] Ys:=⟨_,qo,λG0 H0 G ω σ H ds Q o e k=>by cases e;exact k [] G H (Ext.refl o.gh) rfl⟩
theorem qi{f:FD}{g:FA}(h:XV X e f)(hr:XVA X es g)(hs:starEach (e::es) X.env=(false,eval e X.env)::starEach es X.env:=by rfl):XVA X (e::es) (Yf f g):=by
 obtain⟨t,h1,h2⟩:=h;obtain⟨u,h3,h4⟩:=hr;refine⟨_,qr h1 h3 hs,λG0 H0 G ω σ H ds Q o e k=>?_⟩;obtain⟨d,q,e⟩:=bnd e;obtain⟨r,q2,e⟩:=mpd e;subst e;refine h2 G0 H0 G ω σ H d _ o q λv G1 H1 x1 y1=>?_;refine h4 G0 H0 G1 ω σ H1 r _ (o.keep x1) q2 λvs G2 H2 x2 y2=>?_;exact k _ G2 H2 (x1.trans x2) ⟨v,vs,rfl,y1.keep x2,y2⟩
noncomputable def Yn(op:D->D->Option R)(f g:FD):FE:=λω=>(f ω).bind λx=>(g ω).bind λy=>op x y
def OpV(K:zA)(r:R2)(op:D->D->Option R):Prop:=∀ G H x y d v u (Q:VK),Yz G H->op x y=some d->Vw K G H x v->Vw K G H y u ->
 (∀ w G' H',Ext G H G' H'->zBt K H G' H' d w->Q w H')->r v u H Q
theorem q3k{r:R2}{o:D->D->Option R}{f g:FD}{t u:TE}(hd:OpV X.K r o)(h2:SimV X.K t f)(h4:SimV X.K u g):zCO X.K (tOp r t u) (Yn o f g):=by
 intro G0 H0 G ω σ H d Q ow e k;obtain⟨x,q,e⟩:=bnd e;obtain⟨y,q2,e⟩:=bnd e;refine h2 G0 H0 G ω σ H x _ ow q λv G1 H1 x1 y1=>?_;refine h4 G0 H0 G1 ω σ H1 y _ (ow.keep x1) q2 λv2 G2 H2 x2 y2=>?_;refine hd G2 H2 x y d v v2 Q x2.gh e (y1.keep x2) y2 λw G3 H3 x3 z=>k w G3 H3 ((x1.trans x2).trans x3) ?_;cases d with
 | sh d=>exact z
 | fr ds=>obtain⟨l,vs,e1,e2,e3⟩:=z;exact⟨l,vs,e1,(x1.trans x2).hh.free e2,e3⟩
 | vw ds=>exact z
variable {a b:Expr} {pos:Pos} {f g:FD}
theorem q1E{op:Operator}{r:R2}{o:D->D->Option R}(ho:OpR X (binaryOp op) r)(hd:OpV X.K r o)(ha:XV X a f)(hb:XV X b g):XE X (.BinOp a op b pos) (Yn o f g):=by
 obtain⟨t,h1,h2⟩:=ha;obtain⟨u,h3,h4⟩:=hb;exact⟨_,qg4 ho h1 h3,q3k hd h2 h4⟩
theorem q6F{op:CmpOp}{r:R2}{o:D->D->Option R}(ho:OpR X (compareOp op) r)(hd:OpV X.K r o)(ha:XV X a f)(hb:XV X b g)(hm:behindInMarks op b=false):XE X (.Compare a [op] [b] pos) (Yn o f g):=by
 obtain⟨t,h1,h2⟩:=ha;obtain⟨u,h3,h4⟩:=hb;exact⟨_,qdQ ho h1 h3 hm,q3k hd h2 h4⟩
theorem qgf{r:R2}{o:D->D->Option R}(ho:IxR X r)(hd:OpV X.K r o)(ha:XV X a f)(hb:XV X b g)(hs:zAE b):XE X (.Subscript a b pos) (Yn o f g):=by
 obtain⟨t,h1,h2⟩:=ha;obtain⟨u,h3,h4⟩:=hb;exact⟨_,qgp ho h1 h3 hs,q3k hd h2 h4⟩
noncomputable def tOf(f:FE):FT:=λω=>match f ω with
 | some (.sh (.bl k))=>some k
 | _=>none
theorem qb5{t:TE}{f:FE}(h:zCO X.K t f):zAU X.K (tTest t) (tOf f):=by
 intro G0 H0 G ω σ H b Q o e k;unfold tOf at e;cases q:f ω with
 | none=>rw[q] at e;cases e
 | some r =>
  rw[q] at e;cases r with
  | sh d =>
   cases d with
   | bl c =>
    cases e;refine h G0 H0 G ω σ H _ _ o q λv G' H' x y=>?_;cases (show v=V.bl b from y);exact⟨b,rfl,k G' H' x⟩
   | _=>cases e
  | _=>cases e
theorem q2m{op:CmpOp}{r:R2}{o:D->D->Option R}(ho:OpR X (compareOp op) r)(hd:OpV X.K r o)(ha:XV X a f)(hb:XV X b g)(hm:behindInMarks op b=false):XT X (.Compare a [op] [b] pos) (tOf (Yn o f g)):=by
 obtain⟨t,h1,h2⟩:=ha;obtain⟨u,h3,h4⟩:=hb;exact⟨_,qdR ho h1 h3 hm,qb5 (q3k hd h2 h4)⟩
noncomputable def zA4(c:Int->Int->Bool)(g:Int->Int->D):D->D->Option R
 | .int i,.int j=>if c i j=true then some (.sh (g i j)) else none
 | _,_=>none
theorem Vw.int{K:zA}{G H:Hp}{i:Int}{v:V}(h:Vw K G H (.int i) v):v=.int i:=h.of_ne (λ_ z=>by cases z)
theorem Vw.bl{K:zA}{G H:Hp}{i:Bool}{v:V}(h:Vw K G H (.bl i) v):v=.bl i:=h.of_ne (λ_ z=>by cases z)
theorem Vw.str{K:zA}{G H:Hp}{i:Str}{v:V}(h:Vw K G H (.str i) v):v=.str i:=h.of_ne (λ_ z=>by cases z)
theorem Vw.non{K:zA}{G H:Hp}{v:V}(h:Vw K G H .non v):v=.non:=h.of_ne (λ_ z=>by cases z)
theorem Vw.tup{K:zA}{G H:Hp}{ds:List D}{v:V}(h:Vw K G H (.tup ds) v):∃ a vs,v=.ref a/\G a=some (.tup vs)/\Yo K G ds vs:=h.of_ne (λ_ z=>by cases z)
theorem Vw.scr{K:zA}{G H:Hp}{ns:List Int}{v:V}(h:Vw K G H (.scr ns) v):∃ a,v=.ref a/\SqL K G a (ns.map V.int):=h.of_ne (λ_ z=>by cases z)
theorem q3m{K:zA}{C:Int->Int->Prop}{c:Int->Int->Bool}{gV:Int->Int->V}{g:Int->Int->D}(hc:∀ i j,c i j=true->C i j)(hg:∀ H i j,Rep K H (g i j) (gV i j)):OpV K (rI C gV) (zA4 c g):=by
 intro G H x y d v u Q s e hx hy k;cases x with
 | int i =>
  cases y with
  | int j =>
   cases hx.int;cases hy.int;unfold zA4 at e
   dsimp only at e
   by_cases z:c i j=true
   ·rw[if_pos z] at e
    cases e;exact⟨i,j,rfl,rfl,hc i j z,k _ G H (Ext.refl s) (hg _ i j)⟩
   ·rw[if_neg z] at e;cases e
  | _=>cases e
 | _=>cases e
theorem q1S{K:zA}{gV:Int->Int->V}{g:Int->Int->D}(hg:∀ H i j,Rep K H (g i j) (gV i j)):OpV K (rI0 gV) (zA4 (λ_ _=>true) g):=by
 intro G H x y d v u Q s e hx hy k;cases x with
 | int i =>
  cases y with
  | int j =>
   cases hx.int;cases hy.int;cases e;exact⟨i,j,rfl,rfl,k _ G H (Ext.refl s) (hg _ i j)⟩
  | _=>cases e
 | _=>cases e
noncomputable def zB7(i j:Int):Bool:=(decide (-(2 ^ 64) < i) && decide (i < 2 ^ 64)) || (decide (-(2 ^ 64) < j) && decide (j < 2 ^ 64))
noncomputable def cDiv(_ j:Int):Bool:=decide (0 < j) && decide (j < 1073741824)
noncomputable def cMod(_ j:Int):Bool:=decide (0 < j)
noncomputable def cPow(i j:Int):Bool:=decide (0 <= j) && decide (j <= 1000000) && decide (i.natAbs < 2 ^ 64)
noncomputable abbrev zAu:D->D->Option R:=zA4 (λ_ _=>true) λi j=>.int (i - j)
noncomputable abbrev zCH:D->D->Option R:=zA4 zB7 λi j=>.int (i*j)
noncomputable abbrev oDiv:D->D->Option R:=zA4 cDiv λi j=>.int (i / j)
noncomputable abbrev oMod:D->D->Option R:=zA4 cMod λi j=>.int (i % j)
noncomputable abbrev oPow:D->D->Option R:=zA4 cPow λi j=>.int (i ^ j.toNat)
noncomputable abbrev oLt:D->D->Option R:=zA4 (λ_ _=>true) λi j=>.bl (decide (i < j))
noncomputable abbrev oLe:D->D->Option R:=zA4 (λ_ _=>true) λi j=>.bl (decide (i <= j))
noncomputable abbrev oGt:D->D->Option R:=zA4 (λ_ _=>true) λi j=>.bl (decide (j < i))
noncomputable def X4:D->D->Option R
 | .int i,.int j=>some (.sh (.int (i+j)))
 | .lst xs,.lst ys=>if xs.length+ys.length <= 1000000 then some (.fr (xs++ys)) else none
 | .tup [],.tup ys=>some (.sh (.tup ys))
 | .tup (x::xs),.tup ys=>if (x::xs).length+ys.length <= 1000000 then some (.sh (.tup ((x::xs)++ys))) else none
 | _,_=>none
theorem q3O{n:Nat}(h:n <= 1000000):n <= sizeLine:=by rw[sizeLine_eq];omega
noncomputable def rCat0(K:zA):R2:=λx y H Q=>∃ a b ys,x=.ref a/\y=.ref b/\SqT K H a []/\SqT K H b ys/\Q (.ref b) H
theorem qe9:OpR X (binaryOp .Add) (rCat0 X.K):=by
 intro pins s σ H x y v u Q I rx ry h;obtain⟨a,b,ys,rfl,rfl,ha,hb,q⟩:=h;cases rx;cases ry;obtain⟨its,r1,p1,_⟩:=I.tuple ha;obtain⟨its2,r2,p2,_⟩:=I.tuple hb;have e0:its=[]:=r1.nil_iff.mpr rfl;subst e0;obtain⟨⟨cls,dd,data,sl⟩,ho,hc,n,hd⟩:=id p1;obtain⟨⟨cls2,dd2,data2,sl2⟩,ho2,hc2,n2,hd2⟩:=id p2;simp only at hc hd hc2 hd2;subst hc hd hc2 hd2;exact PySem.concat_meets ⟨_,ho,rfl⟩ ⟨_,ho2,rfl⟩ PySem.noFill_tuple_add PySem.seq_tuple_add PySem.F.slot_tuple_add PySem.F.entry_tuple_add (PySem.F.args_tuple_add_2 _ _)
  (PyProof.Rows.tuple_addW0 a b _ its2.toArray n n2 dd dd2 sl sl2 (by simp)) ⟨ho,ho2,⟨.ref b,H,I,rfl,q⟩⟩
noncomputable def zBJ(K:zA):R2:=λx y H Q=>rI0 (λi j=>.int (i+j)) x y H Q\/rCat x y H Q\/rCatT K x y H Q\/rCat0 K x y H Q
theorem qaH:OpR X (binaryOp .Add) (zBJ X.K):=qeL.or (qfH.or (qdO.or qe9))
theorem qdU{K:zA}:OpV K (zBJ K) X4:=by
 intro G H x y d v u Q s e hx hy k;cases x with
 | int i =>
  cases y with
  | int j =>
   cases hx.int;cases hy.int;cases e;exact .inl ⟨i,j,rfl,rfl,k _ G H (Ext.refl s) rfl⟩
  | _=>cases e
 | lst xs =>
  cases y with
  | lst ys =>
   unfold X4 at e
   dsimp only at e
   by_cases z:xs.length+ys.length <= 1000000
   ·rw[if_pos z] at e
    cases e;obtain⟨a,vs,rfl,h1,h2⟩:=hx.lst s;obtain⟨b,us,rfl,h3,h4⟩:=hy.lst s;refine .inr (.inl ⟨a,b,vs,us,rfl,rfl,h1,h3,q3O (by rw[<- h2.len,<- h4.len];exact z),λp hp=>?_⟩);exact k _ G _ (Ext.hide s hp _) ⟨p,_,rfl,hp,s.free hp,qd,h2.app h4⟩
   ·rw[if_neg z] at e;cases e
  | _=>cases e
 | tup xs =>
  cases y with
  | tup ys =>
   obtain⟨a,vs,rfl,h1,h2⟩:=hx.tup;obtain⟨b,us,rfl,h3,h4⟩:=hy.tup;cases xs with
   | nil =>
    cases e;have ev:vs=[]:=yi h2.len.symm;subst ev;exact .inr (.inr (.inr ⟨a,b,us,rfl,rfl,SqT.of (s _ _ h1),SqT.of (s _ _ h3),k _ G H (Ext.refl s) ⟨b,us,rfl,h3,h4⟩⟩))
   | cons x0 xs =>
    unfold X4 at e
    dsimp only at e
    by_cases z:(x0::xs).length+ys.length <= 1000000
    ·rw[if_pos z] at e
     cases e;refine .inr (.inr (.inl ⟨a,b,vs,us,rfl,rfl,SqT.of (s _ _ h1),SqT.of (s _ _ h3),λw=>?_,q3O (by rw[<- h2.len,<- h4.len];exact z),λw=>?_,λ_ p hp=>?_⟩))
     ·have:=h2.len
      rw[w] at this;cases this
     ·have:=h4.len
      rw[w] at this;have ey:ys=[]:=yi this;subst ey;rw[zr] at k;exact k _ G H (Ext.refl s) ⟨a,vs,rfl,h1,h2⟩
     ·have x2:=Ext.lay s hp (.tup (vs++us))
      exact k _ _ _ x2 ⟨p,_,rfl,qd,(h2.app h4).mono x2.gg⟩
    ·rw[if_neg z] at e;cases e
  | _=>cases xs <;> cases e
 | _=>cases e
theorem qZ(ha:XV X a f)(hb:XV X b g):XE X (.BinOp a .Add b pos) (Yn X4 f g):=q1E qaH qdU ha hb
theorem q0S(ha:XV X a f)(hb:XV X b g):XE X (.BinOp a .Sub b pos) (Yn zAu f g):=q1E qeY (q1S λ_ _ _=>rfl) ha hb
theorem mulOk{i j:Int}(h:zB7 i j=true):CMul i j:=by
 unfold zB7 at h;rw[Bool.or_eq_true,yI,yI,decide_eq_true_iff,decide_eq_true_iff,decide_eq_true_iff,decide_eq_true_iff] at h;exact h
theorem divOk{i j:Int}(h:cDiv i j=true):CDiv i j:=by
 unfold cDiv at h;rw[yI,decide_eq_true_iff,decide_eq_true_iff] at h;exact h
theorem powOk{i j:Int}(h:cPow i j=true):CPow i j:=by
 unfold cPow at h;rw[yI,yI,decide_eq_true_iff,decide_eq_true_iff,decide_eq_true_iff] at h;exact⟨h.1.1,h.1.2,h.2⟩
theorem qbf(ha:XV X a f)(hb:XV X b g):XE X (.BinOp a .Mult b pos) (Yn zCH f g):=q1E qfR (q3m (λ_ _ h=>mulOk h) λ_ _ _=>rfl) ha hb
theorem q08(ha:XV X a f)(hb:XV X b g):XE X (.BinOp a .FloorDiv b pos) (Yn oDiv f g):=q1E qea (q3m (λ_ _ h=>divOk h) λ_ _ _=>rfl) ha hb
theorem qH(ha:XV X a f)(hb:XV X b g):XE X (.BinOp a .Mod b pos) (Yn oMod f g):=q1E qfm (q3m (λ_ _ h=>of_decide_eq_true h) λ_ _ _=>rfl) ha hb
theorem qbE(ha:XV X a f)(hb:XV X b g):XE X (.BinOp a .Pow b pos) (Yn oPow f g):=q1E qfB (q3m (λ_ _ h=>powOk h) λ_ _ _=>rfl) ha hb
theorem qd7(ha:XV X a f)(hb:XV X b g):XE X (.Compare a [.LtE] [b] pos) (Yn oLe f g):=q6F qd9 (q1S λ_ _ _=>rfl) ha hb (WG _)
theorem q6u(ha:XV X a f)(hb:XV X b g):XT X (.Compare a [.Lt] [b] pos) (tOf (Yn oLt f g)):=q2m qg9 (q1S λ_ _ _=>rfl) ha hb (WG _)
theorem q6v(ha:XV X a f)(hb:XV X b g):XT X (.Compare a [.LtE] [b] pos) (tOf (Yn oLe f g)):=q2m qd9 (q1S λ_ _ _=>rfl) ha hb (WG _)
theorem qgj(ha:XV X a f)(hb:XV X b g):XT X (.Compare a [.Gt] [b] pos) (tOf (Yn oGt f g)):=q2m qg1 (q1S λ_ _ _=>rfl) ha hb (WG _)
end
mutual
noncomputable def D.py:D->PyData
 | .non=>.none
 | .bl b=>.bool b
 | .int i=>.int i
 | .str x=>.str x
 | .lst xs=>.list (D.pys xs)
 | .tup xs=>.tuple (D.pys xs)
 | .scr ns=>.list (ns.map PyData.int)
 | .exc _=>.dict []
 | .dic _ _=>.dict []
noncomputable def D.pys:List D->List PyData
 | []=>[]
 | d::ds=>d.py::D.pys ds
end
section
variable {X:Cx} {pins:List (Addr×Obj)} {σ:St} {H:Hp} {s:Shared}
theorem WY{h:Heap}:∀ {ns:List Int} {us:List Value},Y2 (ns.map V.int) us->∃ as,ReadsAll h us (ns.map PyData.int) as
 | [],_,r=>by cases r;exact⟨_,.nil⟩
 | n::ns,_,r=>by
  rw[zg] at r;cases r with
  | cons r1 r2 =>
   obtain⟨t,rfl⟩:=r1;obtain⟨as,q⟩:=WY (h:=h) r2;exact⟨_,.cons (.int n t) q⟩
mutual
theorem Y8(I:Inv X pins σ H s):∀ {d:D} {v:V} {u:Value},d.py.canLay0=true->Rep X.K H d v->RelV v u->∃ as,Reads s.heap u d.py as
 | .non,_,_,_,h,r=>by cases (show _=V.non from h);cases r;exact⟨_,.none⟩
 | .bl b,_,_,_,h,r=>by cases (show _=V.bl b from h);cases r;exact⟨_,.bool b⟩
 | .int i,_,_,_,h,r=>by cases (show _=V.int i from h);obtain⟨t,rfl⟩:=r;exact⟨_,.int i t⟩
 | .str x,_,_,_,h,r=>by cases (show _=V.str x from h);obtain⟨t,rfl⟩:=r;exact⟨_,.str x t⟩
 | .lst ds,_,_,hc,⟨a,vs,rfl,h2,h3⟩,r=>by
  cases r;obtain⟨its,n,rv,e,_⟩:=I.lst h2;obtain⟨as,q⟩:=WF I (show PyData.canLayAll0 (D.pys ds)=true from hc) h3 rv;exact⟨_,.list e rfl rfl (by simpa using q)⟩
 | .tup ds,_,_,hc,⟨a,vs,rfl,h2,h3⟩,r=>by
  cases r;obtain⟨its,rv,⟨o,e,c,n,dd⟩,_⟩:=I.tuple (SqT.of h2);obtain⟨as,q⟩:=WF I (show PyData.canLayAll0 (D.pys ds)=true from hc) h3 rv;exact⟨_,.tuple e c dd (by simpa using q)⟩
 | .exc _,_,_,hc,_,_=>by cases hc
 | .dic _ _,_,_,hc,_,_=>by cases hc
 | .scr ns,_,_,_,⟨a,rfl,h2⟩,r=>by
  cases r;obtain⟨its,rv,pl,_⟩:=I.list h2;obtain⟨o,e,c,n,dd⟩:=pl.isList;obtain⟨as,q⟩:=WY (h:=s.heap) rv;exact⟨_,.list e c dd (by simpa using q)⟩
theorem WF(I:Inv X pins σ H s):∀ {ds:List D} {vs:List V} {us:List Value},PyData.canLayAll0 (D.pys ds)=true->Yo X.K H ds vs->Y2 vs us->∃ as,ReadsAll s.heap us (D.pys ds) as
 | [],_,_,_,h,r=>by cases (show _=[] from h);cases r;exact⟨_,.nil⟩
 | d::ds,_,_,hc,⟨v,vr,h1,h2,h3⟩,r=>by
  have hc':=wP.mp (show (d.py.canLay0 && PyData.canLayAll0 (D.pys ds))=true from hc);subst h1;cases r with
  | cons r1 r2 =>
   obtain⟨as,q1⟩:=Y8 I hc'.1 h2 r1;obtain⟨bs,q2⟩:=WF I hc'.2 h3 r2;exact⟨_,.cons q1 q2⟩
end
end
noncomputable def shp(d:D):Bool:=SeqAt.shaped d.py
noncomputable def eqD(x y:D):Bool:=PyData.eqv x.py y.py
noncomputable def rEqD(K:zA)(neg:Bool):R2:=λx y H Q=>∃ d e,Rep K H d x/\Rep K H e y/\shp d=true/\shp e=true/\Q (.bl (if neg then !eqD d e else eqD d e)) H
noncomputable def oEq(neg:Bool):D->D->Option R:=λx y=>if shp x && shp y then some (.sh (.bl (if neg then !eqD x y else eqD x y))) else none
section
variable {X:Cx} {a b:Expr} {pos:Pos} {f g:FD}
theorem zBp(hu:X.A.units+64 < cLine):OpR X (compareOp .Eq) (rEqD X.K false):=by
 intro pins s σ H x y v u Q I rx ry h;obtain⟨d,e,h1,h2,h3,h4,q⟩:=h;obtain⟨as,ra⟩:=Y8 I (SeqAt.canLay_of_shaped h3) h1 rx;obtain⟨bs,rb⟩:=Y8 I (SeqAt.canLay_of_shaped h4) h2 ry;exact SeqAt.compareEq_shaped ra rb h3 h4 hu ⟨.bl _,H,I,rfl,q⟩
theorem op_neD(hu:X.A.units+64 < cLine):OpR X (compareOp .NotEq) (rEqD X.K true):=by
 intro pins s σ H x y v u Q I rx ry h;obtain⟨d,e,h1,h2,h3,h4,q⟩:=h;obtain⟨as,ra⟩:=Y8 I (SeqAt.canLay_of_shaped h3) h1 rx;obtain⟨bs,rb⟩:=Y8 I (SeqAt.canLay_of_shaped h4) h2 ry;exact SeqAt.compareNe_shaped ra rb h3 h4 hu ⟨.bl _,H,I,rfl,q⟩
theorem zAw{K:zA}{neg:Bool}:OpV K (rEqD K neg) (oEq neg):=by
 intro G H x y d v u Q s e hx hy k;unfold oEq at e
 by_cases z:(shp x && shp y)=true
 ·rw[if_pos z] at e
  cases e;rw[yI] at z;exact⟨x,y,hx.rep s,hy.rep s,z.1,z.2,k _ G H (Ext.refl s) rfl⟩
 ·rw[if_neg z] at e;cases e
theorem xe_eq(hu:X.A.units+64 < cLine)(ha:XV X a f)(hb:XV X b g):XE X (.Compare a [.Eq] [b] pos) (Yn (oEq false) f g):=q6F (zBp hu) zAw ha hb (WG _)
theorem Wn(hu:X.A.units+64 < cLine)(ha:XV X a f)(hb:XV X b g):XT X (.Compare a [.Eq] [b] pos) (tOf (Yn (oEq false) f g)):=q2m (zBp hu) zAw ha hb (WG _)
theorem zBE(hu:X.A.units+64 < cLine)(ha:XV X a f)(hb:XV X b g):XT X (.Compare a [.NotEq] [b] pos) (tOf (Yn (oEq true) f g)):=q2m (op_neD hu) zAw ha hb (WG _)
noncomputable def oIx:D->D->Option R
 | .lst ds,.int i=>(atI ds i).map R.sh
 | .tup ds,.int i=>(atI ds i).map R.sh
 | .scr ns,.int i=>(atI ns i).map λn=>.sh (.int n)
 | _,_=>none
theorem zAS{K:zA}{H:Hp}{ds:List D}{vs:List V}{i:Int}{d:D}(h:Yo K H ds vs)(e:atI ds i=some d):∃ v,atI vs i=some v/\Rep K H d v:=by
 unfold atI at e ⊢;rw[<- h.len];cases q:ixN ds.length i with
 | none=>rw[q] at e;cases e
 | some j =>
  rw[q] at e;obtain⟨v,e1,e2⟩:=h.get e;exact⟨v,e1,e2⟩
theorem zBl{ns:List Int}{i n:Int}(e:atI ns i=some n):atI (ns.map V.int) i=some (.int n):=by
 unfold atI at e ⊢;rw[zB];cases q:ixN ns.length i with
 | none=>rw[q] at e;cases e
 | some j =>
  rw[q] at e;have e':ns[j]?=some n:=e;show (ns.map V.int)[j]?=_;rw[za,e'];rfl
theorem opv_ix{K:zA}:OpV K (rIx K) oIx:=by
 intro G H x y d v u Q s e hx hy k;cases y with
 | int i =>
  cases hy.int;cases x with
  | lst ds =>
   obtain⟨d',q,e'⟩:=mpd e;subst e';obtain⟨p,vs,rfl,h1,h2⟩:=hx.lst s;obtain⟨w,e1,e2⟩:=zAS h2 q;exact .inl ⟨p,vs,i,w,rfl,rfl,SqL.of h1,e1,k _ G H (Ext.refl s) e2⟩
  | tup ds =>
   obtain⟨d',q,e'⟩:=mpd e;subst e';obtain⟨p,vs,rfl,h1,h2⟩:=hx.tup;obtain⟨w,e1,e2⟩:=zAS h2 q;exact .inr (.inl ⟨p,vs,i,w,rfl,rfl,SqT.of (s _ _ h1),e1,k _ G H (Ext.refl s) e2⟩)
  | scr ns =>
   obtain⟨n,q,e'⟩:=mpd e;subst e';obtain⟨p,rfl,h1⟩:=hx.scr;exact .inl ⟨p,_,i,.int n,rfl,rfl,s.seq h1,zBl q,k _ G H (Ext.refl s) rfl⟩
  | _=>cases e
 | _=>cases x <;> cases e
theorem Yk(ha:XV X a f)(hb:XV X b g)(hs:zAE b:=by exact λ_ _=>rfl):XE X (.Subscript a b pos) (Yn oIx f g):=qgf qfL opv_ix ha hb hs
noncomputable abbrev FO:=WSt->Option (Option Int)
def SimO(K:zA)(t:TO)(f:FO):Prop:=∀ G0 H0 G ω σ H o (Q:Option Int->Hp->Prop),Own K G0 H0 G ω σ H->f ω=some o->(∀ G' H',Ext G H G' H'->Q o H')->t σ H Q
def XO(X:Cx)(e:Option Expr)(f:FO):Prop:=∃ t,PO X e t/\SimO X.K t f
noncomputable def pNo:FO:=λ_=>some none
noncomputable def pAt(f:FD):FO:=λω=>(f ω).bind λd=>match d with|.int i=>some (some i)|_=>none
theorem W9:XO X none pNo:=⟨_,qdS,λG0 H0 G ω σ H o Q ow e k=>by cases e;exact k G H (Ext.refl ow.gh)⟩
theorem WH(h:XV X a f):XO X (some a) (pAt f):=by
 obtain⟨t,h1,h2⟩:=h;refine⟨_,qe7 h1,λG0 H0 G ω σ H o Q ow e k=>?_⟩;obtain⟨d,q,e⟩:=bnd e;refine h2 G0 H0 G ω σ H d _ ow q λv G1 H1 x1 y1=>?_;cases d with
 | int i=>cases e;cases y1.int;exact⟨i,rfl,k G1 H1 x1⟩
 | _=>cases e
noncomputable def cutD{α:Type}(xs:List α)(lo hi:Option Int):List α:=(xs.drop (HT.sIx xs.length 0 lo)).take (HT.sIx xs.length xs.length hi - HT.sIx xs.length 0 lo)
theorem zAR{K:zA}{H:Hp}{ds:List D}{vs:List V}(h:Yo K H ds vs)(lo hi:Option Int):Yo K H (cutD ds lo hi) (zA2 vs lo hi):=by
 unfold cutD zA2;rw[h.len];exact(h.drop _).take _
theorem zBi(ns:List Int)(lo hi:Option Int):zA2 (ns.map V.int) lo hi=(cutD ns lo hi).map V.int:=by
 unfold cutD zA2;rw[zB,Zd,wt]
noncomputable def oSl:D->Option Int->Option Int->Option R
 | .lst ds,lo,hi=>some (.fr (cutD ds lo hi))
 | .scr ns,lo,hi=>some (.fr ((cutD ns lo hi).map D.int))
 | .tup ds,lo,hi=>if HT.sIx ds.length 0 lo=0/\HT.sIx ds.length ds.length hi=ds.length then some (.sh (.tup ds)) else some (.sh (.tup (cutD ds lo hi)))
 | _,_,_=>none
noncomputable def fSl(f:FD)(l h:FO):FE:=λω=>(f ω).bind λd=>(l ω).bind λlo=>(h ω).bind λhi=>oSl d lo hi
theorem X6{lo hi:Option Expr}{l h:FO}{p2:Pos}(ha:XV X a f)(hl:XO X lo l)(hh:XO X hi h):XE X (.Subscript a (.Slice lo hi none p2) pos) (fSl f l h):=by
 obtain⟨t,h1,h2⟩:=ha;obtain⟨tl,h3,h4⟩:=hl;obtain⟨th,h5,h6⟩:=hh;refine⟨_,qcr (qdB.or (qfn.or qcX)) h1 h3 h5,λG0 H0 G ω σ H r Q ow e k=>?_⟩;obtain⟨d,q,e⟩:=bnd e;obtain⟨lo',q2,e⟩:=bnd e;obtain⟨hi',q3,e⟩:=bnd e;refine h2 G0 H0 G ω σ H d _ ow q λv G1 H1 x1 y1=>?_;refine h4 G0 H0 G1 ω σ H1 lo' _ (ow.keep x1) q2 λG2 H2 x2=>?_;refine h6 G0 H0 G2 ω σ H2 hi' _ ((ow.keep x1).keep x2) q3 λG3 H3 x3=>?_;have y3:=(y1.keep x2).keep x3;have x13:=(x1.trans x2).trans x3;cases d with
 | lst ds =>
  cases e;obtain⟨p,vs,rfl,h1,h2⟩:=y3.lst x3.gh;refine .inl ⟨p,vs,rfl,SqL.of h1,λn hn=>?_⟩;exact k _ G3 _ (x13.trans (Ext.hide x3.gh hn _)) ⟨n,_,rfl,x13.hh.free hn,x3.gh.free hn,qd,zAR h2 _ _⟩
 | scr ns =>
  cases e;obtain⟨p,rfl,h1⟩:=y3.scr;refine .inl ⟨p,_,rfl,x3.gh.seq h1,λn hn=>?_⟩;refine k _ G3 _ (x13.trans (Ext.hide x3.gh hn _)) ⟨n,_,rfl,x13.hh.free hn,x3.gh.free hn,qd,?_⟩;rw[zBi];exact Yo.ints _
 | tup ds =>
  unfold oSl at e
  dsimp only at e
  obtain⟨p,vs,rfl,h1,h2⟩:=y3.tup
  by_cases z:HT.sIx ds.length 0 lo'=0/\HT.sIx ds.length ds.length hi'=ds.length
  ·rw[if_pos z] at e
   cases e;exact .inr (.inr ⟨p,vs,rfl,SqT.of (x3.gh _ _ h1),by rw[<- h2.len];exact z,k _ G3 H3 x13 ⟨p,vs,rfl,h1,h2⟩⟩)
  ·rw[if_neg z] at e
   cases e;refine .inr (.inl ⟨p,vs,rfl,SqT.of (x3.gh _ _ h1),by rw[<- h2.len];exact z,λn hn=>?_⟩);have x4:=Ext.lay x3.gh hn (.tup (zA2 vs lo' hi'));exact k _ _ _ (x13.trans x4) ⟨n,_,rfl,qd,(zAR h2 _ _).mono x4.gg⟩
 | _=>cases e
end
section
variable {X:Cx} {a b c:Expr} {pos:Pos} {rest:List Expr} {f g:FT}
noncomputable def zAF(f g:FT):FT:=λω=>(f ω).bind λc=>if c=true then g ω else some false
noncomputable def zBo(f g:FT):FT:=λω=>(f ω).bind λc=>if c=true then some true else g ω
noncomputable def zAB(f:FT):FT:=λω=>(f ω).map (!·)
theorem qd3{t u:TT}(h:zAU X.K t f)(h':zAU X.K u g):zAU X.K (tAnd t u) (zAF f g):=by
 intro G0 H0 G ω σ H b Q o e k;obtain⟨c,q,e⟩:=bnd e;refine h G0 H0 G ω σ H c _ o q λG1 H1 x1=>?_;cases c with
 | true=>rw[if_pos rfl] at e ⊢;exact h' G0 H0 G1 ω σ H1 b Q (o.keep x1) e λG2 H2 x2=>k G2 H2 (x1.trans x2)
 | false=>cases e;exact k G1 H1 x1
theorem qdM{t u:TT}(h:zAU X.K t f)(h':zAU X.K u g):zAU X.K (tOr t u) (zBo f g):=by
 intro G0 H0 G ω σ H b Q o e k;obtain⟨c,q,e⟩:=bnd e;refine h G0 H0 G ω σ H c _ o q λG1 H1 x1=>?_;cases c with
 | true=>cases e;exact k G1 H1 x1
 | false=>exact h' G0 H0 G1 ω σ H1 b Q (o.keep x1) e λG2 H2 x2=>k G2 H2 (x1.trans x2)
theorem q3x(h:XT X a f):XW X (.BoolOp .And [a] pos) f:=let ⟨t,h1,h2⟩:=h;⟨t,qdE h1,h2⟩
theorem q4s(h:XT X a f):XW X (.BoolOp .Or [a] pos) f:=let ⟨t,h1,h2⟩:=h;⟨t,qaG h1,h2⟩
theorem q4t(h:XT X a f)(h':XW X (.BoolOp .And (b::rest) pos) g):XW X (.BoolOp .And (a::b::rest) pos) (zAF f g):=let ⟨_,h1,h2⟩:=h;let ⟨_,h3,h4⟩:=h';⟨_,qeM h1 h3,qd3 h2 h4⟩
theorem q4m(h:XT X a f)(h':XW X (.BoolOp .Or (b::rest) pos) g):XW X (.BoolOp .Or (a::b::rest) pos) (zBo f g):=let ⟨_,h1,h2⟩:=h;let ⟨_,h3,h4⟩:=h';⟨_,qdi h1 h3,qdM h2 h4⟩
theorem XW.toT(h:XW X a f):XT X a f:=let ⟨t,h1,h2⟩:=h;⟨t,h1.pt,h2⟩
theorem q39(h:XT X a f):XT X (.UnaryOp .Not a pos) (zAB f):=by
 obtain⟨t,h1,h2⟩:=h;refine⟨_,qfI h1,λG0 H0 G ω σ H b Q o e k=>?_⟩;obtain⟨c,q,e⟩:=mpd e;subst e;exact h2 G0 H0 G ω σ H c _ o q k
noncomputable def truD:D->Option Bool
 | .non=>some false
 | .bl b=>some b
 | .int i=>some (i != 0)
 | .lst xs=>some (!xs.isEmpty)
 | .tup xs=>some (!xs.isEmpty)
 | _=>none
noncomputable def zBU(f:FD):FT:=λω=>(f ω).bind truD
theorem q3F{α β:Type}{xs:List α}{ys:List β}(h:xs.length=ys.length):xs.isEmpty=ys.isEmpty:=by
 cases xs <;> cases ys <;> first|rfl|cases h
theorem q1l{f:FD}(h:XV X a f)(he:∀ whole,isTrue a X.env whole=(do let v <- whole;standAt a.pos;holding [v] (truthy v)):=by intro _;rfl):XT X a (zBU f):=by
 obtain⟨t,h1,h2⟩:=h;refine⟨_,q2J h1 he,λG0 H0 G ω σ H b Q o e k=>?_⟩;obtain⟨d,q,e⟩:=bnd e;refine h2 G0 H0 G ω σ H d _ o q λv G1 H1 x1 y1=>⟨b,?_,k G1 H1 x1⟩;cases d with
 | non=>cases e;cases y1.non;rfl
 | bl c=>cases e;cases y1.bl;rfl
 | int i=>cases e;cases y1.int;rfl
 | lst xs =>
  cases e;obtain⟨p,vs,rfl,h1,h2⟩:=y1.lst x1.gh;exact .inl ⟨vs,SqL.of h1,by rw[q3F h2.len]⟩
 | tup xs =>
  cases e;obtain⟨p,vs,rfl,h1,h2⟩:=y1.tup;exact .inr (.inl ⟨vs,SqT.of (x1.gh _ _ h1),by rw[q3F h2.len]⟩)
 | _=>cases e
noncomputable def blOf:D->Option Bool
 | .bl b=>some b
 | _=>none
noncomputable def zB1(f g:FD):FD:=λω=>(f ω).bind λd=>(blOf d).bind λc=>if c=true then g ω else some (.bl false)
noncomputable def vNot(f:FD):FD:=λω=>(f ω).bind λd=>(blOf d).map λc=>.bl (!c)
noncomputable def fIte(c:FT)(f g:FE):FE:=λω=>(c ω).bind λk=>if k=true then f ω else g ω
variable {fa fb:FD}
theorem q7I{op}(h:XD X a fa):XD X (.BoolOp op [a] pos) fa:=let ⟨t,h1,h2⟩:=h;⟨t,qfM h1,h2⟩
theorem q2Y(h:XD X a fa)(h':XD X (.BoolOp .And (b::rest) pos) fb):XD X (.BoolOp .And (a::b::rest) pos) (zB1 fa fb):=by
 obtain⟨t,h1,h2⟩:=h;obtain⟨u,h3,h4⟩:=h';refine⟨_,qeR h1 h3,λG0 H0 G ω σ H d Q o e k=>?_⟩;obtain⟨x,q,e⟩:=bnd e;obtain⟨c,q2,e2⟩:=bnd e;clear e;refine h2 G0 H0 G ω σ H x _ o q λv G1 H1 x1 y1=>?_;cases x with
 | bl z =>
  cases q2;cases (show v=V.bl c from y1);refine⟨c,rfl,?_⟩;cases c with
  | true=>rw[if_pos rfl] at e2 ⊢;exact h4 G0 H0 G1 ω σ H1 d Q (o.keep x1) e2 λv G2 H2 x2 y2=>k v G2 H2 (x1.trans x2) y2
  | false=>cases e2;exact k _ G1 H1 x1 rfl
 | _=>cases q2
theorem qf6(h:XD X a fa):XD X (.UnaryOp .Not a pos) (vNot fa):=by
 obtain⟨t,h1,h2⟩:=h;refine⟨_,qeP h1,λG0 H0 G ω σ H d Q o e k=>?_⟩;obtain⟨x,q,e⟩:=bnd e;obtain⟨c,q2,e⟩:=mpd e;subst e;refine h2 G0 H0 G ω σ H x _ o q λv G1 H1 x1 y1=>?_;cases x with
 | bl z=>cases q2;cases (show v=V.bl c from y1);exact⟨c,rfl,k _ G1 H1 x1 rfl⟩
 | _=>cases q2
theorem zBt.after{K:zA}{G H G1 H1 G2 H2:Hp}{r:R}{v:V}(x:Ext G H G1 H1)(y:zBt K H1 G2 H2 r v):zBt K H G2 H2 r v:=by
 cases r with
 | sh d=>exact y
 | fr ds=>obtain⟨l,vs,e1,e2,e3⟩:=y;exact⟨l,vs,e1,x.hh.free e2,e3⟩
 | vw ds=>exact y
theorem qaZ{fc:FT}{f g:FE}(hc:XT X c fc)(ha:XE X a f)(hb:XE X b g):XE X (.IfExp c a b pos) (fIte fc f g):=by
 obtain⟨t,h1,h2⟩:=hc;obtain⟨u,h3,h4⟩:=ha;obtain⟨w,h5,h6⟩:=hb;refine⟨_,qcg h1 h3 h5,λG0 H0 G ω σ H r Q o e k=>?_⟩;obtain⟨z,q,e⟩:=bnd e;refine h2 G0 H0 G ω σ H z _ o q λG1 H1 x1=>?_;cases z with
 | true=>rw[if_pos rfl] at e ⊢;exact h4 G0 H0 G1 ω σ H1 r Q (o.keep x1) e λv G2 H2 x2 y2=>k v G2 H2 (x1.trans x2) (y2.after x1)
 | false=>exact h6 G0 H0 G1 ω σ H1 r Q (o.keep x1) e λv G2 H2 x2 y2=>k v G2 H2 (x1.trans x2) (y2.after x1)
end
def WO(K:zA)(r:List V->Hp->VK->Prop)(op:List D->Option R):Prop:=∀ G H ds vs d (Q:VK),Yz G H->op ds=some d->VwA K G H ds vs ->
 (∀ w G' H',Ext G H G' H'->zBt K H G' H' d w->Q w H')->r vs H Q
noncomputable def X5(op:List D->Option R)(g:FA):FE:=λω=>(g ω).bind op
section
variable {X:Cx} {e:Expr} {es:List Expr} {x:Str} {p pos:Pos} {r:List V->Hp->VK->Prop} {op:List D->Option R} {g:FA} {id T:String}
theorem q5F{t:TA}(hd:WO X.K r op)(h:SimVA X.K t g):zCO X.K (tCB r t) (X5 op g):=by
 intro G0 H0 G ω σ H d Q o e k;obtain⟨ds,q,e⟩:=bnd e;refine h G0 H0 G ω σ H ds _ o q λvs G1 H1 x1 y1=>?_;exact hd G1 H1 ds vs d Q x1.gh e y1 λw G2 H2 x2 y2=>k w G2 H2 (x1.trans x2) (y2.after x1)
theorem qB(hc:Xl X (.builtin id) r)(hd:WO X.K r op)(hg:Gl X x)(hm:X.mg x=none)(hv:bootBuiltins x=some (.builtin id))(ha:XVA X (e::es) g)(hn:x ≠ "__name__" := by decide)(hdb:(x == ("__debug__" : Str))=false:=by decide)
  (he:starEach (e::es) X.env=(false,eval e X.env)::starEach es X.env:=by rfl) (hpl:(backTo pos (starEach es X.env)).any (·.1)=false:=by rfl):XE X (.Call (.Name x p) (e::es) [] pos) (X5 op g):=by
 obtain⟨t,h1,h2⟩:=ha;exact⟨_,q1b hc hg hm hv h1 hn hdb he hpl,q5F hd h2⟩
theorem qdf(hc:Xl X (.type T) r)(hd:WO X.K r op)(hg:Gl X x)(hm:X.mg x=none)(hv:bootBuiltins x=some (.type T))(ha:XVA X (e::es) g)(hn:x ≠ "__name__" := by decide)(hdb:(x == ("__debug__" : Str))=false:=by decide)
  (he:starEach (e::es) X.env=(false,eval e X.env)::starEach es X.env:=by rfl) (hpl:(backTo pos (starEach es X.env)).any (·.1)=false:=by rfl):XE X (.Call (.Name x p) (e::es) [] pos) (X5 op g):=by
 obtain⟨t,h1,h2⟩:=ha;exact⟨_,q5V hc hg hm hv h1 hn hdb he hpl,q5F hd h2⟩
theorem VwA.one{K:zA}{G H:Hp}{d:D}{vs:List V}(h:VwA K G H [d] vs):∃ v,vs=[v]/\Vw K G H d v:=by
 obtain⟨v,r,h1,h2,h3⟩:=h;cases (show r=[] from h3);exact⟨v,h1,h2⟩
theorem VwA.two{K:zA}{G H:Hp}{d e:D}{vs:List V}(h:VwA K G H [d,e] vs):∃ v u,vs=[v,u]/\Vw K G H d v/\Vw K G H e u:=by
 obtain⟨v,r,h1,h2,h3⟩:=h;obtain⟨u,rfl,h4⟩:=VwA.one h3;exact⟨v,u,h1,h2,h4⟩
noncomputable def Wp:List D->Option R
 | [.lst ds]=>some (.sh (.int ds.length))
 | [.tup ds]=>some (.sh (.int ds.length))
 | [.scr ns]=>some (.sh (.int ns.length))
 | _=>none
theorem q01{K:zA}:WO K (λxs H Q=>∃ p ys,xs=[.ref p]/\(SqL K H p ys\/SqT K H p ys)/\Q (.int ys.length) H) Wp:=by
 intro G H ds vs d Q s e hv k
 match ds,e with
 | [.lst ds],e =>
  cases e;obtain⟨v,rfl,h⟩:=hv.one;obtain⟨p,us,rfl,h1,h2⟩:=h.lst s;exact⟨p,us,rfl,.inl (SqL.of h1),k _ G H (Ext.refl s) (by show V.int _=V.int _;rw[h2.len])⟩
 | [.tup ds],e =>
  cases e;obtain⟨v,rfl,h⟩:=hv.one;obtain⟨p,us,rfl,h1,h2⟩:=h.tup;exact⟨p,us,rfl,.inr (SqT.of (s _ _ h1)),k _ G H (Ext.refl s) (by show V.int _=V.int _;rw[h2.len])⟩
 | [.scr ns],e =>
  cases e;obtain⟨v,rfl,h⟩:=hv.one;obtain⟨p,rfl,h1⟩:=h.scr;exact⟨p,_,rfl,.inl (s.seq h1),k _ G H (Ext.refl s) (by show V.int _=V.int _;rw[zB])⟩
noncomputable def bAbs:List D->Option R
 | [.int i]=>some (.sh (.int (if i < 0 then -i else i)))
 | _=>none
theorem qg0{K:zA}:WO K (λxs H Q=>∃ i,xs=[.int i]/\Q (.int (if i < 0 then -i else i)) H) bAbs:=by
 intro G H ds vs d Q s e hv k
 match ds,e with
 | [.int i],e =>
  cases e;obtain⟨v,rfl,h⟩:=hv.one;cases h.int;exact⟨i,rfl,k _ G H (Ext.refl s) rfl⟩
noncomputable def bInt:List D->Option R
 | [.int i]=>some (.sh (.int i))
 | [.bl b]=>some (.sh (.int (if b then 1 else 0)))
 | _=>none
theorem qeT{K:zA}:WO K (λxs H Q=>(∃ i,xs=[.int i]/\Q (.int i) H)\/∃ k,xs=[.bl k]/\Q (.int (if k then 1 else 0)) H) bInt:=by
 intro G H ds vs d Q s e hv k
 match ds,e with
 | [.int i],e =>
  cases e;obtain⟨v,rfl,h⟩:=hv.one;cases h.int;exact .inl ⟨i,rfl,k _ G H (Ext.refl s) rfl⟩
 | [.bl i],e =>
  cases e;obtain⟨v,rfl,h⟩:=hv.one;cases h.bl;exact .inr ⟨i,rfl,k _ G H (Ext.refl s) rfl⟩
noncomputable def zB3:List D->Option R
 | [.lst ds]=>some (.fr ds)
 | [.tup ds]=>some (.fr ds)
 | _=>none
theorem qdH{K:zA}:WO K (λxs H Q=>∃ p ys,xs=[.ref p]/\(SqL K H p ys\/SqT K H p ys)/\∀ l,H l=none->Q (.ref l) (upd H l (.lst ys))) zB3:=by
 intro G H ds vs d Q s e hv k
 match ds,e with
 | [.lst ds],e =>
  cases e;obtain⟨v,rfl,h⟩:=hv.one;obtain⟨p,us,rfl,h1,h2⟩:=h.lst s;exact⟨p,us,rfl,.inl (SqL.of h1),λl hl=>k _ G _ (Ext.hide s hl _) ⟨l,us,rfl,hl,s.free hl,qd,h2⟩⟩
 | [.tup ds],e =>
  cases e;obtain⟨v,rfl,h⟩:=hv.one;obtain⟨p,us,rfl,h1,h2⟩:=h.tup;exact⟨p,us,rfl,.inr (SqT.of (s _ _ h1)),λl hl=>k _ G _ (Ext.hide s hl _) ⟨l,us,rfl,hl,s.free hl,qd,h2⟩⟩
noncomputable def zBb:List D->Option R
 | [.int i,.int j]=>some (.sh (.int (if j > i then j else i)))
 | _=>none
theorem q8V{K:zA}:WO K (λxs H Q=>∃ i j,xs=[.int i,.int j]/\Q (.int (if j > i then j else i)) H) zBb:=by
 intro G H ds vs d Q s e hv k
 match ds,e with
 | [.int i,.int j],e =>
  cases e;obtain⟨v,u,rfl,h,h'⟩:=hv.two;cases h.int;cases h'.int;exact⟨i,j,rfl,k _ G H (Ext.refl s) rfl⟩
noncomputable def allB:List D->Option Bool
 | []=>some true
 | .bl b::r=>(allB r).map λc=>b && c
 | _=>none
noncomputable def bAll:List D->Option R
 | [.lst ds]=>(allB ds).map λb=>.sh (.bl b)
 | _=>none
end
def rAll:List V->Hp->VK->Prop:=λxs H Q=>∃ (p:Addr) (bs:List Bool),xs=[.ref p]/\H p=some (.lst (bs.map V.bl))/\Q (.bl (bs.all id)) H
section
variable {X:Cx}
theorem q8Z:∀ {bs:List Bool} {us:List Value},Y2 (bs.map V.bl) us->us=bs.map Value.bool
 | [],_,r=>by cases r;rfl
 | b::bs,_,r=>by
  rw[zg] at r;cases r with
  | cons r1 r2=>cases r1;rw[q8Z r2];rfl
theorem qbw{bs:List Bool}:(zf bs.length).all (λi=>bs.getD i false)=bs.all id:=by
 induction bs with
 | nil=>rfl
 | cons b r ih =>
  rw[zL,ZH,Ze,List.all_map,Ze];have e:((λi=>(b::r).getD i false) ∘ Nat.succ)=λi=>r.getD i false:=by funext i;rfl
  rw[e,ih];rfl
theorem qbb(hc:X.calm=true):Xl X (.builtin "all") rAll:=by
 intro pins s σ H xs us Q I r h;obtain⟨p,bs,rfl,hp,q⟩:=h;obtain⟨u,rfl,rx⟩:=vals1 r;cases rx;obtain⟨its,n,rv,e,hz⟩:=I.lst hp;have ei:=q8Z rv;have hlt:p < s.heap.objs.size:=zO e;refine call_all_walk (wpAny_pyIter_list (items:=its.toArray) ⟨_,e,rfl,n,rfl⟩ ?_);refine⟨s.heap.objs.size,_,_,its.toArray.size,_,_,λi=>bs.getD i false,rfl,Walks.list (by first|exact I.ok.hd hc|(show X.A.handled=none;exact I.ok.hd hc)) _ p (zt hlt) its.toArray,⟨⟨_,zR _ rfl,rfl,rfl⟩,⟨_,zE _ e,rfl,n,rfl⟩⟩,λi v s' Q' E' hv hq=>?_,λh' tk hk=>?_⟩
 ·have hv':its[i]?=some v:=by simpa using hv
  rw[ei,za] at hv';cases eb:bs[i]? with
  | none=>rw[eb] at hv';cases hv'
  | some b =>
   rw[eb] at hv';cases hv';have:bs.getD i false=b:=by rw[zS,eb];rfl
   have hq':Q' b s':=by rw[<- this];exact hq
   exact wpAny_truthy_bool hq'
 ·have hl:its.toArray.size=bs.length:=by rw[zP,ei,zB]
  rw[hl,qbw];exact⟨.bl _,H,I.kept (λb o z=>hk b o (λhm=>by
   have:b=s.heap.objs.size:=by simpa using hm
   subst this;exact absurd (zO z) (xg _)) (zE _ z)),rfl,q⟩
theorem q95:∀ {ds:List D} {b:Bool},allB ds=some b->∃ bs:List Bool,ds=bs.map D.bl/\bs.all id=b
 | [],_,e=>by cases e;exact⟨[],rfl,rfl⟩
 | .bl c::r,b,e=>by
  obtain⟨k,q,e⟩:=mpd e;obtain⟨bs,h1,h2⟩:=q95 q;exact⟨c::bs,by rw[h1];rfl,by rw[Ze,h2];exact e⟩
 | .non::_,_,e=>by cases e
 | .int _::_,_,e=>by cases e
 | .str _::_,_,e=>by cases e
 | .lst _::_,_,e=>by cases e
 | .tup _::_,_,e=>by cases e
 | .scr _::_,_,e=>by cases e
 | .exc _::_,_,e=>by cases e
 | .dic _ _::_,_,e=>by cases e
theorem q9d{K:zA}{H:Hp}:∀ {bs:List Bool} {vs:List V},Yo K H (bs.map D.bl) vs->vs=bs.map V.bl
 | [],_,h=>h
 | n::r,_,⟨v,vs,h1,h2,h3⟩=>by
  have:=q9d h3;have e:v=.bl n:=h2;rw[h1,this,e];rfl
theorem qfE{K:zA}:WO K rAll bAll:=by
 intro G H ds vs d Q s e hv k
 match ds,e with
 | [.lst ds],e =>
  obtain⟨b,q,e⟩:=mpd e;subst e;obtain⟨bs,rfl,rfl⟩:=q95 q;obtain⟨v,rfl,h⟩:=hv.one;obtain⟨p,us,rfl,h1,h2⟩:=h.lst s;exact⟨p,bs,rfl,by rw[h1,q9d h2],k _ G H (Ext.refl s) rfl⟩
end
inductive Ty where
 | non|bl|int|str|lst|tup|dic
noncomputable def Ty.n:Ty->String
 | .non => "NoneType"
 | .bl => "bool"
 | .int => "int"
 | .str => "str"
 | .lst => "list"
 | .tup => "tuple"
 | .dic => "dict"
noncomputable def tyD:D->Ty
 | .non=>.non
 | .bl _=>.bl
 | .int _=>.int
 | .str _=>.str
 | .lst _=>.lst
 | .tup _=>.tup
 | .scr _=>.lst
 | .exc _=>.non
 | .dic _ _=>.non
noncomputable def zBR:Ty->Ty->Bool
 | .non,.non=>true
 | .bl,.bl=>true
 | .bl,.int=>true
 | .int,.int=>true
 | .str,.str=>true
 | .lst,.lst=>true
 | .tup,.tup=>true
 | _,_=>false
noncomputable def zCN(c:Ty)(f:FD):FE:=λω=>(f ω).bind λd=>match d with
 | .scr _=>none
 | .exc _=>none
 | .dic _ _=>none
 | d=>some (.sh (.bl (zBR (tyD d) c)))
def IsT(K:zA)(c:Ty):Prop:=∀ t:Ty,t≠.dic->ZW K (.type t.n) (.type c.n)=some (zBR t c)
def rIsi(K:zA):List V->Hp->VK->Prop:=λxs H Q=>∃ x c T b,xs=[x,.ty c]/\TyOf K H x (.type T)/\ZW K (.type T) (.type c)=some b/\Q (.bl b) H
section
variable {X:Cx} {a:Expr} {f:FD}
theorem qc0:Xl X (.builtin "isinstance") (rIsi X.K):=by
 intro pins s σ H xs us Q I r h;obtain⟨x,c,T,b,rfl,ty,e,q⟩:=h;obtain⟨u1,u2,rfl,r2,r3⟩:=vals2 r;cases (show u2=Value.type c from r3);exact qbu I r2 ty e λtk=>⟨.bl b,H,I.tok tk,rfl,q⟩
theorem qe4{K:zA}{G H:Hp}{d:D}{v:V}(h:Vw K G H d v)(s:Yz G H)(n:∀ ns,d≠.scr ns)(n':∀ c,d≠.exc c)(n'':∀ ks ds,d≠.dic ks ds):TyOf K H v (.type (tyD d).n):=by
 cases d with
 | non=>cases h.non;exact .non
 | bl b=>cases h.bl;exact .bl b
 | int i=>cases h.int;exact .int i
 | str x=>cases h.str;exact .str x
 | lst ds=>obtain⟨p,us,rfl,h1,_⟩:=h.lst s;exact .lst h1
 | tup ds=>obtain⟨p,us,rfl,h1,_⟩:=h.tup;exact .tup (s _ _ h1)
 | scr ns=>exact absurd rfl (n ns)
 | exc c=>exact absurd rfl (n' c)
 | dic ks ds=>exact absurd rfl (n'' ks ds)
theorem qfD(d:D):tyD d≠.dic:=by cases d <;> exact λz=>nomatch z
theorem q4G{c:Ty}{x:Str}{p q pos:Pos}(ha:XV X a f)(hk:IsT X.K c)(hg:Gl X "isinstance")(hm:X.mg "isinstance" = none)(hgc:Gl X x)(hmc:X.mg x=none)(hvc:bootBuiltins x=some (.type c.n))(hnx:x ≠ "__name__" := by decide)(hdx:(x == ("__debug__" : Str))=false:=by decide)
  (he:starEach [a,.Name x q] X.env=(false,eval a X.env)::starEach [.Name x q] X.env:=by rfl) (he2:starEach [.Name x q] X.env=(false,eval (.Name x q) X.env)::starEach [] X.env:=by rfl) (hpl:(backTo pos (starEach [.Name x q] X.env)).any (·.1)=false:=by rfl) :
  XE X (.Call (.Name "isinstance" p) [a,.Name x q] [] pos) (zCN c f):=by
 obtain⟨t,h1,h2⟩:=ha;refine⟨_,q1b qc0 hg hm PyProof.Rows.boot_isinstance (qr h1 (qr (qeg hgc hmc hvc (v:=.ty c.n) rfl hnx hdx) qo he2) he) (by decide) (by decide) he hpl,λG0 H0 G ω σ H r Q o e k=>?_⟩;obtain⟨d,q,e⟩:=bnd e;refine h2 G0 H0 G ω σ H d _ o q λv G1 H1 x1 y1=>?_;have n:∀ ns,d≠.scr ns:=λns z=>by subst z;cases e
 have n':∀ c,d≠.exc c:=λns z=>by subst z;cases e
 have n'':∀ ks ds,d≠.dic ks ds:=λks ds z=>by subst z;cases e
 have e':r=.sh (.bl (zBR (tyD d) c)):=by
  cases d <;> first|(cases e;rfl)|cases e
 subst e';exact⟨v,c.n,(tyD d).n,zBR (tyD d) c,rfl,qe4 y1 x1.gh n n' n'',hk _ (qfD d),k _ G1 H1 x1 rfl⟩
end
inductive Out where
 | nx|bk|ct|rt (r:O)
noncomputable abbrev FS:=WSt->Option (Out×WSt)
def zAj(K:zA)(H0 G':Hp)(E:Ends):Out->St->Hp->Prop
 | .nx,σ,H=>E.nx σ H
 | .bk,σ,H=>E.bk σ H
 | .ct,σ,H=>E.ct σ H
 | .rt r,_,H=>∀ v,zBt K H0 G' H r.r v->E.rt v H
def SimS(K:zA)(t:TS)(f:FS):Prop:=∀ G0 H0 G ω σ H out ω' (E:Ends),Own K G0 H0 G ω σ H->f ω=some (out,ω') ->
 (∀ G' σ' H',Own K G0 H0 G' ω' σ' H'->Yz G G'->zAj K H0.hp G' E out σ' H')->t E σ H
def XS(X:Cx)(st:Stmt)(f:FS):Prop:=∃ t,PS X st t/\SimS X.K t f
def XSs(X:Cx)(st:List Stmt)(f:FS):Prop:=∃ t,PSs X st t/\SimS X.K t f
noncomputable def Wm:FS:=λω=>some (.nx,ω)
noncomputable def Y5(f g:FS):FS:=λω=>(f ω).bind λp=>match p.1 with
 | .nx=>g p.2
 | o=>some (o,p.2)
section
variable {X:Cx} {st:Stmt} {rest:List Stmt} {f g:FS}
theorem qz:XSs X [] Wm:=⟨_,qdZ,λG0 H0 G ω σ H out ω' E o e k=>by cases e;exact k G σ H o (Yz.refl _)⟩
theorem qe(h:XS X st f):XSs X [st] f:=let ⟨t,h1,h2⟩:=h;⟨t,q0f h1,h2⟩
theorem qb(h:XS X st f)(h':XSs X rest g):XSs X (st::rest) (Y5 f g):=by
 obtain⟨t,h1,h2⟩:=h;obtain⟨u,h3,h4⟩:=h';refine⟨_,qu h1 h3,λG0 H0 G ω σ H out ω' E o e k=>?_⟩;obtain⟨⟨o1,ω1⟩,q,e⟩:=bnd e;refine h2 G0 H0 G ω σ H o1 ω1 _ o q λG1 σ1 H1 w1 g1=>?_;cases o1 with
 | nx=>exact h4 G0 H0 G1 ω1 σ1 H1 out ω' E w1 e λG2 σ2 H2 w2 g2=>k G2 σ2 H2 w2 (g1.trans g2)
 | bk=>cases e;exact k G1 σ1 H1 w1 g1
 | ct=>cases e;exact k G1 σ1 H1 w1 g1
 | rt r=>cases e;exact k G1 σ1 H1 w1 g1
end
section
variable {K:zA} {G0:Hp} {H0:Fr} {G:Hp} {ω:WSt} {σ:St} {H:Hp}
theorem qf{α:Type}{l:List α}{i j:Nat}{x y:α}(h:(l.set i x)[j]?=some y):(i=j/\i < l.length/\y=x)\/(i≠j/\l[j]?=some y):=by
 rw[List.getElem?_set] at h
 by_cases e:i=j
 ·rw[if_pos e] at h
  by_cases z:i < l.length
  ·rw[if_pos z] at h;exact .inl ⟨e,z,(zw h).symm⟩
  ·rw[if_neg z] at h;cases h
 ·rw[if_neg e] at h;exact .inr ⟨e,h⟩
theorem q0U{α:Type}{l:List α}{i:Nat}{x:α}(h:i < l.length):(l.set i x)[i]?=some x:=yW h
theorem Xg.set{i:Nat}{w:Option W}{v:Option V}(o:Xg K H0 G ω σ H)(hw:∀ ds,w≠some (.pw ds))(hv:∀ ds,w=some (.ow ds)->∀ (j:Nat) es,ω[j]?=some (some (.pw es))->v≠some (.ref (H0.pin j))):Xg K H0 G (ω.set i w) (σ.set i v) H:=by
 intro j ds hj;rcases qf hj with⟨rfl,hl,z⟩|⟨ne,z⟩
 ·exact absurd z.symm (hw ds)
 ·obtain⟨vs,h1,h2,h3,h4,h5,h6,h7⟩:=o j ds z
  refine⟨vs,by rw[zI ne];exact h1,h2,h3,h4,h5,λk es hk=>?_,λk es hk sk=>?_⟩
  ·rcases qf hk with⟨rfl,hl',z'⟩|⟨ne',z'⟩
   ·exact absurd z'.symm (hw es)
   ·exact h6 k es z'
  ·rcases qf hk with⟨rfl,hl',z'⟩|⟨ne',z'⟩
   ·rcases qf sk with⟨_,_,e⟩|⟨ne2,_⟩
    ·exact hv es z'.symm j ds z e.symm
    ·exact ne2 rfl
   ·rw[zI ne'] at sk;exact h7 k es z' sk
theorem Xg.setW{i:Nat}{w:Option W}(o:Xg K H0 G ω σ H)(hw:∀ ds,w≠some (.pw ds))(ho:∀ ds,w≠some (.ow ds)):Xg K H0 G (ω.set i w) σ H:=by
 intro j ds hj;rcases qf hj with⟨rfl,hl,z⟩|⟨ne,z⟩
 ·exact absurd z.symm (hw ds)
 ·obtain⟨vs,h1,h2,h3,h4,h5,h6,h7⟩:=o j ds z
  refine⟨vs,h1,h2,h3,h4,h5,λk es hk=>?_,λk es hk=>?_⟩
  ·rcases qf hk with⟨rfl,hl',z'⟩|⟨ne',z'⟩
   ·exact absurd z'.symm (hw es)
   ·exact h6 k es z'
  ·rcases qf hk with⟨rfl,hl',z'⟩|⟨ne',z'⟩
   ·exact absurd z'.symm (ho es)
   ·exact h7 k es z'
theorem Xg.upd{p:Addr}{ob:HO}(o:Xg K H0 G ω σ H)(hp:∀ (j:Nat) es,ω[j]?=some (some (.pw es))->H0.pin j≠p):Xg K H0 G ω σ (upd H p ob):=by
 intro j ds hj;obtain⟨vs,h1,h2,h3⟩:=o j ds hj;exact⟨vs,h1,by rw[qc (hp j ds hj)];exact h2,h3⟩
theorem Xg.grow{p:Addr}{ob:HO}(o:Xg K H0 G ω σ H)(g:G p=none)(hp:∀ (j:Nat) es,ω[j]?=some (some (.pw es))->H0.pin j≠p):Xg K H0 (L2.upd G p ob) ω σ H:=by
 intro j ds hj;obtain⟨vs,h1,h2,h3,h4,h5,h6⟩:=o j ds hj;exact⟨vs,h1,h2,by rw[qc (hp j ds hj)];exact h3,h4,h5.mono (XY g _),h6⟩
theorem Xg.ne_ow{i:Nat}{ds:List D}{l:Addr}(o:Xg K H0 G ω σ H)(hi:ω[i]?=some (some (.ow ds)))(hσ:σ[i]?=some (some (.ref l))):∀ (j:Nat) es,ω[j]?=some (some (.pw es))->H0.pin j≠l:=λj es hj y=>by
 obtain⟨_,_,_,_,_,_,_,h7⟩:=o j es hj;exact h7 i ds hi (by rw[y];exact hσ)
theorem Xg.ne_ob{l:Addr}(o:Xg K H0 G ω σ H)(h:∀ vs,H l≠some (.lst vs)):∀ (j:Nat) es,ω[j]?=some (some (.pw es))->H0.pin j≠l:=λj es hj y=>by
 obtain⟨vs,_,h2,_⟩:=o j es hj;exact h vs (by rw[<- y];exact h2)
theorem Xg.setL{i:Nat}{ds es:List D}(o:Xg K H0 G ω σ H)(hi:ω[i]?=some (some (.ow ds))):Xg K H0 G (ω.set i (some (.ow es))) σ H:=by
 intro j ds' hj;rcases qf hj with⟨rfl,hl,z⟩|⟨ne,z⟩
 ·cases z
 ·obtain⟨vs,h1,h2,h3,h4,h5,h6,h7⟩:=o j ds' z
  refine⟨vs,h1,h2,h3,h4,h5,λk es hk=>?_,λk es hk=>?_⟩
  ·rcases qf hk with⟨rfl,hl',z'⟩|⟨ne',z'⟩
   ·cases z'
   ·exact h6 k es z'
  ·rcases qf hk with⟨rfl,hl',z'⟩|⟨ne',z'⟩
   ·exact h7 i ds hi
   ·exact h7 k es z'
theorem Own.od_set{i:Nat}{w:Option W}{v:Option V}(o:Own K G0 H0 G ω σ H)(h:∀ ks ds,w≠some (.od ks ds)):∀ (j:Nat) ks ds,(ω.set i w)[j]?=some (some (.od ks ds))->∃ p vs,(σ.set i v)[j]?=some (some (.ref p))/\H p=some (.dK (kvsOf ks vs))/\G p=none/\H0 p=none/\ks.length=ds.length/\Yo K G ds vs /\
  ∀ (k:Nat) ks' es,(ω.set i w)[k]?=some (some (.od ks' es))->(σ.set i v)[k]?=some (some (.ref p))->j=k:=by
 intro j ks ds hj;rcases qf hj with⟨rfl,hl,z⟩|⟨ne,z⟩
 ·exact absurd z.symm (h ks ds)
 ·obtain⟨p,vs,h1,h2,h3,h4,h5,h6,h7⟩:=o.od j ks ds z
  refine⟨p,vs,by rw[zI ne];exact h1,h2,h3,h4,h5,h6,λk ks' es hk sk=>?_⟩;rcases qf hk with⟨rfl,hl',z'⟩|⟨ne',z'⟩
  ·exact absurd z'.symm (h ks' es)
  ·rw[zI ne'] at sk
   exact h7 k ks' es z' sk
theorem Own.setSh{i:Nat}{d:D}{v:V}(o:Own K G0 H0 G ω σ H)(h:Rep K G d v):Own K G0 H0 G (ω.set i (some (.sh d))) (σ.set i (some v)) H:=by
 refine⟨o.ext,by rw[yT,yT,o.len],λj e hj=>?_,λj ds hj=>?_,λj k ds es l hj hk sj sk=>?_,o.od_set (λ_ _ z=>by cases z),o.pw.set (λ_ z=>by cases z) (λ_ z=>by cases z)⟩
 ·rcases qf hj with⟨rfl,hl,z⟩|⟨ne,z⟩
  ·cases z;exact⟨v,q0U (by rw[<- o.len];exact hl),h⟩
  ·obtain⟨u,h1,h2⟩:=o.sh j e z
   exact⟨u,by rw[zI ne];exact h1,h2⟩
 ·rcases qf hj with⟨rfl,hl,z⟩|⟨ne,z⟩
  ·cases z
  ·obtain⟨l,vs,h1,h2⟩:=o.ow j ds z
   exact⟨l,vs,by rw[zI ne];exact h1,h2⟩
 ·rcases qf hj with⟨rfl,hl,z⟩|⟨ne,z⟩
  ·cases z
  ·rcases qf hk with⟨rfl,hl',z'⟩|⟨ne',z'⟩
   ·cases z'
   ·rw[zI ne] at sj
    rw[zI ne'] at sk;exact o.nd j k ds es l z z' sj sk
theorem Own.setOw{i:Nat}{ds:List D}{l:Addr}{vs:List V}(o:Own K G0 H0 G ω σ H)(h1:H l=some (.lst vs))(h2:G l=none)(h3:H0 l=none)(h4:Yo K G ds vs)
  (h5:∀ (j:Nat) es,ω[j]?=some (some (.ow es))->σ[j]?≠some (some (.ref l))) (h6:∀ (j:Nat) es,ω[j]?=some (some (.pw es))->H0.pin j≠l):Own K G0 H0 G (ω.set i (some (.ow ds))) (σ.set i (some (.ref l))) H:=by
 refine⟨o.ext,by rw[yT,yT,o.len],λj e hj=>?_,λj es hj=>?_,λj k es fs m hj hk sj sk=>?_,o.od_set (λ_ _ z=>by cases z),o.pw.set (λ_ z=>by cases z) (λ_ _ j es hj y=>h6 j es hj (by cases y;rfl))⟩
 ·rcases qf hj with⟨rfl,hl,z⟩|⟨ne,z⟩
  ·cases z
  ·obtain⟨u,q1,q2⟩:=o.sh j e z
   exact⟨u,by rw[zI ne];exact q1,q2⟩
 ·rcases qf hj with⟨rfl,hl,z⟩|⟨ne,z⟩
  ·cases z;exact⟨l,vs,q0U (by rw[<- o.len];exact hl),h1,h2,h3,h4⟩
  ·obtain⟨m,us,q1,q2⟩:=o.ow j es z
   exact⟨m,us,by rw[zI ne];exact q1,q2⟩
 ·rcases qf hj with⟨e1,hl,z⟩|⟨ne,z⟩
  ·rcases qf hk with⟨e2,hl',z'⟩|⟨ne',z'⟩
   ·exact e1.symm.trans e2
   ·rw[zI ne'] at sk
    subst e1;rw[q0U (by rw[<- o.len];exact hl)] at sj;cases sj;exact absurd sk (h5 k fs z')
  ·rcases qf hk with⟨e2,hl',z'⟩|⟨ne',z'⟩
   ·rw[zI ne] at sj
    subst e2;rw[q0U (by rw[<- o.len];exact hl')] at sk;cases sk;exact absurd sj (h5 j es z)
   ·rw[zI ne] at sj
    rw[zI ne'] at sk;exact o.nd j k es fs m z z' sj sk
theorem Own.mut{i:Nat}{ds es:List D}{l:Addr}{vs us:List V}(o:Own K G0 H0 G ω σ H)(hi:ω[i]?=some (some (.ow ds)))(hσ:σ[i]?=some (some (.ref l)))(h1:H l=some (.lst vs))(h2:G l=none)(h3:H0 l=none)(h4:Yo K G es us) :
  Own K G0 H0 G (ω.set i (some (.ow es))) σ (upd H l (.lst us)):=by
 have ho:i < ω.length:=(zj.mp hi).1;refine⟨⟨o.ext.gg,Yy o.ext.gh h2 _,Yy o.ext.hh h3 _,o.ext.new⟩,by rw[yT,o.len],λj e hj=>?_,λj fs hj=>?_,λj k fs gs m hj hk sj sk=>?_,λj ks fs hj=>?_,(o.pw.upd (o.pw.ne_ow hi hσ)).setL hi⟩
 ·rcases qf hj with⟨rfl,hl,z⟩|⟨ne,z⟩
  ·cases z
  ·exact o.sh j e z
 ·rcases qf hj with⟨rfl,hl,z⟩|⟨ne,z⟩
  ·cases z;exact⟨l,us,hσ,qd,h2,h3,h4⟩
  ·obtain⟨m,ws,q1,q2,q3,q4,q5⟩:=o.ow j fs z
   have hm:m≠l:=λy=>ne (o.nd i j ds fs l hi z hσ (by rw[<- y];exact q1));exact⟨m,ws,q1,by rw[qc hm];exact q2,q3,q4,q5⟩
 ·rcases qf hj with⟨e1,hl,z⟩|⟨ne,z⟩
  ·rcases qf hk with⟨e2,hl',z'⟩|⟨ne',z'⟩
   ·exact e1.symm.trans e2
   ·subst e1;exact o.nd i k ds gs m hi z' sj sk
  ·rcases qf hk with⟨e2,hl',z'⟩|⟨ne',z'⟩
   ·subst e2;exact o.nd j i fs ds m z hi sj sk
   ·exact o.nd j k fs gs m z z' sj sk
 ·rcases qf hj with⟨e1,hl,z⟩|⟨ne,z⟩
  ·cases z
  ·obtain⟨p,ws,q1,q2,q3,q4,q5,q6,q7⟩:=o.od j ks fs z
   have hp:p≠l:=λy=>by rw[y,h1] at q2;cases q2
   refine⟨p,ws,q1,by rw[qc hp];exact q2,q3,q4,q5,q6,λk ks' es hk sk=>?_⟩;rcases qf hk with⟨e2,hl',z'⟩|⟨ne',z'⟩
   ·cases z'
   ·exact q7 k ks' es z' sk
theorem Own.setOd{i:Nat}{ks:List Int}{ds:List D}{p:Addr}{vs:List V}(o:Own K G0 H0 G ω σ H)(h1:H p=some (.dK (kvsOf ks vs)))(h2:G p=none)(h3:H0 p=none)(h4:ks.length=ds.length)(h5:Yo K G ds vs)
  (h6:∀ (j:Nat) ks' es,ω[j]?=some (some (.od ks' es))->σ[j]?≠some (some (.ref p))):Own K G0 H0 G (ω.set i (some (.od ks ds))) (σ.set i (some (.ref p))) H:=by
 refine⟨o.ext,by rw[yT,yT,o.len],λj e hj=>?_,λj es hj=>?_,λj k es fs m hj hk sj sk=>?_,λj ks' es hj=>?_,o.pw.set (λ_ z=>by cases z) (λ_ z=>by cases z)⟩
 ·rcases qf hj with⟨rfl,hl,z⟩|⟨ne,z⟩
  ·cases z
  ·obtain⟨u,q1,q2⟩:=o.sh j e z
   exact⟨u,by rw[zI ne];exact q1,q2⟩
 ·rcases qf hj with⟨rfl,hl,z⟩|⟨ne,z⟩
  ·cases z
  ·obtain⟨m,us,q1,q2⟩:=o.ow j es z
   exact⟨m,us,by rw[zI ne];exact q1,q2⟩
 ·rcases qf hj with⟨e1,hl,z⟩|⟨ne,z⟩
  ·cases z
  ·rcases qf hk with⟨e2,hl',z'⟩|⟨ne',z'⟩
   ·cases z'
   ·rw[zI ne] at sj
    rw[zI ne'] at sk;exact o.nd j k es fs m z z' sj sk
 ·rcases qf hj with⟨rfl,hl,z⟩|⟨ne,z⟩
  ·cases z
   refine⟨p,vs,q0U (by rw[<- o.len];exact hl),h1,h2,h3,h4,h5,λk ks'' fs hk sk=>?_⟩;rcases qf hk with⟨e2,hl',z'⟩|⟨ne',z'⟩
   ·exact e2
   ·rw[zI ne'] at sk
    exact absurd sk (h6 k ks'' fs z')
  ·obtain⟨p',vs',q1,q2,q3,q4,q5,q6,q7⟩:=o.od j ks' es z
   refine⟨p',vs',by rw[zI ne];exact q1,q2,q3,q4,q5,q6,λk ks'' fs hk sk=>?_⟩;rcases qf hk with⟨e2,hl',z'⟩|⟨ne',z'⟩
   ·subst e2
    rw[q0U (by rw[<- o.len];exact hl')] at sk;cases sk;exact absurd q1 (h6 j ks' es z)
   ·rw[zI ne'] at sk
    exact q7 k ks'' fs z' sk
theorem Own.mutD{i:Nat}{ks ks2:List Int}{ds es:List D}{p:Addr}{vs us:List V}(o:Own K G0 H0 G ω σ H)(hi:ω[i]?=some (some (.od ks ds)))(hσ:σ[i]?=some (some (.ref p)))(h1:H p=some (.dK (kvsOf ks vs)))(h2:G p=none)(h3:H0 p=none)(h4:ks2.length=es.length)(h5:Yo K G es us) :
  Own K G0 H0 G (ω.set i (some (.od ks2 es))) σ (upd H p (.dK (kvsOf ks2 us))):=by
 have ho:i < ω.length:=(zj.mp hi).1;refine⟨⟨o.ext.gg,Yy o.ext.gh h2 _,Yy o.ext.hh h3 _,o.ext.new⟩,by rw[yT,o.len],λj e hj=>?_,λj fs hj=>?_,λj k fs gs m hj hk sj sk=>?_,λj ks' fs hj=>?_,(o.pw.upd (o.pw.ne_ob λvs z=>by rw[h1] at z;cases z)).setW (λ_ z=>by cases z) (λ_ z=>by cases z)⟩
 ·rcases qf hj with⟨rfl,hl,z⟩|⟨ne,z⟩
  ·cases z
  ·exact o.sh j e z
 ·rcases qf hj with⟨rfl,hl,z⟩|⟨ne,z⟩
  ·cases z
  ·obtain⟨m,ws,q1,q2,q3,q4,q5⟩:=o.ow j fs z
   have hm:m≠p:=λy=>by rw[y,h1] at q2;cases q2
   exact⟨m,ws,q1,by rw[qc hm];exact q2,q3,q4,q5⟩
 ·rcases qf hj with⟨e1,hl,z⟩|⟨ne,z⟩
  ·cases z
  ·rcases qf hk with⟨e2,hl',z'⟩|⟨ne',z'⟩
   ·cases z'
   ·exact o.nd j k fs gs m z z' sj sk
 ·obtain⟨p0,vs0,r1,r2,r3,r4,r5,r6,r7⟩:=o.od i ks ds hi
  rw[hσ] at r1;cases r1;rcases qf hj with⟨rfl,hl,z⟩|⟨ne,z⟩
  ·cases z
   refine⟨p,us,hσ,qd,h2,h3,h4,h5,λk ks'' gs hk sk=>?_⟩;rcases qf hk with⟨e2,hl',z'⟩|⟨ne',z'⟩
   ·exact e2
   ·exact r7 k ks'' gs z' sk
  ·obtain⟨q,ws,q1,q2,q3,q4,q5,q6,q7⟩:=o.od j ks' fs z
   have hp:q≠p:=λy=>ne (r7 j ks' fs z (by rw[<- y];exact q1));refine⟨q,ws,q1,by rw[qc hp];exact q2,q3,q4,q5,q6,λk ks'' gs hk sk=>?_⟩;rcases qf hk with⟨e2,hl',z'⟩|⟨ne',z'⟩
   ·subst e2
    rw[hσ] at sk;cases sk;exact absurd rfl hp
   ·exact q7 k ks'' gs z' sk
noncomputable def share(i:Nat)(ω:WSt):WSt:=match ω[i]? with
 | some (some (.ow ds))=>ω.set i (some (.sh (.lst ds)))
 | some (some (.od ks ds))=>ω.set i (some (.sh (.dic ks ds)))
 | _=>ω
theorem Own.share(i:Nat)(o:Own K G0 H0 G ω σ H):(∃ G',Yz G G'/\Own K G0 H0 G' (share i ω) σ H)\/∃ p kvs,σ[i]?=some (some (.ref p))/\H p=some (.dK kvs)/\∀ ob,∃ G',Yz G G'/\Own K G0 H0 G' (share i ω) σ (upd H p (.frz ob (.dK kvs))):=by
 unfold Hk.share;cases q:ω[i]? with
 | none=>exact .inl ⟨G,Yz.refl _,o⟩
 | some w =>
  cases w with
  | none=>exact .inl ⟨G,Yz.refl _,o⟩
  | some w =>
   cases w with
   | sh d=>exact .inl ⟨G,Yz.refl _,o⟩
   | pw ds=>exact .inl ⟨G,Yz.refl _,o⟩
   | ow ds =>
    obtain⟨l,vs,q1,q2,q3,q4,q5⟩:=o.ow i ds q;have s1:Yz G (upd G l (.lst vs)):=XY q3 _;have ho:i < ω.length:=(zj.mp q).1;refine .inl ⟨upd G l (.lst vs),s1,⟨o.ext.gg.trans s1,λb u z=>?_,o.ext.hh,λb z1 z2=>?_⟩,by rw[yT,o.len],λj e hj=>?_,λj fs hj=>?_,λj k fs gs m hj hk sj sk=>?_,λj ks fs hj=>?_,(o.pw.grow q3 (o.pw.ne_ow q q1)).setW (λ_ z=>by cases z) (λ_ z=>by cases z)⟩
    ·by_cases hb:b=l
     ·subst hb;rw[qd] at z;rw[q2];exact z
     ·rw[qc hb] at z;exact o.ext.gh b u z
    ·rw[qc (λhb=>z2 (by rw[hb];exact q4))];exact o.ext.new b z1 z2
    ·rcases qf hj with⟨rfl,hl,z⟩|⟨ne,z⟩
     ·cases z;exact⟨_,q1,l,vs,rfl,qd,q5.mono s1⟩
     ·obtain⟨u,r1,r2⟩:=o.sh j e z
      exact⟨u,r1,r2.mono s1⟩
    ·rcases qf hj with⟨rfl,hl,z⟩|⟨ne,z⟩
     ·cases z
     ·obtain⟨m,ws,r1,r2,r3,r4,r5⟩:=o.ow j fs z
      have hm:m≠l:=λy=>ne (o.nd i j ds fs l q z q1 (by rw[<- y];exact r1));exact⟨m,ws,r1,r2,by rw[qc hm];exact r3,r4,r5.mono s1⟩
    ·rcases qf hj with⟨e1,hl,z⟩|⟨ne,z⟩
     ·cases z
     ·rcases qf hk with⟨e2,hl',z'⟩|⟨ne',z'⟩
      ·cases z'
      ·exact o.nd j k fs gs m z z' sj sk
    ·rcases qf hj with⟨e1,hl,z⟩|⟨ne,z⟩
     ·cases z
     ·obtain⟨m,ws,r1,r2,r3,r4,r5,r6,r7⟩:=o.od j ks fs z
      have hm:m≠l:=λy=>by rw[y,q2] at r2;cases r2
      refine⟨m,ws,r1,r2,by rw[qc hm];exact r3,r4,r5,r6.mono s1,λk ks' es hk sk=>?_⟩;rcases qf hk with⟨e2,hl',z'⟩|⟨ne',z'⟩
      ·cases z'
      ·exact r7 k ks' es z' sk
   | od ks0 ds =>
    obtain⟨l,vs,q1,q2,q3,q4,q6,q5,q7⟩:=o.od i ks0 ds q;refine .inr ⟨l,_,q1,q2,λob=>?_⟩;have s1:Yz G (upd G l (.frz ob (.dK (kvsOf ks0 vs)))):=XY q3 _;have ho:i < ω.length:=(zj.mp q).1;refine⟨upd G l (.frz ob (.dK (kvsOf ks0 vs))),s1,⟨o.ext.gg.trans s1,Wx o.ext.gh _,Yy o.ext.hh q4 _,λb z1 z2=>?_⟩,by rw[yT,o.len],λj e hj=>?_,λj fs hj=>?_,λj k fs gs m hj hk sj sk=>?_,λj ks fs hj=>?_,((o.pw.upd (o.pw.ne_ob λvs z=>by rw[q2] at z;cases z)).grow q3 (o.pw.ne_ob λvs z=>by rw[q2] at z;cases z)).setW (λ_ z=>by cases z) (λ_ z=>by cases z)⟩
    ·rw[qc (λhb=>z2 (by rw[hb];exact q4))];exact o.ext.new b z1 z2
    ·rcases qf hj with⟨rfl,hl,z⟩|⟨ne,z⟩
     ·cases z;exact⟨_,q1,l,vs,rfl,⟨ob,qd⟩,q6,q5.mono s1⟩
     ·obtain⟨u,r1,r2⟩:=o.sh j e z
      exact⟨u,r1,r2.mono s1⟩
    ·rcases qf hj with⟨rfl,hl,z⟩|⟨ne,z⟩
     ·cases z
     ·obtain⟨m,ws,r1,r2,r3,r4,r5⟩:=o.ow j fs z
      have hm:m≠l:=λy=>by rw[y,q2] at r2;cases r2
      exact⟨m,ws,r1,by rw[qc hm];exact r2,by rw[qc hm];exact r3,r4,r5.mono s1⟩
    ·rcases qf hj with⟨e1,hl,z⟩|⟨ne,z⟩
     ·cases z
     ·rcases qf hk with⟨e2,hl',z'⟩|⟨ne',z'⟩
      ·cases z'
      ·exact o.nd j k fs gs m z z' sj sk
    ·rcases qf hj with⟨e1,hl,z⟩|⟨ne,z⟩
     ·cases z
     ·obtain⟨m,ws,r1,r2,r3,r4,r5,r6,r7⟩:=o.od j ks fs z
      have hm:m≠l:=λy=>ne (q7 j ks fs z (by rw[<- y];exact r1));refine⟨m,ws,r1,by rw[qc hm];exact r2,by rw[qc hm];exact r3,r4,r5,r6.mono s1,λk ks' es hk sk=>?_⟩;rcases qf hk with⟨e2,hl',z'⟩|⟨ne',z'⟩
      ·cases z'
      ·exact r7 k ks' es z' sk
end
theorem Inv.freeze{X:Cx}{pins:List (Addr×Obj)}{σ:St}{H:Hp}{s:Shared}{p:Addr}{kvs:List (Key×V)}(I:Inv X pins σ H s)(hp:H p=some (.dK kvs)):∃ ob,Inv X pins σ (upd H p (.frz ob (.dK kvs))) s:=by
 have ok:=I.hok p _ hp;obtain⟨_,_,_,_,ob,_,_,e,_⟩:=id ok;have stay:∀ b u,Y3 X.prog X.w H s.heap b u->Y3 X.prog X.w (upd H p (.frz ob (.dK kvs))) s.heap b u:=λb u x =>
  x.stay (λ_ _ _ q=>q) (λc q=>by rw[qc (λz=>by rw[z,hp] at q;cases q)];exact q) λc xs q=>by rw[qc (λz=>by rw[z,hp] at q;cases q)];exact q
 refine⟨ob,I.step (H':=upd H p (.frz ob (.dK kvs))) (h':=s.heap) (g':=s.gens) (d':=s.drawn) (t':=s.toks) (ch:=[]) (λ_ z=>nomatch z) (λ_ _ _ _ _ e _=>e) (λ_ o _ _ _ e _=>⟨o.slots,e⟩) (λb o _ _ n=>by rw[qc (λz=>by rw[z,hp] at n;cases n)];exact n) (λ_ o _ e=>⟨o,e⟩)
  (λb xs q=>by rw[qc (λz=>by rw[z,hp] at q;cases q)];exact q) (λb o u q=>by rw[qc (λz=>by rw[z,hp] at q;cases q)];exact q) (λb ps q=>⟨#[],by rw[qc (λz=>by rw[z,hp] at q;cases q),q];simp⟩) (λ_ hm=>hm) (λb u q=>?_) I.bare⟩
 by_cases z:b=p
 ·subst z
  rw[qd] at q;cases q;exact⟨e,stay _ _ ok⟩
 ·rw[qc z] at q
  exact stay b u (I.hok b u q)
theorem q4l{X:Cx}{sts:List Stmt}{t:TS}(i:Nat)(h:PSs X sts t):PSs X sts (λD σ H=>∃ p kvs,σ[i]?=some (some (.ref p))/\H p=some (.dK kvs)/\∀ ob,t D σ (upd H p (.frz ob (.dK kvs)))):=by
 intro pins s σ H D I q;obtain⟨p,kvs,_,hp,q⟩:=q;obtain⟨ob,I'⟩:=Inv.freeze I hp;exact h pins s σ _ D I' (q ob)
noncomputable def XR(i:Nat)(f:FS):FS:=λω=>f (share i ω)
theorem qC{X:Cx}{sts:List Stmt}{f:FS}(i:Nat)(h:XSs X sts f):XSs X sts (XR i f):=by
 obtain⟨t,h1,h2⟩:=h;refine⟨λD σ H=>t D σ H\/∃ p kvs,σ[i]?=some (some (.ref p))/\H p=some (.dK kvs)/\∀ ob,t D σ (upd H p (.frz ob (.dK kvs))),λpins s σ H D I q=>?_,λG0 H0 G ω σ H out ω' E o e k=>?_⟩
 ·rcases q with q|q
  ·exact h1 pins s σ H D I q
  ·exact q4l i h1 pins s σ H D I q
 ·rcases o.share i with⟨G1,g1,o1⟩|⟨p,kvs,z1,z2,z3⟩
  ·exact .inl (h2 G0 H0 G1 _ σ H out ω' E o1 e λG2 σ2 H2 w2 g2=>k G2 σ2 H2 w2 (g1.trans g2))
  ·refine .inr ⟨p,kvs,z1,z2,λob=>?_⟩
   obtain⟨G1,g1,o1⟩:=z3 ob;exact h2 G0 H0 G1 _ σ _ out ω' E o1 e λG2 σ2 H2 w2 g2=>k G2 σ2 H2 w2 (g1.trans g2)
noncomputable def setR(i:Nat)(r:R)(ω:WSt):Option WSt:=match r with
 | .sh d=>some (ω.set i (some (.sh d)))
 | .fr ds=>some (ω.set i (some (.ow ds)))
 | .vw _=>none
noncomputable def XH(i:Nat)(f:FE):FS:=λω=>(f ω).bind λr=>(setR i r ω).map λw=>(.nx,w)
section
variable {X:Cx} {e:Expr} {f:FE} {pos pos':Pos}
theorem q8S{i:Nat}{t:TE}(h:zCO X.K t f):SimS X.K (zAV t (Xr i)) (XH i f):=by
 intro G0 H0 G ω σ H out ω' E o e k;obtain⟨r,q,e⟩:=bnd e;obtain⟨w,q2,e⟩:=mpd e;cases e;refine h G0 H0 G ω σ H r _ o q λv G1 H1 x1 y1=>?_;have o1:=o.keep x1;show E.nx (σ.set i (some v)) H1;cases r with
 | sh d=>cases q2;exact k G1 _ H1 (o1.setSh y1) x1.gg
 | fr ds =>
  cases q2;obtain⟨l,vs,rfl,e2,e3,e4,e5⟩:=y1;refine k G1 _ H1 (o1.setOw e4 e3 (o.ext.hh.free e2) e5 (λj es hj z=>?_) λj es hj y=>?_) x1.gg
  ·obtain⟨m,us,q1,q2,_⟩:=o.ow j es hj
   rw[q1] at z;cases z;rw[e2] at q2;cases q2
  ·obtain⟨us,_,q2,_⟩:=o.pw j es hj
   rw[y,e2] at q2;cases q2
 | vw ds=>cases q2
theorem qh{i:Nat}{x:Str}(hN:X.N.Nodup)(hi:X.N[i]?=some x)(hx:Loc X.env.scope x)(he:XE X e f)(hs:swapsWith e (some (.Name x pos')) pos.line X.env=pure false:=by rfl)(hf:X.fn x=true\/X.env.scope.names.lookup x=some .local:=by first|exact .inl rfl|exact .inr rfl|assumption) :
  XS X (.Assign [.Name x pos'] e pos) (XH i f):=let ⟨_,h1,h2⟩:=he;⟨_,qT hN hi hx h1 hs hf,q8S h2⟩
noncomputable abbrev FG:=D->WSt->Option WSt
def SimG(K:zA)(g:TG)(fg:FG):Prop:=∀ G0 H0 G ω σ H d v ω' (Q:St->Hp->Prop),Own K G0 H0 G ω σ H->fg d ω=some ω'->Rep K G d v->(∀ σ',Own K G0 H0 G ω' σ' H->Q σ' H)->g v σ H Q
def XG(X:Cx)(tg:Expr)(fg:FG):Prop:=∃ g,PG X tg g/\SimG X.K g fg
noncomputable def gN(i:Nat):FG:=λd ω=>some (ω.set i (some (.sh d)))
theorem qg{i:Nat}{x:Str}(hN:X.N.Nodup)(hi:X.N[i]?=some x)(hx:Loc X.env.scope x)(hf:X.fn x=true\/X.env.scope.names.lookup x=some .local:=by first|exact .inl rfl|exact .inr rfl|assumption):XG X (.Name x pos) (gN i) :=
 ⟨_,q2f hN hi hx hf,λG0 H0 G ω σ H d v ω' Q o e h k=>by cases e;exact k _ (o.setSh h)⟩
def SimGs(K:zA)(g:TGs)(fg:List D->WSt->Option WSt):Prop:=∀ G0 H0 G ω σ H ds vs ω' (Q:St->Hp->Prop),Own K G0 H0 G ω σ H->fg ds ω=some ω'->Yo K G ds vs->(∀ σ',Own K G0 H0 G ω' σ' H->Q σ' H)->g vs σ H Q
def XGs(X:Cx)(tg:List Expr)(fg:List D->WSt->Option WSt):Prop:=∃ g,PGs X tg g/\SimGs X.K g fg
noncomputable def Xn:List D->WSt->Option WSt
 | [],ω=>some ω
 | _,_=>none
noncomputable def Y0(f:FG)(g:List D->WSt->Option WSt):List D->WSt->Option WSt
 | d::ds,ω=>(f d ω).bind λw=>g ds w
 | [],_=>none
theorem q1B:XGs X [] Xn:=⟨_,q8D,λG0 H0 G ω σ H ds vs ω' Q o e h k=>by
 cases ds with
 | nil=>cases e;cases (show vs=[] from h);exact⟨rfl,k σ o⟩
 | cons d r=>cases e⟩
theorem qA{es:List Expr}{fg:FG}{gs:List D->WSt->Option WSt}(h:XG X e fg)(h':XGs X es gs)(hs:(assignEach (e::es) X.env).map (·.2)=assign e X.env::(assignEach es X.env).map (·.2):=by rfl):XGs X (e::es) (Y0 fg gs):=by
 obtain⟨g,h1,h2⟩:=h;obtain⟨u,h3,h4⟩:=h';refine⟨_,q3X h1 h3 hs,λG0 H0 G ω σ H ds vs ω' Q o e h k=>?_⟩;cases ds with
 | nil=>cases e
 | cons d r =>
  obtain⟨w1,q,e1⟩:=bnd e;obtain⟨v,vr,rfl,r1,r2⟩:=h;exact⟨v,vr,rfl,h2 G0 H0 G ω σ H d v w1 _ o q r1 λσ1 o1=>h4 G0 H0 G w1 σ1 H r vr ω' Q o1 e1 r2 k⟩
noncomputable def gT(n:Nat)(g:List D->WSt->Option WSt):FG:=λd ω=>match d with
 | .tup ds=>if ds.length=n then g ds ω else none
 | _=>none
theorem q2k{es:List Expr}{k n:Nat}{gs:List D->WSt->Option WSt}(hc:X.calm=true)(h:XGs X es gs)(hn:(assignEach es X.env).length=n:=by rfl)(hst:(assignEach es X.env).findIdx? (·.1)=none:=by rfl):XG X (.Tuple es k pos) (gT n gs):=by
 obtain⟨g,h1,h2⟩:=h;refine⟨_,qbH hc h1 hn hst,λG0 H0 G ω σ H d v ω' Q o e h k=>?_⟩;unfold gT at e;cases d with
 | tup ds =>
  dsimp only at e
  obtain⟨a,vs,rfl,r1,r2⟩:=h
  by_cases z:ds.length=n
  ·rw[if_pos z] at e
   exact⟨a,vs,rfl,SqT.of (o.gh _ _ r1),by rw[<- r2.len];exact z,h2 G0 H0 G ω σ H ds vs ω' Q o e r2 k⟩
  ·rw[if_neg z] at e;cases e
 | _=>cases e
noncomputable def sAsg(f:FD)(g:FG):FS:=λω=>(f ω).bind λd=>(g d ω).map λw=>(.nx,w)
theorem qaV{tg:Expr}{fd:FD}{fg:FG}(he:XD X e fd)(hg:XG X tg fg)(hs:swapsWithSole [tg] e pos.line X.env=pure false:=by rfl)(hw:swappedStores [tg] e X.env=pure none:=by rfl)
  (h1:(assignEach [tg] X.env).map (·.2)=[assign tg X.env]:=by rfl):XS X (.Assign [tg] e pos) (sAsg fd fg):=by
 obtain⟨t,p1,p2⟩:=he;obtain⟨g,p3,p4⟩:=hg;refine⟨_,qfp p1 p3 hs hw h1,λG0 H0 G ω σ H out ω' E o e k=>?_⟩;obtain⟨d,q,e⟩:=bnd e;obtain⟨w,q2,e⟩:=mpd e;cases e;refine p2 G0 H0 G ω σ H d _ o q λv G1 H1 x1 y1=>?_;exact p4 G0 H0 G1 ω σ H1 d v _ _ (o.keep x1) q2 y1 λσ1 o1=>k G1 σ1 H1 o1 x1.gg
end
noncomputable def sIf(c:FT)(f g:FS):FS:=λω=>(c ω).bind λb=>if b=true then f ω else g ω
noncomputable def Xi(f:FE):FS:=λω=>(f ω).bind λr=>match r with
 | .sh d=>some (.rt (.sh d),ω)
 | .fr ds=>some (.rt (.fr ds),ω)
 | .vw _=>none
noncomputable def W1(i:Nat):FS:=λω=>match ω[i]? with
 | some (some (.sh d))=>some (.rt (.sh d),ω)
 | some (some (.ow ds))=>some (.rt (.fr ds),ω)
 | _=>none
noncomputable def sNo:FS:=λ_=>none
noncomputable def zBd(f:FE):FS:=λω=>(f ω).map λ_=>(.nx,ω)
section
variable {X:Cx} {c e:Expr} {a b:List Stmt} {st:Stmt} {pos:Pos} {fc:FT} {f g:FS} {fe:FE}
theorem qY(hc:XT X c fc)(ha:XSs X a f)(hb:XSs X b g):XS X (.If c a b pos) (sIf fc f g):=by
 obtain⟨t,h1,h2⟩:=hc;obtain⟨u,h3,h4⟩:=ha;obtain⟨w,h5,h6⟩:=hb;refine⟨_,qdj h1 h3 h5,λG0 H0 G ω σ H out ω' E o e k=>?_⟩;obtain⟨z,q,e⟩:=bnd e;refine h2 G0 H0 G ω σ H z _ o q λG1 H1 x1=>?_;cases z with
 | true=>rw[if_pos rfl] at e ⊢;exact h4 G0 H0 G1 ω σ H1 out ω' E (o.keep x1) e λG2 σ2 H2 o2 g2=>k G2 σ2 H2 o2 (x1.gg.trans g2)
 | false=>exact h6 G0 H0 G1 ω σ H1 out ω' E (o.keep x1) e λG2 σ2 H2 o2 g2=>k G2 σ2 H2 o2 (x1.gg.trans g2)
theorem qj(he:XE X e fe):XS X (.Return (some e) pos) (Xi fe):=by
 obtain⟨t,h1,h2⟩:=he;refine⟨_,q3h h1,λG0 H0 G ω σ H out ω' E o e k=>?_⟩;obtain⟨r,q,e⟩:=bnd e;refine h2 G0 H0 G ω σ H r _ o q λv G1 H1 x1 y1=>?_;cases r with
 | sh d=>cases e;exact k G1 σ H1 (o.keep x1) x1.gg v y1
 | fr ds =>
  cases e;obtain⟨l,vs,e1,e2,e3⟩:=y1;exact k G1 σ H1 (o.keep x1) x1.gg v ⟨l,vs,e1,o.ext.hh.free e2,e3⟩
 | vw ds=>cases e
theorem q3y{i:Nat}(he:PE X e (XF i)):XS X (.Return (some e) pos) (W1 i):=by
 refine⟨_,q3h he,λG0 H0 G ω σ H out ω' E o e k=>?_⟩;unfold W1 at e;cases q:ω[i]? with
 | none=>rw[q] at e;cases e
 | some w =>
  rw[q] at e;cases w with
  | none=>cases e
  | some w =>
   cases w with
   | sh d =>
    cases e;obtain⟨v,q1,q2⟩:=o.sh i d q;exact⟨v,q1,k G σ H o (Yz.refl _) v q2⟩
   | ow ds =>
    cases e;obtain⟨l,vs,q1,q2,q3,q4,q5⟩:=o.ow i ds q;exact⟨_,q1,k G σ H o (Yz.refl _) _ ⟨l,vs,rfl,q4,q3,q2,q5⟩⟩
   | od ks ds=>cases e
   | pw ds=>cases e
theorem qa4:XS X st sNo:=⟨_,qcW,λG0 H0 G ω σ H out ω' E o e k=>by cases e⟩
theorem qeG(he:XE X e fe)(hs:swapsWith e none pos.line X.env=pure false:=by rfl):XS X (.Expr e pos) (zBd fe):=by
 obtain⟨t,h1,h2⟩:=he;refine⟨_,q0B h1 hs,λG0 H0 G ω σ H out ω' E o e k=>?_⟩;obtain⟨r,q,e⟩:=mpd e;cases e;exact h2 G0 H0 G ω σ H r _ o q λv G1 H1 x1 y1=>k G1 σ H1 (o.keep x1) x1.gg
noncomputable def zBa(i:Nat)(f:FD):FS:=λω=>(f ω).bind λd=>match ω[i]? with
 | some (some (.ow ds))=>if ds.length < 1000000 then some (.nx,ω.set i (some (.ow (ds++[d])))) else none
 | _=>none
theorem q1H{i:Nat}{o e:Expr}{fd:FD}{apos cpos:Pos}(ho:PE X o (XF i))(he:XD X e fd)
  (hbase:attributeBase o "append" X.env (eval o X.env)=eval o X.env:=by rfl)
  (hfew:((backTo cpos (starEach [e] X.env)).all (λx=>!x.1) && (backToKw cpos (keywordEach [] X.env)).all (λx=>x.1.isSome)
   && decide (([e]:List Expr).length+([]:List Keyword).length+(if ([]:List Keyword).isEmpty then 0 else 1) < 30))=true:=by rfl)
  (hline:(apos.endLine == cpos.line)=true:=by rfl) (hs:starEach [e] X.env=(false,eval e X.env)::starEach [] X.env:=by rfl) (hplain:(backTo cpos (starEach [] X.env)).any (·.1)=false:=by rfl)
  (hsw:swapsWith (.Call (.Attribute o "append" apos) [e] [] cpos) none pos.line X.env=pure false:=by rfl) :
  XS X (.Expr (.Call (.Attribute o "append" apos) [e] [] cpos) pos) (zBa i fd):=by
 obtain⟨t,h1,h2⟩:=he;refine⟨_,q0B (q1Z PySem.F.plainAttrs_list PySem.F.slot_list_append PySem.F.type_list_append q0n ho (qr h1 qo hs) hbase hfew hline hs hplain) hsw,λG0 H0 G ω σ H out ω' E ow e k=>?_⟩;obtain⟨d,q,e⟩:=bnd e;cases q2:ω[i]? with
 | none=>rw[q2] at e;cases e
 | some w =>
  rw[q2] at e;cases w with
  | none=>cases e
  | some w =>
   cases w with
   | sh d=>cases e
   | od ks ds=>cases e
   | pw ds=>cases e
   | ow ds =>
    dsimp only at e
    by_cases z:ds.length < 1000000
    ·rw[if_pos z] at e
     cases e;obtain⟨l,vs,r1,r2,r3,r4,r5⟩:=ow.ow i ds q2;refine⟨.ref l,r1,.inl ⟨rfl,vs,SqL.of r2⟩,h2 G0 H0 G ω σ H d _ ow q λv G1 H1 x1 y1=>?_⟩;have o1:=ow.keep x1;have hz:vs.length < sizeLine:=by rw[<- r5.len,sizeLine_eq];omega
     refine⟨l,vs,v,rfl,rfl,x1.hh _ _ r2,hz,?_⟩;exact k G1 σ _ (o1.mut q2 r1 (x1.hh _ _ r2) (x1.new l r3 (by rw[r2];exact λz=>by cases z)) r4 ((r5.mono x1.gg).app (Yo.cons y1 Yo.nil))) x1.gg
    ·rw[if_neg z] at e;cases e
end
end Hk
namespace PySem
open AutoSeq1 MeetsSeq MeetsSeq2 MeetsSeq3
theorem extTup(l b:Addr)(xs ys:Array Value)(n m:Nat)(dd:Option Addr)(sl:Array (Option Value))(h1:¬(!xs.isEmpty && Builtin.List.listTooLong (xs.size+ys.size))=true)(h2:xs.size <= sizeLine)(h3:xs.size+ys.size <= sizeLine+1) :
  Meets (Builtin.«list.extend» ⟨[.ref l,.ref b],[]⟩) (λ_ R s=>s.heap.get? l=some { cls:=.type "list", data:=.seq xs n }/\s.heap.get? b=some { cls:=.type "tuple", dict:=dd,data:=.seq ys m,slots:=sl } /\
   R (.ok (.ret Value.none)) { s with heap:=s.heap.update l (Obj.mapSeq λz=>z++ys),toks:=s.toks }) :=
 .of_wp λprog w A R s h=>by
  obtain⟨hp,g,d,tk,os⟩:=s;obtain⟨e1,e2,q⟩:=h;have p1:=idx_int;have p2:=sub_tuple_tuple;have p3:=sub_list_list;have p4:=sub_tuple_list;have p5:=sub_list_tuple;have fit:(xs++ys).size <= sizeLine+1:=by rw[Array.size_append];exact h3
  wp_walk using (wpAny_updateSeq e1 rfl (hz:=h2) (_hz':=fit)),wpAny_loadPart' e1,wpAny_loadPart' e2
  exact⟨_,rfl,q⟩
end PySem
namespace Hk
open PySem L2
section
variable {X:Cx} {pos:Pos}
def rExtA:V->List V->Hp->VK->Prop:=λx vs H Q=>zA6 x vs H Q\/∃ l b xs zs,x=.ref l/\vs=[.ref b]/\H l=some (.lst xs)/\H b=some (.tup zs)/\xs.length+zs.length <= sizeLine/\Q .non (upd H l (.lst (xs++zs)))
theorem qdT:MtR X "list.extend" rExtA:=by
 intro pins s σ H x vs v us Q I rx rv h;rcases h with h|h
 ·exact qaA pins s σ H x vs v us Q I rx rv h
 obtain⟨l,b,xs,zs,rfl,rfl,hH,hB,hz,q⟩:=h;cases rx;obtain⟨u,rfl,ru⟩:=rv.one;cases ru;obtain⟨z,its,n,r,hl,e⟩:=I.lstM hH;obtain⟨its2,r2,⟨o2,e2,c2,n2,d2⟩,z2⟩:=I.tuple (SqT.of hB);have hl2:=r2.length;obtain⟨cls,dd,dt,sl⟩:=o2;cases c2;cases d2;have hsz:its.toArray.size+its2.toArray.size <= sizeLine:=by rw[zP,zP];omega
 have hlong:¬(!its.toArray.isEmpty && Builtin.List.listTooLong (its.toArray.size+its2.toArray.size))=true:=by
  rw[Wa hsz,ym];exact yo
 refine call_meets F.slot_list_extend ⟨_,e,rfl⟩ F.entry_list_extend (F.args_list_extend_2 _ _)
  (extTup l b its.toArray its2.toArray n n2 dd sl hlong (by rw[zP];omega) (by omega)) ⟨e,e2,?_⟩
 refine⟨.non,_,I.lset (its':=its++its2) hH e (by simp) (r.append r2) ?_,rfl,q⟩;rw[zC];omega
noncomputable def itemsOf:D->Option (List D)
 | .lst ds=>some ds
 | .tup ds=>some ds
 | _=>none
noncomputable def sExt(i:Nat)(f:FD):FS:=λω=>(f ω).bind λd=>(itemsOf d).bind λes=>match ω[i]? with
 | some (some (.ow ds))=>if ds.length+es.length <= 1000000 then some (.nx,ω.set i (some (.ow (ds++es)))) else none
 | _=>none
theorem qb9{i:Nat}{o e:Expr}{fd:FD}{apos cpos:Pos}(ho:PE X o (XF i))(he:XD X e fd)
  (hbase:attributeBase o "extend" X.env (eval o X.env)=eval o X.env:=by rfl)
  (hfew:((backTo cpos (starEach [e] X.env)).all (λx=>!x.1) && (backToKw cpos (keywordEach [] X.env)).all (λx=>x.1.isSome)
   && decide (([e]:List Expr).length+([]:List Keyword).length+(if ([]:List Keyword).isEmpty then 0 else 1) < 30))=true:=by rfl)
  (hline:(apos.endLine == cpos.line)=true:=by rfl) (hs:starEach [e] X.env=(false,eval e X.env)::starEach [] X.env:=by rfl) (hplain:(backTo cpos (starEach [] X.env)).any (·.1)=false:=by rfl)
  (hsw:swapsWith (.Call (.Attribute o "extend" apos) [e] [] cpos) none pos.line X.env=pure false:=by rfl) :
  XS X (.Expr (.Call (.Attribute o "extend" apos) [e] [] cpos) pos) (sExt i fd):=by
 obtain⟨t,h1,h2⟩:=he;refine⟨_,q0B (q1Z PySem.F.plainAttrs_list PySem.F.slot_list_extend PySem.F.type_list_extend qdT ho (qr h1 qo hs) hbase hfew hline hs hplain) hsw,λG0 H0 G ω σ H out ω' E ow e k=>?_⟩;obtain⟨d,q,e⟩:=bnd e;obtain⟨es,q3,e⟩:=bnd e;cases q2:ω[i]? with
 | none=>rw[q2] at e;cases e
 | some w =>
  rw[q2] at e;cases w with
  | none=>cases e
  | some w =>
   cases w with
   | sh d=>cases e
   | od ks ds=>cases e
   | pw ds=>cases e
   | ow ds =>
    dsimp only at e
    by_cases z:ds.length+es.length <= 1000000
    ·rw[if_pos z] at e
     cases e;obtain⟨l,vs,r1,r2,r3,r4,r5⟩:=ow.ow i ds q2;refine⟨.ref l,r1,.inl ⟨rfl,vs,SqL.of r2⟩,h2 G0 H0 G ω σ H d _ ow q λv G1 H1 x1 y1=>?_⟩;have o1:=ow.keep x1;have fin:∀ us:List V,Yo X.K G1 es us->vs.length+us.length <= sizeLine/\zAj X.K H0 G1 E .nx σ (upd H1 l (.lst (vs++us))):=λus hu =>
      ⟨by rw[<- r5.len,<- hu.len];exact q3O z,k G1 σ _ (o1.mut q2 r1 (x1.hh _ _ r2) (x1.new l r3 (by rw[r2];exact λz=>by cases z)) r4 ((r5.mono x1.gg).app hu)) x1.gg⟩
     cases d with
     | lst ds' =>
      cases q3;obtain⟨b,us,rfl,r6,r7⟩:=y1;obtain⟨f1,f2⟩:=fin us r7;exact .inl ⟨l,b,vs,us,rfl,rfl,x1.hh _ _ r2,x1.gh _ _ r6,f1,f2⟩
     | tup ds' =>
      cases q3;obtain⟨b,us,rfl,r6,r7⟩:=y1;obtain⟨f1,f2⟩:=fin us r7;exact .inr ⟨l,b,vs,us,rfl,rfl,x1.hh _ _ r2,x1.gh _ _ r6,f1,f2⟩
     | _=>cases q3
    ·rw[if_neg z] at e;cases e
end
structure IterOf (K:zA) (J:It) (G:Hp) (ds:List D):Prop where
 go:∀ H i,Yz G H->i < ds.length->J.go i H
 yld:∀ G2 H i x H' d,Yz G G2->Yz G2 H->ds[i]?=some d->J.yld i H x H'->∃ G3,Ext G2 H G3 H'/\Rep K G3 d x
 stop:∀ H,Yz G H->J.stop ds.length H
noncomputable abbrev FI:=WSt->Option (List D)
def SimI(K:zA)(wi:TI)(f:FI):Prop:=∀ G0 H0 G ω σ H ds (R:It->Hp->Prop),Own K G0 H0 G ω σ H->f ω=some ds->(∀ J G' H',Ext G H G' H'->IterOf K J G' ds->R J H')->wi σ H R
def XI(X:Cx)(tg iter:Expr)(f:FI):Prop:=∃ wi,PI X tg iter wi/\SimI X.K wi f
section
variable {X:Cx} {tg e:Expr}
theorem qci{K:zA}{G:Hp}{a:Addr}{ds:List D}{vs:List V}(h1:G a=some (.lst vs))(h2:Yo K G ds vs):IterOf K (Itl K a) G ds:=by
 refine⟨λH i s hi=>?_,λG2 H i x H' d s0 s1 hd hy=>?_,λH s=>⟨vs,SqL.of (s _ _ h1),by rw[h2.len];exact zJ _⟩⟩
 ·have:i < vs.length:=by rw[<- h2.len];exact hi
  exact⟨vs,vs[i],SqL.of (s _ _ h1),zD this⟩
 ·obtain⟨e,y⟩:=hy
  obtain⟨v,q1,q2⟩:=h2.get hd;have:=y vs (SqL.of (s1 _ _ (s0 _ _ h1)));rw[q1] at this;cases this;subst e;exact⟨G2,Ext.refl s1,q2.mono s0⟩
theorem qcY{K:zA}{G:Hp}{a:Addr}{ds:List D}{vs:List V}(h1:G a=some (.tup vs))(h2:Yo K G ds vs):IterOf K (Itt K a) G ds:=by
 refine⟨λH i s hi=>?_,λG2 H i x H' d s0 s1 hd hy=>?_,λH s=>⟨vs,SqT.of (s _ _ h1),by rw[h2.len];exact zJ _⟩⟩
 ·have:i < vs.length:=by rw[<- h2.len];exact hi
  exact⟨vs,vs[i],SqT.of (s _ _ h1),zD this⟩
 ·obtain⟨e,y⟩:=hy
  obtain⟨v,q1,q2⟩:=h2.get hd;have:=y vs (SqT.of (s1 _ _ (s0 _ _ h1)));rw[q1] at this;cases this;subst e;exact⟨G2,Ext.refl s1,q2.mono s0⟩
noncomputable def X8(f:FD):FI:=λω=>(f ω).bind itemsOf
theorem qt{f:FD}(h:XD X e f):XI X tg e (X8 f):=by
 obtain⟨t,h1,h2⟩:=h;refine⟨λσ H R=>iList X.K t σ H R\/iTup X.K t σ H R,λpins s σ H R I q=>?_,λG0 H0 G ω σ H ds R o e k=>?_⟩
 ·rcases q with q|q
  ·exact q54 h1 pins s σ H R I q
  ·exact qfc h1 pins s σ H R I q
 ·obtain⟨d,q,e⟩:=bnd e
  cases d with
  | lst es =>
   cases e;refine .inl (h2 G0 H0 G ω σ H _ _ o q λv G1 H1 x1 ⟨a,vs,e1,e2,e3⟩=>⟨a,e1,⟨vs,SqL.of (x1.gh _ _ e2)⟩,k _ G1 H1 x1 (qci e2 e3)⟩)
  | tup es =>
   cases e;refine .inr (h2 G0 H0 G ω σ H _ _ o q λv G1 H1 x1 ⟨a,vs,e1,e2,e3⟩=>⟨a,e1,⟨vs,SqT.of (x1.gh _ _ e2)⟩,k _ G1 H1 x1 (qcY e2 e3)⟩)
  | _=>cases e
noncomputable def upTo(lo:Int)(n:Nat):List D:=(zf n).map λ(i:Nat)=>D.int (lo+(i:Int))
theorem qd0{K:zA}{G:Hp}(lo:Int)(n:Nat):IterOf K (Itr lo n) G (upTo lo n):=by
 have hl:(upTo lo n).length=n:=by unfold upTo;rw[zB,zo]
 refine⟨λH i s hi=>by rw[hl] at hi;exact hi,λG2 H i x H' d s0 s1 hd hy=>?_,λH s=>by rw[hl];exact zJ _⟩;obtain⟨e,y⟩:=hy;subst e;refine⟨G2,Ext.refl s1,?_⟩;unfold upTo at hd;rw[za] at hd;have hi:i < n:=by
  rcases zu i n with z|z
  ·exact z
  ·rw[zn (by rw[zo];exact z)] at hd;cases hd
 rw[xG hi] at hd;cases hd;exact y
noncomputable def iRg1(g:FA):FI:=λω=>(g ω).bind λds=>match ds with
 | [.int j]=>if -(2 ^ 62) <= j/\j < 2 ^ 62 then some (upTo 0 j.toNat) else none
 | _=>none
theorem q6i{a:Expr}{g:FA}{p pos:Pos}(hg:Gl X "range")(hm:X.mg "range" = none)(ha:XVA X [a] g)(hs:starEach [a] X.env=[(false,eval a X.env)]:=by rfl):XI X tg (.Call (.Name "range" p) [a] [] pos) (iRg1 g):=by
 obtain⟨t,h1,h2⟩:=ha;refine⟨_,qaK hg hm h1 hs,λG0 H0 G ω σ H ds R o e k=>?_⟩;obtain⟨vs,q,e⟩:=bnd e;refine h2 G0 H0 G ω σ H vs _ o q λus G1 H1 x1 y1=>?_
 match vs,e with
 | [.int j],e =>
  dsimp only at e
  by_cases z:-(2 ^ 62) <= j/\j < 2 ^ 62
  ·rw[if_pos z] at e
   cases e;obtain⟨v,rfl,y2⟩:=y1.one;cases y2.int;exact⟨j,rfl,z.1,z.2,k _ G1 H1 x1 (qd0 _ _)⟩
  ·rw[if_neg z] at e;cases e
end
noncomputable def zAL(g:FG)(b:FS):List D->FS
 | [],ω=>some (.nx,ω)
 | d::ds,ω=>(g d ω).bind λw=>(b w).bind λp=>match p.1 with
  | .nx=>zAL g b ds p.2
  | .ct=>zAL g b ds p.2
  | .bk=>some (.nx,p.2)
  | .rt r=>some (.rt r,p.2)
noncomputable def Wz(fi:FI)(g:FG)(b:FS):FS:=λω=>(fi ω).bind λds=>zAL g b ds ω
section
variable {X:Cx} {tg iter:Expr} {body:List Stmt} {pos:Pos} {fi:FI} {fg:FG} {fb:FS}
theorem q06(hp:PassesOwn (model X.prog X.w) X.A X.env X.xe)(hc:X.calm=true)(hi:XI X tg iter fi)(hg:XG X tg fg)(hb:XSs X body fb)(hs:∀ x,foldedSetIterable iter X.env x=pure x:=by intro _;rfl):XS X (.For tg iter body [] pos) (Wz fi fg fb):=by
 obtain⟨wi,h1,h2⟩:=hi;obtain⟨g,h3,h4⟩:=hg;obtain⟨tb,h5,h6⟩:=hb;refine⟨_,q4A hp hc h1 h3 h5 hs,λG0 H0 G ω σ H out ω' E o e k=>?_⟩;obtain⟨ds,q,e⟩:=bnd e;refine h2 G0 H0 G ω σ H ds _ o q λJ G1 H1 x1 it=>?_;refine⟨λi m σ2 H2=>∃ G2 ω2,Own X.K G0 H0 G2 ω2 σ2 H2/\Yz G1 G2/\zAL fg fb (ds.drop i) ω2=some (out,ω')/\i <= ds.length/\m=ds.length - i,⟨_,G1,ω,o.keep x1,Yz.refl _,e,zz _,rfl⟩,?_⟩;rintro i m σ2 H2 ⟨G2,ω2,o2,s2,f2,hi2,rfl⟩
 by_cases hlt:i < ds.length
 ·refine .inr ⟨it.go H2 i (s2.trans o2.gh) hlt,λσ3 H3=>∃ G3 ω3,Own X.K G0 H0 G3 ω3 σ3 H3/\Yz G1 G3/\zAL fg fb (ds.drop (i+1)) ω3=some (out,ω'),λσ3 H3 ⟨G3,ω3,a1,a2,a3⟩=>⟨ds.length - (i+1),by omega,G3,ω3,a1,a2,a3,hlt,rfl⟩,λx H3 hy=>?_⟩
  have hd:ds[i]?=some ds[i]:=zD hlt;obtain⟨G4,x4,rx⟩:=it.yld G2 H2 i x H3 ds[i] s2 o2.gh hd hy;have o2:=o2.keep x4;have s2:=s2.trans x4.gg;rw[yx hlt] at f2;obtain⟨w,q1,f2⟩:=bnd f2;obtain⟨⟨o3,ω3⟩,q2,f2⟩:=bnd f2;refine h4 G0 H0 G4 ω2 σ2 H3 ds[i] x w _ o2 q1 rx λσ4 o4=>?_;refine h6 G0 H0 G4 w σ4 H3 o3 ω3 _ o4 q2 λG5 σ5 H5 o5 s5=>?_;cases o3 with
  | nx=>exact⟨G5,ω3,o5,s2.trans s5,f2⟩
  | ct=>exact⟨G5,ω3,o5,s2.trans s5,f2⟩
  | bk=>cases f2;exact k G5 σ5 H5 o5 (x1.gg.trans (s2.trans s5))
  | rt r=>cases f2;exact k G5 σ5 H5 o5 (x1.gg.trans (s2.trans s5))
 ·have ei:i=ds.length:=by omega
  subst ei;rw[wz] at f2;cases f2;exact .inl ⟨it.stop H2 (s2.trans o2.gh),k G2 σ2 H2 o2 (x1.gg.trans s2)⟩
end
noncomputable def Xf(g:FG)(c:FT)(f:FD):List D->WSt->Option (List D)
 | [],_=>some []
 | d::ds,ω=>(g d ω).bind λw=>(c w).bind λb=>if b=true then (f w).bind λx=>(Xf g c f ds w).map λr=>x::r else Xf g c f ds w
noncomputable def zAm:Option (Option W)->Option W
 | some (some (.sh d))=>some (.sh d)
 | _=>none
noncomputable def inW(M:Nat)(frees:List Nat)(ω:WSt):WSt:=zh M none++frees.map λj=>zAm ω[j]?
noncomputable def XU(M:Nat)(frees:List Nat)(fi:FI)(g:FG)(c:FT)(f:FD):FE:=λω=>(fi ω).bind λds=>if ds.length <= 1000000 then (Xf g c f ds (inW M frees ω)).map R.fr else none
def XTs(X:Cx)(ifs:List Expr)(f:FT):Prop:=∃ t,PTs X ifs t/\zAU X.K t f
noncomputable def Xk:FT:=λ_=>some true
theorem q0r{X:Cx}:XTs X [] Xk:=⟨_,qdC,λG0 H0 G ω σ H b Q o e k=>by cases e;exact k G H (Ext.refl o.gh)⟩
theorem q1A{X:Cx}{c:Expr}{f:FT}(h:XT X c f):XTs X [c] f:=let ⟨t,h1,h2⟩:=h;⟨t,qeq h1,h2⟩
section
variable {X:Cx} {N:List Str} {M:Nat} {frees:List Nat} {scope:Scope} {tg iter elt:Expr} {ifs:List Expr} {pos:Pos} {fi:FI} {fg:FG} {fc:FT} {fe:FD}
def Xq(ω:WSt):Prop:=∀ (i:Nat) w,ω[i]?=some (some w)->∃ d,w=.sh d
theorem Xq.ow{ω:WSt}(h:Xq ω)(i:Nat)(ds:List D):ω[i]?≠some (some (.ow ds)):=λz=>by obtain⟨d,e⟩:=h i _ z;cases e
theorem Xq.od{ω:WSt}(h:Xq ω)(i:Nat)(ks:List Int)(ds:List D):ω[i]?≠some (some (.od ks ds)):=λz=>by obtain⟨d,e⟩:=h i _ z;cases e
theorem Xq.pw{ω:WSt}(h:Xq ω)(i:Nat)(ds:List D):ω[i]?≠some (some (.pw ds)):=λz=>by obtain⟨d,e⟩:=h i _ z;cases e
theorem q7Q{wi:TI}{g:TG}{tc:TT}{te:TE}(h2:SimI X.K wi fi)(h4:SimG X.K g fg)(h6:zAU X.K tc fc)(h8:zAp X.K te fe)(hg:∀ d ω ω',Xq ω->fg d ω=some ω'->Xq ω'):zCO X.K (zB5 M frees wi g tc te) (XU M frees fi fg fc fe):=by
 intro G0 H0 G ω σ H r Q o e k;obtain⟨ds,q,e⟩:=bnd e
 by_cases hz:ds.length <= 1000000
 ·rw[if_pos hz] at e
  obtain⟨rs,q2,e⟩:=mpd e;subst e;refine h2 G0 H0 G ω σ H ds _ o q λJ G1 H1 x1 it=>?_;intro A hA;have ow0:Xq (inW M frees ω):=by
   intro i es z;unfold inW at z;rcases zu i M with y|y
   ·rw[zc (by simpa using y),yp,if_pos y] at z;cases z
   ·rw[zW (by simpa using y),yK,za] at z
    cases e1:frees[i - M]? with
    | none=>rw[e1] at z;cases z
    | some j =>
     rw[e1] at z;have z':zAm ω[j]?=some es:=zw z;generalize ω[j]?=u at z';unfold zAm at z'
     split at z'
     ·cases z';exact⟨_,rfl⟩
     ·cases z'
  have own0:∀ G2 H2,Yz G1 G2->Yz G2 H2->Own X.K G2 (fr H2) G2 (inW M frees ω) (zBT M frees σ) H2:=λG2 H2 s1 s2=>by
   have o1:=o.keep x1;refine⟨Ext.refl s2,by unfold inW zBT;simp,λi d hi=>?_,λi ds' hi=>absurd hi (ow0.ow i ds'),λi j ds' es l hi=>absurd hi (ow0.ow i ds'),λi ks ds' hi=>absurd hi (ow0.od i ks ds'),Xg.no ow0.pw⟩;unfold inW at hi;unfold zBT;rcases zu i M with y|y
   ·rw[zc (by simpa using y),yp,if_pos y] at hi;cases hi
   ·rw[zW (by simpa using y),yK,za] at hi ⊢
    cases e1:frees[i - M]? with
    | none=>rw[e1] at hi;cases hi
    | some j =>
     rw[e1] at hi;have hi':zAm ω[j]?=some (.sh d):=zw hi;cases e2:ω[j]? with
     | none=>rw[e2] at hi';cases hi'
     | some w =>
      rw[e2] at hi';cases w with
      | none=>cases hi'
      | some w =>
       cases w with
       | ow _=>cases hi'
       | od _ _=>cases hi'
       | pw _=>cases hi'
       | sh d' =>
        cases hi';obtain⟨v,q3,q4⟩:=o1.sh j _ e2;exact⟨v,by rw[yn,q3];rfl,q4.mono s1⟩
  refine⟨λi m σ2 H2=>∃ G2 ω2 accd accv,Own X.K G2 (fr H2) G2 ω2 σ2 H2/\Xq ω2/\Ext G1 H1 G2 H2/\G2 A=none/\H2 A=some (.lst accv)/\Yo X.K G2 accd accv/\accd.length <= i/\i <= ds.length/\m=ds.length - i /\
   ∃ rest,Xf fg fc fe (ds.drop i) ω2=some rest/\accd++rest=rs,⟨_,G1,inW M frees ω,[],[],own0 _ _ (Yz.refl _) (Yy x1.gh (x1.gh.free hA) _),ow0,Ext.hide x1.gh hA _,x1.gh.free hA,qd,Yo.nil,zJ _,zz _,rfl,rs,q2,rfl⟩,?_⟩
  rintro i m σ2 H2 ⟨G2,ω2,accd,accv,o2,no2,x2,gA,hA2,ra,la,li,rfl,rest,cd,er⟩
  by_cases hlt:i < ds.length
  ·refine .inr ⟨it.go H2 i (x2.gg.trans x2.gh) hlt,λx H3 hy=>?_⟩
   have hd:ds[i]?=some ds[i]:=zD hlt;obtain⟨G4,x4,rx⟩:=it.yld G2 H2 i x H3 ds[i] x2.gg x2.gh hd hy;have o2':=o2.keep x4;have o2:Own X.K G4 (fr H3) G4 ω2 σ2 H3:=⟨Ext.refl x4.gh,o2'.len,o2'.sh,λi ds' hi=>absurd hi (no2.ow i ds'),λi j ds' es l hi=>absurd hi (no2.ow i ds'),λi ks ds' hi=>absurd hi (no2.od i ks ds'),Xg.no no2.pw⟩;have gA:G4 A=none:=x4.new A gA (by rw[hA2];exact λz=>by cases z);have hA2:H3 A=some (.lst accv):=x4.hh _ _ hA2;have x2:=x2.trans x4;have ra:=ra.mono x4.gg;rw[yx hlt] at cd;obtain⟨w,q1,cd⟩:=bnd cd;obtain⟨b,q3,cd⟩:=bnd cd;have now:=hg _ _ _ no2 q1;refine h4 G4 (fr H3) G4 ω2 σ2 H3 ds[i] x w _ o2 q1 rx λσ4 o4=>?_;refine h6 G4 (fr H3) G4 w σ4 H3 b _ o4 q3 λG5 H5 x5=>?_;have o5:=o4.keep x5;have gA5:G5 A=none:=x5.new A gA (by rw[hA2];exact λz=>by cases z);have hA5:H5 A=some (.lst accv):=x5.hh _ _ hA2;cases b with
   | false =>
    rw[if_neg yo];rw[if_neg yo] at cd;have o6:Own X.K G5 (fr H5) G5 w σ4 H5:=⟨Ext.refl x5.gh,o5.len,o5.sh,λi ds' hi=>absurd hi (now.ow i ds'),λi j ds' es l hi=>absurd hi (now.ow i ds'),λi ks ds' hi=>absurd hi (now.od i ks ds'),Xg.no now.pw⟩;exact⟨ds.length - (i+1),by omega,G5,w,accd,accv,o6,now,x2.trans x5,gA5,hA5,ra.mono x5.gg,by omega,hlt,rfl,rest,cd,er⟩
   | true =>
    rw[if_pos rfl] at cd ⊢;obtain⟨d,q4,cd⟩:=bnd cd;obtain⟨rest',q5,cd⟩:=mpd cd;subst cd;refine h8 G4 (fr H3) G5 w σ4 H5 d _ o5 q4 λv G6 H6 x6 y6=>?_;have gA6:G6 A=none:=x6.new A gA5 (by rw[hA5];exact λz=>by cases z);have hA6:H6 A=some (.lst accv):=x6.hh _ _ hA5;have x26:=(x2.trans x5).trans x6;have raa:=ra.mono (x5.gg.trans x6.gg);have hl:accv.length < sizeLine:=by rw[<- raa.len,sizeLine_eq];omega
    refine⟨accv,hA6,hl,ds.length - (i+1),by omega,G6,w,accd++[d],accv++[v],?_,now,⟨x26.gg,Yy x26.gh gA6 _,Yy x26.hh hA _,x26.new⟩,gA6,qd,raa.app (Yo.cons y6 Yo.nil),by rw[zC,zU];omega,hlt,rfl,rest',q5,by rw[zK];exact er⟩;have o6:=o5.keep x6;exact⟨Ext.refl (Yy x6.gh gA6 _),o6.len,o6.sh,λi ds' hi=>absurd hi (now.ow i ds'),λi j ds' es l hi=>absurd hi (now.ow i ds'),λi ks ds' hi=>absurd hi (now.od i ks ds'),Xg.no now.pw⟩
  ·have ei:i=ds.length:=by omega
   subst ei;rw[wz] at cd;cases cd;rw[zr] at er;subst er;refine .inl ⟨it.stop H2 (x2.gg.trans x2.gh),k _ G2 H2 (x1.trans x2) ⟨A,accv,rfl,x1.hh.free hA,gA,hA2,ra⟩⟩
 ·rw[if_neg hz] at e;cases e
theorem qcT{ω:WSt}{i:Nat}{d:D}(h:Xq ω):Xq (ω.set i (some (.sh d))):=by
 intro j ds z;rcases qf z with⟨_,_,y⟩|⟨_,y⟩
 ·cases y;exact⟨d,rfl⟩
 ·exact h j ds y
def Tame(fg:FG):Prop:=∀ d ω ω',Xq ω->fg d ω=some ω'->Xq ω'
def zBm(gs:List D->WSt->Option WSt):Prop:=∀ ds ω ω',Xq ω->gs ds ω=some ω'->Xq ω'
theorem qD(i:Nat):Tame (gN i):=λd ω ω' h e=>by cases e;exact qcT h
theorem q5Y:zBm Xn:=λds ω ω' h e=>by
 cases ds with
 | nil=>cases e;exact h
 | cons _ _=>cases e
theorem q1y{fg:FG}{gs:List D->WSt->Option WSt}(h:Tame fg)(h':zBm gs):zBm (Y0 fg gs):=λds ω ω' n e=>by
 cases ds with
 | nil=>cases e
 | cons d r=>obtain⟨w,q,e⟩:=bnd e;exact h' _ _ _ (h _ _ _ n q) e
theorem qbr{n:Nat}{gs:List D->WSt->Option WSt}(h:zBm gs):Tame (gT n gs):=λd ω ω' no e=>by
 unfold gT at e;cases d with
 | tup ds =>
  dsimp only at e
  by_cases z:ds.length=n
  ·rw[if_pos z] at e;exact h _ _ _ no e
  ·rw[if_neg z] at e;cases e
 | _=>cases e
noncomputable def canD(K:zA)(f:FD):TE:=λσ H Q=>∃ G0 H0 G ω d,Own K G0 H0 G ω σ H/\f ω=some d/\∀ v G' H',Ext G H G' H'->Rep K G' d v->Q v H'
noncomputable def canT(K:zA)(f:FT):TT:=λσ H Q=>∃ G0 H0 G ω b,Own K G0 H0 G ω σ H/\f ω=some b/\∀ G' H',Ext G H G' H'->Q b H'
noncomputable def canG(K:zA)(f:FG):TG:=λv σ H Q=>∃ G0 H0 G ω d ω',Own K G0 H0 G ω σ H/\f d ω=some ω'/\Rep K G d v/\∀ σ',Own K G0 H0 G ω' σ' H->Q σ' H
theorem XD.can{X:Cx}{e:Expr}{f:FD}(h:XD X e f):PE X e (canD X.K f):=λpins s σ H Q I ⟨G0,H0,G,ω,d,o,e,k⟩=>let ⟨_,h1,h2⟩:=h;h1 pins s σ H Q I (h2 G0 H0 G ω σ H d Q o e k)
theorem XTs.can{X:Cx}{e:List Expr}{f:FT}(h:XTs X e f):PTs X e (canT X.K f):=λpins s σ H Q I ⟨G0,H0,G,ω,d,o,e,k⟩=>let ⟨_,h1,h2⟩:=h;h1 pins s σ H Q I (h2 G0 H0 G ω σ H d Q o e k)
theorem XG.can{X:Cx}{e:Expr}{f:FG}(h:XG X e f):PG X e (canG X.K f):=λpins s σ H v u Q I r ⟨G0,H0,G,ω,d,ω',o,e,y,k⟩=>let ⟨_,h1,h2⟩:=h;h1 pins s σ H v u Q I r (h2 G0 H0 G ω σ H d v ω' Q o e y k)
theorem q6H{K:zA}{f:FD}:zAp K (canD K f) f:=λG0 H0 G ω σ H d Q o e k=>⟨G0,H0,G,ω,d,o,e,k⟩
theorem q7D{K:zA}{f:FT}:zAU K (canT K f) f:=λG0 H0 G ω σ H d Q o e k=>⟨G0,H0,G,ω,d,o,e,k⟩
theorem q7N{K:zA}{f:FG}:SimG K (canG K f) f:=λG0 H0 G ω σ H d v ω' Q o e y k=>⟨G0,H0,G,ω,d,ω',o,e,y,k⟩
theorem q0D(hc:X.calm=true)(B:BlkOk X N M frees scope)(hi:XI X tg iter fi)(ht:Tame fg)
  (hb:∀ C s H fp,XG (Xt X N scope C s H fp) tg fg/\XTs (Xt X N scope C s H fp) ifs fc/\XD (Xt X N scope C s H fp) elt fe)
  (hs:∀ x,foldedSetIterable iter X.env x=pure x:=by intro _;rfl):XE X (.ListComp elt [⟨tg,iter,ifs,0⟩] scope pos) (XU M frees fi fg fc fe):=by
 obtain⟨wi,h1,h2⟩:=hi;have b4:∀ C s H fp,PG (Xt X N scope C s H fp) tg (canG X.K fg)/\PTs (Xt X N scope C s H fp) ifs (canT X.K fc)/\PE (Xt X N scope C s H fp) elt (canD X.K fe):=λC s H fp=>⟨(hb C s H fp).1.can,(hb C s H fp).2.1.can,(hb C s H fp).2.2.can⟩;exact⟨_,qez hc B h1 b4 hs,q7Q h2 q7N q7D q6H ht⟩
theorem q0W{i:Nat}{x:Str}{pos' spos:Pos}(hc:X.calm=true)(hN:X.N.Nodup)(hi':X.N[i]?=some x)(hx:X.env.scope.names.lookup x=some .local)(B:BlkOk X N M frees scope)(hi:XI X tg iter fi)(ht:Tame fg)
  (hb:∀ C s H fp,XG (Xt X N scope C s H fp) tg fg/\XTs (Xt X N scope C s H fp) ifs fc/\XD (Xt X N scope C s H fp) elt fe)
  (hsw:swapsWith (.ListComp elt [⟨tg,iter,ifs,0⟩] scope pos) (some (.Name x pos')) spos.line X.env=pure true:=by rfl)
  (hs:∀ x,foldedSetIterable iter X.env x=pure x:=by intro _;rfl):XS X (.Assign [.Name x pos'] (.ListComp elt [⟨tg,iter,ifs,0⟩] scope pos) spos) (XH i (XU M frees fi fg fc fe)):=by
 obtain⟨wi,h1,h2⟩:=hi;have b4:∀ C s H fp,PG (Xt X N scope C s H fp) tg (canG X.K fg)/\PTs (Xt X N scope C s H fp) ifs (canT X.K fc)/\PE (Xt X N scope C s H fp) elt (canD X.K fe):=λC s H fp=>⟨(hb C s H fp).1.can,(hb C s H fp).2.1.can,(hb C s H fp).2.2.can⟩;exact⟨_,qed hc hN hi' hx B h1 b4 hsw hs,q8S (q7Q h2 q7N q7D q6H ht)⟩
def Wh(X:Cx)(scope:Scope):List Str->List Nat->Prop
 | [],[]=>True
 | x::xs,j::js=>(X.N[j]?=some x/\(X.env.kindOf x=some .cell\/X.env.kindOf x=some .free)/\scope.names.lookup x=some .free)/\Wh X scope xs js
 | _,_=>False
theorem q4B{X:Cx}{scope:Scope}:∀ {xs:List Str} {js:List Nat},Wh X scope xs js->∀ (k:Nat) (x:Str),xs[k]?=some x->∃ j,js[k]?=some j/\X.N[j]?=some x/\(X.env.kindOf x=some .cell\/X.env.kindOf x=some .free)/\scope.names.lookup x=some .free
 | [],_,_,_,_,e=>by simp at e
 | _::_,[],h,_,_,_=>h.elim
 | y::ys,i::is,⟨h1,h2⟩,0,x,e=>by
  have:y=x:=by simpa using e
  subst this;exact⟨i,rfl,h1⟩
 | y::ys,i::is,⟨h1,h2⟩,k+1,x,e=>by
  obtain⟨j,q⟩:=q4B h2 k x (by simpa using e);exact⟨j,by simpa using q.1,q.2⟩
theorem q3I{X:Cx}{scope:Scope}:∀ {xs:List Str} {js:List Nat},Wh X scope xs js->xs.length=js.length
 | [],[],_=>rfl
 | [],_::_,h=>h.elim
 | _::_,[],h=>h.elim
 | _::ys,_::is,⟨_,h2⟩=>by rw[zL,zL,q3I h2]
theorem blk{X:Cx}{scope:Scope}(own free:List Str)(frees:List Nat)(h1:scope.kind=.function)(h2:∀ y∈scope.names,y.2≠.cell)(h3:∀ y∈scope.names,y.2=.local->scope.names.lookup y.1=some .local)
  (h4:(scope.names.all λp=>p.2 != .free || (X.env.cells.lookup p.1).isSome)=true) (h5:Wh X scope free frees):BlkOk X (own++free) own.length frees scope:=by
 refine⟨h1,h2,h3,λp hp hf=>?_,λk x e=>?_,by rw[zC,q3I h5]⟩
 ·have:=xq.mp h4 p hp
  rw[hf] at this;simpa using this
 ·rw[zW (Nat.le_add_right _ _),wy] at e
  exact q4B h5 k x e
end
noncomputable def entry(n:Nat)(ds:List D):WSt:=ds.map (λd=>some (.sh d))++zh (n - ds.length) none
noncomputable def mir(n:Nat)(body:FS)(ds:List D):Option O:=match body (entry n ds) with
 | some (.rt r,_)=>some r
 | some (.nx,_)=>some (.sh .non)
 | _=>none
theorem q9L{K:zA}{H:Hp}{N:List Str}{ds:List D}{vs:List V}(h:Yo K H ds vs)(i:Nat)(d:D)(e:(entry N.length ds)[i]?=some (some (.sh d))):∃ v,(L2.start N vs)[i]?=some (some v)/\Rep K H d v:=by
 unfold entry at e;unfold L2.start;have hl:=h.len;rcases zu i ds.length with y|y
 ·rw[zc (by simpa using y),za] at e
  have e1:ds[i]?=some d:=by
   cases q:ds[i]? with
   | none=>rw[q] at e;cases e
   | some d'=>rw[q] at e;cases e;rfl
  obtain⟨v,q1,q2⟩:=h.get e1;refine⟨v,?_,q2⟩;rw[zc (by simpa using (by omega:i < vs.length)),za,q1];rfl
 ·rw[zW (by simpa using y),yp] at e
  split at e <;> cases e
theorem q1w{n:Nat}{ds:List D}:Xq (entry n ds):=by
 intro i es z;unfold entry at z;rcases zu i ds.length with y|y
 ·rw[zc (by simpa using y),za] at z
  cases q:ds[i]? with
  | none=>rw[q] at z;cases z
  | some d=>rw[q] at z;cases z;exact⟨d,rfl⟩
 ·rw[zW (by simpa using y),yp] at z
  split at z <;> cases z
theorem fnD{P:Program}{w:World}{K:zA}{mg:Str->Option Value}{base:Heap}{x qual:Str}{st:Stmt}{f:Addr}{fd:FuncData}{N ps:List Str}{k:Nat}{body:FS}(F:Fun K x qual st f fd)(S:FnScope N ps (Yj st))
  (hb:∀ (cdv:Value) (A:Around) (outer:List Env) (s:Shared) (H:Hp) (E:XK),Room k (A.deeper (PyProof.Rows.envOfC qual (Yj st) s.heap.objs.size f cdv))->XSs (zBV CX0 P w K mg base N qual (Yj st) f cdv A outer s H E).nox (Xb st) body) :
  FnOk P w K mg base CX0 (k+1) f fd ps (spD K ps.length (mir N.length body)):=by
 refine F.ok S (λvs H Q E h=>?_) (λcdv A outer s H vs Q E hr h=>?_)
 ·obtain⟨G,ds,r,_,h2,_,h4,_⟩:=h
  rw[<- h4.len];exact h2
 ·obtain⟨G,ds,r,h1,h2,h3,h4,h5⟩:=h
  obtain⟨t,p1,p2⟩:=hb cdv A outer s H E hr;refine⟨t,p1,?_⟩;unfold mir at h1;have hl:=h4.len;have hpl:ps.length <= N.length:=by have:=congrArg xX S.pre;rw[zd] at this;omega
  have o0:Own K G (fr H) G (entry N.length ds) (L2.start N vs) H:=by
   refine⟨Ext.refl h3,?_,λi d e=>q9L h4 i d e,λi es e=>absurd e (q1w.ow i es),λi j es fs l e=>absurd e (q1w.ow i es),λi ks es e=>absurd e (q1w.od i ks es),Xg.no q1w.pw⟩;unfold entry L2.start;simp only[zC,zB,yK];omega
  cases q:body (entry N.length ds) with
  | none=>rw[q] at h1;cases h1
  | some p =>
   obtain⟨out,ω'⟩:=p;rw[q] at h1;refine p2 G (fr H) G _ _ H out ω' _ o0 q λG' σ' H' o' s'=>?_;cases out with
   | nx=>cases h1;exact h5 _ G' H' o'.ext rfl
   | bk=>cases h1
   | ct=>cases h1
   | rt r'=>cases h1;exact λv y=>h5 v G' H' o'.ext y
theorem q04:bootBuiltins "len" = some (.builtin "len"):=by decide +kernel
theorem qfv:bootBuiltins "all" = some (.builtin "all"):=by decide +kernel
theorem qaB:bootBuiltins "max" = some (.builtin "max"):=by decide +kernel
theorem qfO:bootBuiltins "abs" = some (.builtin "abs"):=by decide +kernel
theorem q1i:bootBuiltins "sorted" = some (.builtin "sorted"):=by decide +kernel
theorem qay:bootBuiltins "int" = some (.type "int"):=by decide +kernel
theorem qdK:bootBuiltins "bool" = some (.type "bool"):=by decide +kernel
theorem q3n:bootBuiltins "list" = some (.type "list"):=by decide +kernel
theorem qd6:bootBuiltins "tuple" = some (.type "tuple"):=by decide +kernel
theorem qeS:bootBuiltins "set" = some (.type "set"):=by decide +kernel
theorem qfU:bootBuiltins "zip" = some (.type "zip"):=by decide +kernel
noncomputable def zB2(o:Option (Out×WSt))(g:FS):Option (Out×WSt):=o.bind λp=>match p.1 with
 | .nx=>g p.2
 | o=>some (o,p.2)
noncomputable def setS(i:Nat)(ω:WSt)(o:Option R):Option (Out×WSt):=o.bind λr=>(setR i r ω).map λw=>(.nx,w)
noncomputable def ifS(c:Option Bool)(f g:FS)(ω:WSt):Option (Out×WSt):=c.bind λb=>if b=true then f ω else g ω
noncomputable def retS(ω:WSt)(o:Option R):Option (Out×WSt):=o.bind λr=>match r with
 | .sh d=>some (.rt (.sh d),ω)
 | .fr ds=>some (.rt (.fr ds),ω)
 | .vw _=>none
noncomputable def retV(ω:WSt)(o:Option (Option W)):Option (Out×WSt):=match o with
 | some (some (.sh d))=>some (.rt (.sh d),ω)
 | some (some (.ow ds))=>some (.rt (.fr ds),ω)
 | _=>none
noncomputable def appS(i:Nat)(ω:WSt)(o:Option D)(l:Option (Option W)):Option (Out×WSt):=o.bind λd=>match l with
 | some (some (.ow ds))=>if ds.length < 1000000 then some (.nx,ω.set i (some (.ow (ds++[d])))) else none
 | _=>none
noncomputable def extS(i:Nat)(ω:WSt)(o:Option D)(l:Option (Option W)):Option (Out×WSt):=o.bind λd=>(itemsOf d).bind λes=>match l with
 | some (some (.ow ds))=>if ds.length+es.length <= 1000000 then some (.nx,ω.set i (some (.ow (ds++es)))) else none
 | _=>none
noncomputable def shrS(i:Nat)(ω:WSt)(o:Option (Option W)):WSt:=match o with
 | some (some (.ow ds))=>ω.set i (some (.sh (.lst ds)))
 | some (some (.od ks ds))=>ω.set i (some (.sh (.dic ks ds)))
 | _=>ω
noncomputable def forS(o:Option (List D))(g:FG)(b:FS)(ω:WSt):Option (Out×WSt):=o.bind λds=>zAL g b ds ω
noncomputable def asgS(o:Option D)(g:FG)(ω:WSt):Option (Out×WSt):=o.bind λd=>(g d ω).map λw=>(.nx,w)
noncomputable def zB0(o:Option (Option W)):Option R:=match o with
 | some (some (.sh d))=>some (.sh d)
 | some (some (.ow ds))=>some (.vw ds)
 | some (some (.pw ds))=>some (.vw ds)
 | _=>none
noncomputable def eD(o:Option D):Option R:=o.map R.sh
noncomputable def dR(o:Option R):Option D:=match o with
 | some (.sh d)=>some d
 | some (.fr ds)=>some (.lst ds)
 | _=>none
noncomputable def vR(o:Option R):Option D:=o.map R.d
noncomputable def op2(op:D->D->Option R)(x y:Option D):Option R:=x.bind λx=>y.bind λy=>op x y
noncomputable def callR(m:List D->Option O)(o:Option (List D)):Option R:=o.bind λds=>(m ds).map O.r
noncomputable def consA(o:Option D)(r:Option (List D)):Option (List D):=o.bind λd=>r.map λds=>d::ds
noncomputable def bltR(op:List D->Option R)(o:Option (List D)):Option R:=o.bind op
noncomputable def slR(o:Option D)(l h:Option (Option Int)):Option R:=o.bind λd=>l.bind λlo=>h.bind λhi=>oSl d lo hi
noncomputable def atP(o:Option D):Option (Option Int):=o.bind λd=>match d with|.int i=>some (some i)|_=>none
noncomputable def iteR(c:Option Bool)(f g:FE)(ω:WSt):Option R:=c.bind λk=>if k=true then f ω else g ω
noncomputable def isiR(c:Ty)(o:Option D):Option R:=o.bind λd=>match d with
 | .scr _=>none
 | .exc _=>none
 | .dic _ _=>none
 | d=>some (.sh (.bl (zBR (tyD d) c)))
noncomputable def tR(o:Option R):Option Bool:=match o with
 | some (.sh (.bl k))=>some k
 | _=>none
noncomputable def andT(o:Option Bool)(g:FT)(ω:WSt):Option Bool:=o.bind λc=>if c=true then g ω else some false
noncomputable def orT(o:Option Bool)(g:FT)(ω:WSt):Option Bool:=o.bind λc=>if c=true then some true else g ω
noncomputable def notT(o:Option Bool):Option Bool:=o.map (!·)
noncomputable def truT(o:Option D):Option Bool:=o.bind truD
noncomputable def andV(o:Option D)(g:FD)(ω:WSt):Option D:=o.bind λd=>(blOf d).bind λc=>if c=true then g ω else some (.bl false)
noncomputable def seqI(o:Option D):Option (List D):=o.bind itemsOf
noncomputable def rg1I(o:Option (List D)):Option (List D):=o.bind λds=>match ds with
 | [.int j]=>if -(2 ^ 62) <= j/\j < 2 ^ 62 then some (upTo 0 j.toNat) else none
 | _=>none
noncomputable def compR(M:Nat)(fr:List Nat)(o:Option (List D))(g:FG)(c:FT)(f:FD)(ω:WSt):Option R:=o.bind λds=>if ds.length <= 1000000 then (Xf g c f ds (inW M fr ω)).map R.fr else none
noncomputable def outM(o:Option (Out×WSt)):Option O:=match o with
 | some (.rt r,_)=>some r
 | some (.nx,_)=>some (.sh .non)
 | _=>none
section
variable {f g:FS} {ω w:WSt} {i:Nat} {fe fe':FE} {fd fd':FD} {ft ft':FT} {r:O} {d d':D} {ds ds':List D} {a b:Int} {p q:Bool} {fa:FA} {fg:FG} {fi:FI} {n:Nat}
theorem q9Y:mir n f ds=outM (f (entry n ds)):=rfl
theorem q5h:outM (some (.rt r,w))=some r:=rfl
theorem q5k:outM (some (.nx,w))=some (.sh .non):=rfl
theorem qI:Y5 f g ω=zB2 (f ω) g:=rfl
theorem q5K:zB2 (some (.nx,w)) g=g w:=rfl
theorem q5i:zB2 (some (.rt r,w)) g=some (.rt r,w):=rfl
theorem qa6:Wm ω=some (.nx,ω):=rfl
theorem qap:XH i fe ω=setS i ω (fe ω):=rfl
theorem q5A:setS i ω (some (.sh d))=some (.nx,ω.set i (some (.sh d))):=rfl
theorem q4T:setS i ω (some (.fr ds))=some (.nx,ω.set i (some (.ow ds))):=rfl
theorem e_if:sIf ft f g ω=ifS (ft ω) f g ω:=rfl
theorem q7C:ifS (some true) f g ω=f ω:=rfl
theorem q7s:ifS (some false) f g ω=g ω:=rfl
theorem q9H:Xi fe ω=retS ω (fe ω):=rfl
theorem q56:retS ω (some (.sh d))=some (.rt (.sh d),ω):=rfl
theorem q5y:retS ω (some (.fr ds))=some (.rt (.fr ds),ω):=rfl
theorem q7O:W1 i ω=retV ω ω[i]?:=rfl
theorem q5C:retV ω (some (some (.ow ds)))=some (.rt (.fr ds),ω):=rfl
theorem qag:zBa i fd ω=appS i ω (fd ω) ω[i]?:=rfl
theorem zAz(h:ds.length < 1000000):appS i ω (some d) (some (some (.ow ds)))=some (.nx,ω.set i (some (.ow (ds++[d])))):=if_pos h
theorem q9F:sExt i fd ω=extS i ω (fd ω) ω[i]?:=rfl
theorem q4o(h:ds.length+ds'.length <= 1000000):extS i ω (some (.tup ds')) (some (some (.ow ds)))=some (.nx,ω.set i (some (.ow (ds++ds')))):=if_pos h
theorem q2S(h:ds.length+ds'.length <= 1000000):extS i ω (some (.lst ds')) (some (some (.ow ds)))=some (.nx,ω.set i (some (.ow (ds++ds')))):=if_pos h
theorem q5g:XR i f ω=f (shrS i ω ω[i]?):=rfl
theorem q4R:shrS i ω (some (some (.ow ds)))=ω.set i (some (.sh (.lst ds))):=rfl
theorem q9u:Wz fi fg f ω=forS (fi ω) fg f ω:=rfl
theorem e_fs:forS (some ds) fg f ω=zAL fg f ds ω:=rfl
theorem qar:sAsg fd fg ω=asgS (fd ω) fg ω:=rfl
theorem e_ag:asgS (some d) fg ω=(fg d ω).map λw=>(.nx,w):=rfl
theorem e_gn:gN i d ω=some (ω.set i (some (.sh d))):=rfl
theorem e_gt{gs}:gT n gs (.tup ds) ω=if ds.length=n then gs ds ω else none:=rfl
theorem e_gc{gs}:Y0 fg gs (d::ds) ω=(fg d ω).bind λw=>gs ds w:=rfl
theorem e_g0:Xn [] ω=some ω:=rfl
theorem qaf:Yh i ω=zB0 ω[i]?:=rfl
theorem q5s:zB0 (some (some (.sh d)))=some (.sh d):=rfl
theorem q4K:zB0 (some (some (.ow ds)))=some (.vw ds):=rfl
theorem e_c:fC d ω=some d:=rfl
theorem e_e:eOf fd ω=eD (fd ω):=rfl
theorem e_ed:eD (some d)=some (.sh d):=rfl
theorem e_d:dOf fe ω=dR (fe ω):=rfl
theorem q58:dR (some (.sh d))=some d:=rfl
theorem q5f:dR (some (.fr ds))=some (.lst ds):=rfl
theorem e_v:vOf fe ω=vR (fe ω):=rfl
theorem q50:vR (some (.sh d))=some d:=rfl
theorem q5u:vR (some (.fr ds))=some (.lst ds):=rfl
theorem q5z:vR (some (.vw ds))=some (.lst ds):=rfl
theorem e_op{op}:Yn op fd fd' ω=op2 op (fd ω) (fd' ω):=rfl
theorem e_o2{op}:op2 op (some d) (some d')=op d d':=rfl
theorem q6E{m}:Yu m fa ω=callR m (fa ω):=rfl
theorem e_cl{m}:callR m (some ds)=(m ds).map O.r:=rfl
theorem q5q:(O.sh d).r=.sh d:=rfl
theorem q5b:(O.fr ds).r=.fr ds:=rfl
theorem e_ac:Yf fd fa ω=consA (fd ω) (fa ω):=rfl
theorem e_ca:consA (some d) (some ds)=some (d::ds):=rfl
theorem e_an:Ys ω=some []:=rfl
theorem q9q:zAP fa ω=(fa ω).map R.fr:=rfl
theorem q9B:Wj fa ω=(fa ω).map D.tup:=rfl
theorem q9X{op}:X5 op fa ω=bltR op (fa ω):=rfl
theorem e_bl{op}:bltR op (some ds)=op ds:=rfl
theorem q9K{l h:FO}:fSl fd l h ω=slR (fd ω) (l ω) (h ω):=rfl
theorem e_sl{lo hi:Option Int}:slR (some d) (some lo) (some hi)=oSl d lo hi:=rfl
theorem e_po:pNo ω=some none:=rfl
theorem e_pa:pAt fd ω=atP (fd ω):=rfl
theorem e_ap:atP (some (.int a))=some (some a):=rfl
theorem q9j:fIte ft fe fe' ω=iteR (ft ω) fe fe' ω:=rfl
theorem q7l:iteR (some true) fe fe' ω=fe ω:=rfl
theorem q7h:iteR (some false) fe fe' ω=fe' ω:=rfl
theorem q9M{c}:zCN c fd ω=isiR c (fd ω):=rfl
theorem q2T{c}:isiR c (some (.lst ds))=some (.sh (.bl (zBR .lst c))):=rfl
theorem q3i{c}:isiR c (some (.tup ds))=some (.sh (.bl (zBR .tup c))):=rfl
theorem e_t:tOf fe ω=tR (fe ω):=rfl
theorem e_tr:tR (some (.sh (.bl p)))=some p:=rfl
theorem q85:zAF ft ft' ω=andT (ft ω) ft' ω:=rfl
theorem e_ta:andT (some p) ft ω=if p=true then ft ω else some false:=rfl
theorem qam:(if p=true then some q else some false)=some (p && q):=by cases p <;> rfl
theorem q9P:zBo ft ft' ω=orT (ft ω) ft' ω:=rfl
theorem e_to:orT (some p) ft ω=if p=true then some true else ft ω:=rfl
theorem qae:(if p=true then some true else some q)=some (p || q):=by cases p <;> rfl
theorem q6J:zAB ft ω=notT (ft ω):=rfl
theorem e_tn:notT (some p)=some (!p):=rfl
theorem q6W:zBU fd ω=truT (fd ω):=rfl
theorem q4U:truT (some (.bl p))=some p:=rfl
theorem q4e:truT (some (.lst ds))=some (!ds.isEmpty):=rfl
theorem q6I:zB1 fd fd' ω=andV (fd ω) fd' ω:=rfl
theorem e_va:andV (some (.bl p)) fd ω=if p=true then fd ω else some (.bl false):=rfl
theorem q9U:(if p=true then some (D.bl q) else some (D.bl false))=some (.bl (p && q)):=by cases p <;> rfl
theorem q88:X8 fd ω=seqI (fd ω):=rfl
theorem q7A:seqI (some (.lst ds))=some ds:=rfl
theorem qak:iRg1 fa ω=rg1I (fa ω):=rfl
theorem qdk(h:-(2 ^ 62) <= a/\a < 2 ^ 62):rg1I (some [.int a])=some (upTo 0 a.toNat):=if_pos h
theorem q7J{M fr}:XU M fr fi fg ft fd ω=compR M fr (fi ω) fg ft fd ω:=rfl
theorem Wy{M fr}(h:ds.length <= 1000000):compR M fr (some ds) fg ft fd ω=(Xf fg ft fd ds (inW M fr ω)).map R.fr:=if_pos h
theorem q4X:Wp [.lst ds]=some (.sh (.int ds.length)):=rfl
theorem q4Y:Wp [.tup ds]=some (.sh (.int ds.length)):=rfl
theorem q4V{ns}:Wp [.scr ns]=some (.sh (.int ns.length)):=rfl
theorem q3J:zB3 [.lst ds]=some (.fr ds):=rfl
theorem q80:oEq false (.int a) (.int b)=some (.sh (.bl (a == b))):=rfl
theorem q71:oEq true (.int a) (.int b)=some (.sh (.bl (!(a == b)))):=rfl
theorem q5n:zAu (.int a) (.int b)=some (.sh (.int (a - b))):=rfl
theorem q7n:oLt (.int a) (.int b)=some (.sh (.bl (decide (a < b)))):=rfl
theorem q89:oLe (.int a) (.int b)=some (.sh (.bl (decide (a <= b)))):=rfl
theorem q7L:oGt (.int a) (.int b)=some (.sh (.bl (decide (b < a)))):=rfl
theorem q5c:X4 (.int a) (.int b)=some (.sh (.int (a+b))):=rfl
theorem q9I:oIx (.lst ds) (.int a)=(atI ds a).map R.sh:=rfl
theorem q9Q:oIx (.tup ds) (.int a)=(atI ds a).map R.sh:=rfl
theorem qac{ns:List Int}:oIx (.scr ns) (.int a)=(atI ns a).map λn=>.sh (.int n):=rfl
theorem q0k{α:Type}{xs:List α}{i:Int}(h0:0 <= i)(h1:i < xs.length):atI xs i=some (xs[i.toNat]'(by omega)):=by
 unfold atI ixN;rw[if_pos h0,if_pos h1];show xs[i.toNat]?=_;rw[zD (by omega)]
theorem at0{α:Type}{x:α}{xs:List α}:atI (x::xs) 0=some x:=by
 rw[q0k (by decide) (by rw[zL];omega)];rfl
theorem at1{α:Type}{x y:α}{xs:List α}:atI (x::y::xs) 1=some y:=by
 rw[q0k (by decide) (by rw[zL,zL];omega)];rfl
theorem at2{α:Type}{x y z:α}{xs:List α}:atI (x::y::z::xs) 2=some z:=by
 rw[q0k (by decide) (by rw[zL,zL,zL];omega)];rfl
theorem qef{i j:Int}(h0:0 < j)(h1:j < 1073741824):cDiv i j=true:=by unfold cDiv;rw[decide_eq_true h0,decide_eq_true h1];rfl
theorem qdu{i j:Int}(h0:0 < j):cMod i j=true:=by unfold cMod;rw[decide_eq_true h0]
theorem qc3{i j:Int}(h0:-(2 ^ 64) < j)(h1:j < 2 ^ 64):zB7 i j=true:=by unfold zB7;rw[decide_eq_true h0,decide_eq_true h1];simp
theorem qc2{i j:Int}(h0:-(2 ^ 64) < i)(h1:i < 2 ^ 64):zB7 i j=true:=by unfold zB7;rw[decide_eq_true h0,decide_eq_true h1];simp
theorem q3t(h:0 < b):oMod (.int a) (.int b)=some (.sh (.int (a % b))):=if_pos (qdu h)
theorem q3v(h:0 < b)(h':b < 1073741824):oDiv (.int a) (.int b)=some (.sh (.int (a / b))):=if_pos (qef h h')
theorem qbP(h:-(2 ^ 64) < b)(h':b < 2 ^ 64):zCH (.int a) (.int b)=some (.sh (.int (a*b))):=if_pos (qc3 h h')
theorem qbU(h:-(2 ^ 64) < a)(h':a < 2 ^ 64):zCH (.int a) (.int b)=some (.sh (.int (a*b))):=if_pos (qc2 h h')
end
def zAe(o:Option (Out×WSt))(P:WSt->Prop):Prop:=match o with
 | some (.nx,ω)=>P ω
 | some (.ct,ω)=>P ω
 | _=>False
theorem q4O{ω:WSt}{P:WSt->Prop}:zAe (some (.nx,ω)) P=P ω:=rfl
theorem qbV{g:FG}{b:FS}(ds:List D)(I:List D->WSt->Prop)
  (turn:∀ pre d post ω,ds=pre++d::post->I pre ω->∃ w,g d ω=some w/\zAe (b w) (I (pre++[d])))
  {ω:WSt} (h0:I [] ω):∃ ω',zAL g b ds ω=some (.nx,ω')/\I ds ω':=by
 have key:∀ (post pre:List D) (ω:WSt),ds=pre++post->I pre ω->∃ ω',zAL g b post ω=some (.nx,ω')/\I ds ω':=by
  intro post
  induction post with
  | nil=>intro pre ω e h;exact⟨ω,rfl,by rw[e,zr];exact h⟩
  | cons d post ih =>
   intro pre ω e h;obtain⟨w,h1,h2⟩:=turn pre d post ω e h;rw[zAL,h1,yM]
   match hb:b w,h2 with
   | some (.nx,ω2),h2=>exact ih (pre++[d]) ω2 (by rw[e,zK];rfl) h2
   | some (.ct,ω2),h2=>exact ih (pre++[d]) ω2 (by rw[e,zK];rfl) h2
 exact key ds [] ω rfl h0
theorem qF{α:Type}{g:FG}{b:FS}(F:α->D)(xs:List α)(I:List α->WSt->Prop)
  (turn:∀ pre x post ω,xs=pre++x::post->I pre ω->∃ w,g (F x) ω=some w/\zAe (b w) (I (pre++[x])))
  {ω:WSt} (h0:I [] ω):∃ ω',zAL g b (xs.map F) ω=some (.nx,ω')/\I xs ω':=by
 have key:∀ (post pre:List α) (ω:WSt),xs=pre++post->I pre ω->∃ ω',zAL g b (post.map F) ω=some (.nx,ω')/\I xs ω':=by
  intro post
  induction post with
  | nil=>intro pre ω e h;exact⟨ω,rfl,by rw[e,zr];exact h⟩
  | cons d post ih =>
   intro pre ω e h;obtain⟨w,h1,h2⟩:=turn pre d post ω e h;rw[zg,zAL,h1,yM]
   match hb:b w,h2 with
   | some (.nx,ω2),h2=>exact ih (pre++[d]) ω2 (by rw[e,zK];rfl) h2
   | some (.ct,ω2),h2=>exact ih (pre++[d]) ω2 (by rw[e,zK];rfl) h2
 exact key xs [] ω rfl h0
theorem qby{g:FG}{b:FS}(lo:Int)(n:Nat)(I:Nat->WSt->Prop)(turn:∀ i ω,i < n->I i ω->∃ w,g (.int (lo+i)) ω=some w/\zAe (b w) (I (i+1)))
  {ω:WSt} (h0:I 0 ω):∃ ω',zAL g b (Hk.upTo lo n) ω=some (.nx,ω')/\I n ω':=by
 unfold Hk.upTo;obtain⟨ω',e,h⟩:=qF (g:=g) (b:=b) (λ(i:Nat)=>D.int (lo+(i:Int))) (zf n) (λpre ω=>I pre.length ω) (λpre x post ω e h=>by
  have hx:x=pre.length:=by
   have:=congrArg (λl=>l[pre.length]?) e;rw[zW (zJ _),wH] at this;rcases zu pre.length n with z|z
   ·rw[xG z] at this;simpa using this.symm
   ·rw[zn (by rw[zo];exact z)] at this;cases this
  have hlt:pre.length < n:=by
   have:=congrArg xX e;rw[zo,zC,zL] at this;omega
  subst hx;obtain⟨w,h1,h2⟩:=turn pre.length ω hlt h;refine⟨w,h1,?_⟩;rw[zC];exact h2) h0
 rw[zo] at h;exact⟨ω',e,h⟩
theorem q22{g:FG}{c:FT}{f:FD}(P:WSt->Prop)(q:D->Bool)(F:D->D):∀ (ds:List D) {ω:WSt},P ω ->
  (∀ d∈ds,∀ ω,P ω->∃ w,g d ω=some w/\P w/\c w=some (q d)/\(q d=true->f w=some (F d)))->Xf g c f ds ω=some ((ds.filter q).map F)
 | [],_,_,_=>rfl
 | d::ds,ω,h,t=>by
  obtain⟨w,h1,h2,h3,h4⟩:=t d zG ω h;have ih:=q22 P q F ds h2 (λe he=>t e (zH _ he));rw[Xf,h1,yM,h3,yM];cases hq:q d with
  | true=>rw[if_pos rfl,h4 hq,yM,ih,w8 hq];rfl
  | false=>rw[if_neg (by decide),ih,w9 (by rw[hq];decide)]
theorem q2R{i:Nat}{f:FD}(F:D->D)(ds:List D){ω:WSt}(h:∀ d∈ds,f (ω.set i (some (.sh d)))=some (F d)):Xf (gN i) Xk f ds ω=some (ds.map F):=by
 have:=q22 (g:=gN i) (c:=Xk) (f:=f) (λw=>∀ x,w.set i x=ω.set i x) (λ_=>true) F ds (ω:=ω) (λx=>rfl) λd hd w hw =>
  ⟨w.set i (some (.sh d)),rfl,λx=>by rw[Z2,hw],rfl,λ_=>by rw[hw];exact h d hd⟩
 rw[this,xv.mpr (λ_ _=>rfl)]
theorem q62{i:Nat}{c:FT}{f:FD}(q:D->Bool)(F:D->D)(ds:List D){ω:WSt}(h:∀ d∈ds,c (ω.set i (some (.sh d)))=some (q d)/\(q d=true->f (ω.set i (some (.sh d)))=some (F d))):Xf (gN i) c f ds ω=some ((ds.filter q).map F) :=
 q22 (g:=gN i) (c:=c) (f:=f) (λw=>∀ x,w.set i x=ω.set i x) q F ds (ω:=ω) (λx=>rfl) λd hd w hw =>
  ⟨w.set i (some (.sh d)),rfl,λx=>by rw[Z2,hw],by rw[hw];exact(h d hd).1,λz=>by rw[hw];exact(h d hd).2 z⟩
theorem qbM{lo:Int}{n:Nat}{d:D}(h:d∈upTo lo n):∃ i:Nat,i < n/\d=.int (lo+i):=by
 unfold upTo at h;obtain⟨i,h1,h2⟩:=z8.mp h;exact⟨i,yk.mp h1,h2.symm⟩
theorem qcS{lo:Int}{n:Nat}:(upTo lo n).length=n:=by unfold upTo;rw[zB,zo]
noncomputable def onI(F:Int->Int):D->D
 | .int k=>.int (F k)
 | d=>d
theorem qbT{lo:Int}{n:Nat}(F:Int->Int):(Hk.upTo lo n).map (onI F)=((zf n).map λ(i:Nat)=>F (lo+(i:Int))).map D.int:=by
 unfold upTo;rw[yR,yR];rfl
theorem qdc{ds:List D}{lo hi:Option Int}:oSl (.lst ds) lo hi=some (.fr (cutD ds lo hi)):=rfl
theorem q1C{xs ys:List D}(h:xs.length+ys.length <= 1000000):X4 (.lst xs) (.lst ys)=some (.fr (xs++ys)):=if_pos h
theorem q7z{ns:List Int}{i:Nat}(h:i < ns.length):atI (ns.map D.int) (i:Int)=some (.int ns[i]):=by
 rw[q0k (by omega) (by rw[zB];omega)];simp
theorem qc5{d:D}(h:shp d=true):eqD d d=true:=SeqAt.eqv_refl d.py (SeqAt.canLay_of_shaped h)
theorem qc8{d:D}(h:shp d=true):oEq false d d=some (.sh (.bl true)):=by
 unfold oEq;rw[h];show some (R.sh (D.bl (eqD d d)))=_;rw[qc5 h]
theorem q94{ds:List D}(n:Nat)(hn:n < 64)(h:∀ d∈ds,d.py.canLay0=true/\d.py.depth <= n):shp (.lst ds)=true:=by
 unfold shp SeqAt.shaped;have:∀ ds:List D,(∀ d∈ds,d.py.canLay0=true/\d.py.depth <= n)->PyData.canLayAll0 (D.pys ds)=true/\PyData.depthAll (D.pys ds) <= n:=by
  intro ds
  induction ds with
  | nil=>intro _;exact⟨rfl,zz _⟩
  | cons d ds ih =>
   intro h;obtain⟨a,b⟩:=ih λe he=>h e (zH _ he);obtain⟨a',b'⟩:=h d zG;refine⟨?_,?_⟩
   ·rw[D.pys,PyData.canLayAll0,a,a'];rfl
   ·rw[D.pys,PyData.depthAll];exact Nat.max_le.mpr ⟨b',b⟩
 obtain⟨a,b⟩:=this ds h;show (PyData.canLayAll0 (D.pys ds) && decide (PyData.depthAll (D.pys ds)+1 <= 64))=true;rw[a,decide_eq_true (by omega)];rfl
noncomputable def zAg(x:Int):List Int->List Int
 | []=>[x]
 | y::r=>if x < y then x::y::r else if x=y then y::r else y::zAg x r
noncomputable def Y1(ns:List Int):List Int:=ns.foldr zAg []
theorem q41{x y:Int}:∀ {l:List Int},y∈zAg x l↔y=x\/y∈l
 | []=>by simp[zAg]
 | z::r=>by
  unfold zAg
  split
  ·simp
  ·split
   ·rename_i h;subst h;simp
   ·simp only[zF,q41 (l:=r)]
    constructor
    ·rintro(h|h|h) <;> simp[h]
    ·rintro(h|h|h) <;> simp[h]
theorem q63{x:Int}:∀ {l:List Int},l.Pairwise (· < ·)->(zAg x l).Pairwise (· < ·)
 | [],_=>by simp[zAg]
 | z::r,h=>by
  obtain⟨h1,h2⟩:=zb.mp h;unfold zAg
  split
  ·rename_i hx
   refine zb.mpr ⟨λy hy=>?_,h⟩;rcases zF.mp hy with rfl|hy
   ·exact hx
   ·exact Int.lt_trans hx (h1 y hy)
  ·split
   ·exact h
   ·refine zb.mpr ⟨λy hy=>?_,q63 h2⟩
    rcases q41.mp hy with rfl|hy
    ·omega
    ·exact h1 y hy
theorem q20{y:Int}:∀ {ns:List Int},y∈Y1 ns↔y∈ns
 | []=>by simp[Y1]
 | x::r=>by
  show y∈zAg x (Y1 r)↔_;rw[q41,q20 (ns:=r),zF]
theorem q0H:∀ {ns:List Int},(Y1 ns).Pairwise (· < ·)
 | []=>xD
 | x::r=>q63 (q0H (ns:=r))
theorem q6Z{x:Int}:∀ (l:List Int),(zAg x l).length <= l.length+1
 | []=>by simp[zAg]
 | z::r=>by
  have:=q6Z (x:=x) r;unfold zAg
  split
  ·simp
  ·split
   ·simp
   ·rw[zL,zL];omega
theorem q23:∀ (l:List Int),(Y1 l).length <= l.length
 | []=>zJ _
 | x::r=>by
  have h1:=q6Z (x:=x) (Y1 r);have h2:=q23 r;show (zAg x (Y1 r)).length <= _;rw[zL];omega
theorem q8L:∀ {l m:List Int},l.Pairwise (· < ·)->m.Pairwise (· < ·)->(∀ x,x∈l↔x∈m)->l=m
 | [],[],_,_,_=>rfl
 | [],y::r,_,_,h=>absurd ((h y).mpr zG) (by simp)
 | x::r,[],_,_,h=>absurd ((h x).mp zG) (by simp)
 | x::r,y::q,hl,hm,h=>by
  obtain⟨a1,a2⟩:=zb.mp hl;obtain⟨b1,b2⟩:=zb.mp hm;have e:x=y:=by
   rcases zF.mp ((h x).mp zG) with e|e
   ·exact e
   ·rcases zF.mp ((h y).mpr zG) with f|f
    ·exact f.symm
    ·have:=b1 x e;have:=a1 y f;omega
  subst e;rw[q8L a2 b2 λz=>?_]
  constructor
  ·intro hz
   rcases zF.mp ((h z).mp (zH _ hz)) with f|f
   ·have:=a1 z hz;omega
   ·exact f
  ·intro hz
   rcases zF.mp ((h z).mpr (zH _ hz)) with f|f
   ·have:=b1 z hz;omega
   ·exact f
theorem q8h{l:List Int}(h:l.Pairwise (· <= ·))(n:l.Nodup):l.Pairwise (· < ·):=by
 induction l with
 | nil=>exact xD
 | cons x r ih =>
  obtain⟨h1,h2⟩:=zb.mp h;obtain⟨n1,n2⟩:=yS.mp n;refine zb.mpr ⟨λy hy=>?_,ih h2 n2⟩;have:=h1 y hy;have:x≠y:=λe=>n1 (e▸hy);omega
def setP(w:World)(S:Addr)(ns:List Int):Heap->Prop:=λh=>zBk h S (Xa w) (λi=>ns.getD i 0) ns.length
def rSet(w:World):List V->Hp->VK->Prop:=λxs H Q=>∃ p ns,xs=[.ref p]/\H p=some (.lst (ns.map V.int))/\ns.length+1 < 4096/\∀ S,H S=none->Q (.ref S) (upd H S (.ext (setP w S ns)))
def fewS(ns:List Int):Prop:=(Y1 ns).length < 64/\ns.length < 4000
noncomputable instance (ns:List Int):Decidable (fewS ns):=inferInstanceAs (Decidable (_/\_))
theorem qeN{ns:List Int}(h:ns.length < 64):fewS ns:=⟨Zu (q23 ns) h,by omega⟩
def rSortS(w:World):List V->Hp->VK->Prop:=λxs H Q=>∃ S ns,xs=[.ref S]/\H S=some (.ext (setP w S ns))/\fewS ns/\∀ l,H l=none->Q (.ref l) (upd H l (.lst ((Y1 ns).map V.int)))
section
variable {X:Cx}
theorem qbi{pins:List (Addr×Obj)}{σ:St}{H:Hp}{s:Shared}(I:L2.Inv X pins σ H s)(d:Drawn):L2.Inv X pins σ H { s with drawn:=d } :=
 ⟨I.ok,I.os,I.bare,I.base,I.loc,I.cell,I.free,I.freeC,I.pin,I.hok,I.len⟩
theorem qcQ(hc:X.calm=true):Xl X (.type "set") (rSet X.w):=by
 intro pins s σ H xs us Q I r h;obtain⟨p,ns,rfl,hp,hz,q⟩:=h;obtain⟨u,rfl,rx⟩:=vals1 r;cases rx;obtain⟨its,n,rv,e,_⟩:=I.lst hp;have ia:=q2s rv;have hlen:its.length=ns.length:=by rw[<- rv.length,zB]
 refine q8t (items:=its.toArray) (ns:=ns) (I.ok.hd hc) ⟨_,e,rfl,n,rfl⟩ (by simpa using ia) (by rw[zP,hlen];exact hz) λh' tk sv kp=>?_;have hsz:its.toArray.size=ns.length:=by rw[zP,hlen]
 rw[hsz] at sv;refine⟨.ref s.heap.objs.size,_,I.laid (t':=tk) (λb o e=>kp b o (zO e) e) (zJ _) (show Y3 X.prog X.w _ h' _ (.ext (setP X.w s.heap.objs.size ns)) from ⟨sv,?_,λh1 h2 a1 a2=>a1.at a2⟩),rfl,q _ (I.hok.fresh (zJ _))⟩;obtain⟨_,⟨o,_,_,_,e,_⟩,_⟩:=sv;exact⟨o,e⟩
theorem qa9(hc:X.calm=true):Xl X (.builtin "sorted") (rSortS X.w):=by
 intro pins s σ H xs us Q I r h;obtain⟨S,ns,rfl,hp,hz,q⟩:=h;obtain⟨u,rfl,rx⟩:=vals1 r;cases rx;obtain⟨⟨zs,SI,hl,hm⟩,_⟩:=I.hok S _ hp;obtain⟨o,es,ep,t,go,gx,gd,T,gl,gb,gg,gv,gn⟩:=id SI;have mz:∀ x,x∈zs↔x∈Y1 ns:=λx=>by
  rw[hm,q20]
  constructor
  ·rintro⟨i,hi,rfl⟩
   dsimp only
   rw[zS,zD hi];exact yU hi
  ·intro hx
   obtain⟨i,hi,e⟩:=ze.mp hx;exact⟨i,hi,by dsimp only;rw[zS,zD hi];exact e⟩
 have zl:=((wW gn ((q0H (ns:=ns)).imp λh=>by omega)).mpr mz).length_eq;refine qaj (I.ok.hd hc) SI (by rw[zl];exact hz.1) λD h' tk d vs ys n kp hD hg ia pm pw=>?_;have ey:ys=Y1 ns:=q8L (q8h pw (pm.nodup_iff.mpr gn)) q0H λx=>by rw[pm.mem_iff,mz]
 subst ey;have hvl:vs.length=(Y1 ns).length:=PyProof.Rows.IntsAre.length ia;have hsl:(Y1 ns).length <= sizeLine:=by
  have:=pm.length_eq;exact yG (show (Y1 ns).length <= 64 from yQ hz.1) (by decide)
 have I2:=qbi (I.laid (a:=D) (o:=.lst ((Y1 ns).map V.int)) (t':=tk) kp hD (show Y3 X.prog X.w _ h' _ (.lst _) from ⟨by rw[zB];exact hsl,vs,n,q0F ia,hg⟩)) d;exact⟨.ref D,_,I2,rfl,q _ (I.hok.fresh hD)⟩
noncomputable def intsOf:List D->Option (List Int)
 | []=>some []
 | .int i::r=>(intsOf r).map λl=>i::l
 | _=>none
theorem q0G:∀ {ds:List D} {ns:List Int},intsOf ds=some ns->ds=ns.map D.int
 | [],_,e=>by cases e;rfl
 | .int c::r,b,e=>by
  obtain⟨k,q,e⟩:=mpd e;subst e;rw[q0G q];rfl
 | .non::_,_,e=>by cases e
 | .bl _::_,_,e=>by cases e
 | .str _::_,_,e=>by cases e
 | .lst _::_,_,e=>by cases e
 | .tup _::_,_,e=>by cases e
 | .scr _::_,_,e=>by cases e
 | .exc _::_,_,e=>by cases e
 | .dic _ _::_,_,e=>by cases e
theorem q0o:∀ (ns:List Int),intsOf (ns.map D.int)=some ns
 | []=>rfl
 | n::r=>by show (intsOf (r.map D.int)).map _=_;rw[q0o r];rfl
noncomputable def zAX:D->Option R
 | .lst ds=>(intsOf ds).bind λns=>if fewS ns then some (.fr ((Y1 ns).map D.int)) else none
 | _=>none
noncomputable def Wd(f:FD):FE:=λω=>(f ω).bind zAX
theorem q9D{a:Expr}{f:FD}{p1 p2 q1 q2:Pos}(hg1:Gl X "sorted")(hm1:X.mg "sorted" = none)(hg2:Gl X "set")(hm2:X.mg "set" = none)(ha:XV X a f)(hc:X.calm=true:=by rfl)
  (he1:starEach [a] X.env=(false,eval a X.env)::starEach [] X.env:=by rfl) (hpl1:(backTo q2 (starEach [] X.env)).any (·.1)=false:=by rfl)
  (he2:starEach [.Call (.Name "set" p2) [a] [] q2] X.env=(false,eval (.Call (.Name "set" p2) [a] [] q2) X.env)::starEach [] X.env:=by rfl) (hpl2:(backTo q1 (starEach [] X.env)).any (·.1)=false:=by rfl) :
  XE X (.Call (.Name "sorted" p1) [.Call (.Name "set" p2) [a] [] q2] [] q1) (Wd f):=by
 obtain⟨t,h1,h2⟩:=ha;refine⟨_,q1b (qa9 hc) hg1 hm1 q1i (qr (q5V (qcQ hc) hg2 hm2 qeS (qr h1 qo he1) (by decide) (by decide) he1 hpl1) qo he2) (by decide) (by decide) he2 hpl2,λG0 H0 G ω σ H r Q o e k=>?_⟩;obtain⟨d,q,e⟩:=bnd e;refine h2 G0 H0 G ω σ H d _ o q λv G1 H1 x1 y1=>?_;cases d with
 | lst ds =>
  obtain⟨ns,e1,e2⟩:=bnd (show (intsOf ds).bind _=some r from e);have hds:=q0G e1;subst hds
  by_cases hz:fewS ns
  ·rw[if_pos hz] at e2
   cases e2;obtain⟨p,vs,rfl,g1,g2⟩:=y1.lst x1.gh;have hv:=g2.of_ints;subst hv;refine⟨p,ns,rfl,g1,by have:=hz.2;omega,λS hS=>?_⟩;refine⟨S,ns,rfl,qd,hz,λl hl=>?_⟩;have x2:=Ext.hide x1.gh hS (.ext (setP X.w S ns));have x3:=Ext.hide x2.gh hl (.lst ((Y1 ns).map V.int));exact k _ G1 _ ((x1.trans x2).trans x3) ⟨l,_,rfl,(x1.trans x2).hh.free hl,x2.gh.free hl,qd,Yo.ints _⟩
  ·rw[if_neg hz] at e2;cases e2
 | _=>cases e
end
end Hk
namespace PySem.F
theorem noLenZip:typeLookup (.type "zip") "__len__" = pure none:=by rw[typeLookup_type,builtinLookup_eq_fast];kernel_rfl
theorem noHintZip:typeLookup (.type "zip") "__length_hint__" = pure none:=by rw[typeLookup_type,builtinLookup_eq_fast];kernel_rfl
end PySem.F
namespace Hk
open PySem PySem.Spec PyProof.Rows
section
variable {prog:Program} {w:World} {A:Around} {E:Value->Shared->Prop} {s:Shared}
abbrev Wq(h:Heap)(z TI TO:Addr)(f0 f1:Value):Prop:=h.get? z=some { cls:=.type "zip", dict:=none,data:=.fields #[f0,f1,.bool false,.ref TI,.ref TO],slots:=#[] }
theorem qcG{a:Addr}{Q:Option Obj->Shared->Prop}(h:Q (s.heap.get? a) s):wpAny (model prog w) A (loadIfAlive a) Q E s:=λ_ _ _=>h
theorem q8A{z TI TO t:Addr}{ot:Obj}{f1:Value}{Q:Bool->Shared->Prop}(hz:Wq s.heap z TI TO (rawInt t) f1)(ht:s.heap.get? t=some ot)
  (k:∀ h' f1',Wq h' z TI TO (rawInt t) f1'->xW z s.heap h'->Q false { s with heap:=h' }):wpAny (model prog w) A (Builtin.SmallTypes.ownedTupleIsFree (.ref z)) Q E s:=by
 unfold Builtin.SmallTypes.ownedTupleIsFree;refine wpAny_bind (wpAny_field hz rfl (x:=rawInt t) rfl ?_);show wpAny _ _ (loadIfAlive ((t:Int)).toNat >>= _) _ _ _;rw[yh];refine wpAny_bind (qcG ?_);rw[ht];show wpAny _ _ (field (.ref z) 1 >>= _) _ _ _;refine wpAny_bind (wpAny_field hz rfl (x:=f1) rfl ?_);refine wpAny_ite_split (λ_=>?_) (λ_=>?_)
 ·refine wpAny_bind (wpAny_setField_rec hz (by simp) λh1 e1 sb=>wpAny_pure (k h1 (.bool true) e1 sb))
 ·exact wpAny_pure (k s.heap f1 hz (Z1 z s.heap))
theorem qbv{z TI TO i1 i2 l1 l2 t:Addr}{ot:Obj}{f1:Value}{k1 k2:Nat}{xs ys:Array Value}{x y:Value}{Q:Option Value->Shared->Prop}(D:ZipApart z TI TO i1 i2 l1 l2)
  (hz:Wq s.heap z TI TO (rawInt t) f1) (ht:s.heap.get? t=some ot) (hTI:IsPair s.heap TI (.ref i1) (.ref i2))
  (h1:s.heap.IsListIter i1 l1 k1) (h2:s.heap.IsListIter i2 l2 k2) (hl1:s.heap.IsList l1 xs) (hl2:s.heap.IsList l2 ys) (hx:xs[k1]?=some x) (hy:ys[k2]?=some y)
  (hQ:∀ h' f1',Wq h' z TI TO (rawInt t) f1'->h'.IsListIter i1 l1 (k1+1)->h'.IsListIter i2 l2 (k2+1)->IsPair h' s.heap.objs.size x y ->
   (∀ c o,c≠z->c≠i1->c≠i2->s.heap.get? c=some o->h'.get? c=some o)->Q (some (.ref s.heap.objs.size)) { s with heap:=h' }) :
  wpAny (model prog w) A (pyNext (.ref z)) Q E s:=by
 have hT:s.TypeIs (.ref z) "zip" := ⟨_,hz,rfl⟩;unfold pyNext;refine wpAny_bind (wpAny_attempt (wpAny_callSpecial?_slot (name:=Str.ofString "__next__") hT PySem.F.slot_zip_next (wpAny_call_entry PySem.F.slot_zip_next hT PySem.F.entry_zip_next ?_ (PySem.F.args_zip_next_1 _))));show wpAny _ _ (field (.ref z) 2 >>= _) _ _ _;refine wpAny_bind (wpAny_field hz rfl (x:=.bool false) rfl ?_);show wpAny _ _ (field (.ref z) 3 >>= _) _ _ _;refine wpAny_bind (wpAny_field hz rfl (x:=.ref TI) rfl ?_);refine wpAny_bind (wpAny_seqItems hTI rfl ?_);show wpAny _ _ (Builtin.SmallTypes.ownedTupleIsFree (.ref z) >>= _) _ _ _;refine wpAny_bind (q8A hz ht λh' f1' hz1 sb1=>?_);simp only[zy,if_false];have a1:=h1.extBut sb1.extBut D.i1z;have a2:=h2.extBut sb1.extBut D.i2z;have b1:=hl1.extBut sb1.extBut D.l1z;have b2:=hl2.extBut sb1.extBut D.l2z;rw[<- Zv];simp only[ZQ,YU];refine wpAny_bind (wpAny_bind (wpAny_bind (wpAny_holding ?_)));show wpAny _ _ (Builtin.SmallTypes.nextOf (.ref i1) >>= _) _ _ _;refine wpAny_bind (wpAny_nextOf_list_item a1 b1 hx λh₂ c1 sb2=>wpAny_pure ?_);refine wpAny_pure ?_;refine wpAny_bind (wpAny_bind (wpAny_holding ?_));show wpAny _ _ (Builtin.SmallTypes.nextOf (.ref i2) >>= _) _ _ _;refine wpAny_bind (wpAny_nextOf_list_item (a2.extBut sb2.extBut D.i12.symm) (b2.extBut sb2.extBut D.l2i1) hy λh₃ c2 sb3=>wpAny_pure ?_);refine wpAny_pure (wpAny_pure ?_);show wpAny _ _ (newTuple [x,y] >>= _) _ _ _;refine wpAny_bind (wpAny_newTuple ?_);have hsz:h₃.objs.size=s.heap.objs.size:=by rw[sb3.1,sb2.1,sb1.1]
 refine wpAny_pure ⟨_,rfl,wpAny_pure ?_⟩
 dsimp only
 rw[hsz];refine hQ _ f1' ?_ ?_ ?_ ?_ ?_
 ·exact zE _ (sb3.extBut _ _ D.i2z.symm (sb2.extBut _ _ D.i1z.symm hz1))
 ·exact(c1.extBut sb3.extBut D.i12).at λo e=>zE _ e
 ·exact c2.at λo e=>zE _ e
 ·have:=zR h₃ (o:={ cls:=.type "tuple", data:=.seq [x,y].toArray }) rfl
  rw[hsz] at this;exact this
 ·exact λc o n1 n2 n3 e=>zE _ (sb3.extBut _ _ n3 (sb2.extBut _ _ n2 (sb1.extBut _ _ n1 e)))
theorem qcC{z TI TO i1 i2 l1 l2 t:Addr}{ot:Obj}{f1:Value}{k1 k2:Nat}{xs ys:Array Value}{Q:Option Value->Shared->Prop}(hh:A.handled=none)(D:ZipApart z TI TO i1 i2 l1 l2)
  (hz:Wq s.heap z TI TO (rawInt t) f1) (ht:s.heap.get? t=some ot) (hTI:IsPair s.heap TI (.ref i1) (.ref i2))
  (h1:s.heap.IsListIter i1 l1 k1) (h2:s.heap.IsListIter i2 l2 k2) (hl1:s.heap.IsList l1 xs) (hl2:s.heap.IsList l2 ys) (hend:xs[k1]?=none\/ys[k2]?=none)
  (hQ:∀ h',(∀ c o,c≠z->c≠i1->c≠i2->s.heap.get? c=some o->h'.get? c=some o)->Q none { s with heap:=h' }) :
  wpAny (model prog w) A (pyNext (.ref z)) Q E s:=by
 have hT:s.TypeIs (.ref z) "zip" := ⟨_,hz,rfl⟩;unfold pyNext;refine wpAny_bind (wpAny_attempt (wpAny_callSpecial?_slot (name:=Str.ofString "__next__") hT PySem.F.slot_zip_next (wpAny_call_entry PySem.F.slot_zip_next hT PySem.F.entry_zip_next ?_ (PySem.F.args_zip_next_1 _))));show wpAny _ _ (field (.ref z) 2 >>= _) _ _ _;refine wpAny_bind (wpAny_field hz rfl (x:=.bool false) rfl ?_);show wpAny _ _ (field (.ref z) 3 >>= _) _ _ _;refine wpAny_bind (wpAny_field hz rfl (x:=.ref TI) rfl ?_);refine wpAny_bind (wpAny_seqItems hTI rfl ?_);show wpAny _ _ (Builtin.SmallTypes.ownedTupleIsFree (.ref z) >>= _) _ _ _;refine wpAny_bind (q8A hz ht λh' f1' hz1 sb1=>?_);simp only[zy,if_false];have a1:=h1.extBut sb1.extBut D.i1z;have a2:=h2.extBut sb1.extBut D.i2z;have b1:=hl1.extBut sb1.extBut D.l1z;have b2:=hl2.extBut sb1.extBut D.l2z;rw[<- Zv];simp only[ZQ,YU];refine wpAny_bind (wpAny_bind (wpAny_bind (wpAny_holding ?_)));show wpAny _ _ (Builtin.SmallTypes.nextOf (.ref i1) >>= _) _ _ _;cases hx:xs[k1]? with
 | none =>
  refine wpAny_bind (wpAny_nextOf_list_end hh a1 b1 hx λh₂ e sb2 he=>?_);obtain⟨o,ho,hc⟩:=he;refine wpAny_bind (wpAny_isInstance (T := "StopIteration") (b:=true) ⟨o,ho,hc⟩ isSubtype_stop ?_);exact wpAny_pure (hQ _ λc o n1 n2 n3 e=>sb2 _ _ n2 (sb1.extBut _ _ n1 e))
 | some x =>
  have hy:ys[k2]?=none:=by rcases hend with h|h;rw[hx] at h;cases h;exact h
  refine wpAny_bind (wpAny_nextOf_list_item a1 b1 hx λh₂ c1 sb2=>wpAny_pure ?_);refine wpAny_pure ?_;refine wpAny_bind (wpAny_bind (wpAny_holding ?_));show wpAny _ _ (Builtin.SmallTypes.nextOf (.ref i2) >>= _) _ _ _;refine wpAny_bind (wpAny_nextOf_list_end hh (a2.extBut sb2.extBut D.i12.symm) (b2.extBut sb2.extBut D.l2i1) hy λh₃ e sb3 he=>?_);obtain⟨o,ho,hc⟩:=he;refine wpAny_bind (wpAny_isInstance (T := "StopIteration") (b:=true) ⟨o,ho,hc⟩ isSubtype_stop ?_);exact wpAny_pure (hQ _ λc o n1 n2 n3 e=>sb3 _ _ n3 (sb2.extBut _ _ n2 (sb1.extBut _ _ n1 e)))
structure ZSt (h0:Heap) (S z TI TO i1 i2 l1 l2:Addr) (xs ys:Array Value) (ts:List Addr) (h:Heap):Prop where
 zip:(ts=[]/\Wq h z TI TO .none (.bool false))\/∃ t f1,t∈ts/\Wq h z TI TO (rawInt t) f1
 pTI:IsPair h TI (.ref i1) (.ref i2)
 pTO:∃ a b,IsPair h TO a b
 it1:h.IsListIter i1 l1 ts.length
 it2:h.IsListIter i2 l2 ts.length
 hl1:h.IsList l1 xs
 hl2:h.IsList l2 ys
 tups:∀ (j:Nat) t,ts[j]?=some t->∃ x y,xs[j]?=some x/\ys[j]?=some y/\IsPair h t x y
 old:∀ t∈ts,t≠S/\t≠z/\t≠TO/\t≠i1/\t≠i2
 nd:ts.Nodup
 new:∀ t∈ts,h0.objs.size <= t
 keep:∀ b o,b≠S->h0.get? b=some o->h.get? b=some o
theorem qcJ{h0:Heap}{S z TI TO i1 i2 l1 l2:Addr}{xs ys:Array Value}{ts:List Addr}{Q:Option Value->Shared->Prop}(D:ZipApart z TI TO i1 i2 l1 l2)(hf:∀ b∈[z,TO,i1,i2],h0.get? b=none)(hS:S∉[z,TI,TO,i1,i2,l1,l2])(Z:ZSt h0 S z TI TO i1 i2 l1 l2 xs ys ts s.heap)(hSo:∃ o,s.heap.get? S=some o)(hsz:h0.objs.size <= s.heap.objs.size)
  (hlt:ts.length < min xs.size ys.size)
  (k:∀ h' t,ZSt h0 S z TI TO i1 i2 l1 l2 xs ys (ts++[t]) h'->(∀ o,s.heap.get? S=some o->h'.get? S=some o)->s.heap.objs.size <= h'.objs.size->Q (some (.ref t)) { s with heap:=h' }) :
  wpAny (model prog w) A (pyNext (.ref z)) Q E s:=by
 have hix:ts.length < xs.size:=zv hlt (wQ ..);have hiy:ts.length < ys.size:=zv hlt (YF ..);obtain⟨a,b,hTO⟩:=Z.pTO;obtain⟨oS,hoS⟩:=hSo;have gx:=zx hix;have gy:=zx hiy;simp only[zF,zi,or_false,not_or] at hS;have nz:∀ b o,h0.get? b=some o->b≠z/\b≠TO/\b≠i1/\b≠i2:=λb o e =>
  ⟨λq=>(by have:=hf z (by simp);rw[q,this] at e;cases e),λq=>(by have:=hf TO (by simp);rw[q,this] at e;cases e),λq=>(by have:=hf i1 (by simp);rw[q,this] at e;cases e),λq=>(by have:=hf i2 (by simp);rw[q,this] at e;cases e)⟩
 have fin:∀ (h':Heap) (f1:Value) (u:Addr),u∈ts++[s.heap.objs.size]->Wq h' z TI TO (rawInt u) f1->(∃ a b,IsPair h' TO a b)->h'.IsListIter i1 l1 (ts.length+1)->h'.IsListIter i2 l2 (ts.length+1)->IsPair h' s.heap.objs.size xs[ts.length] ys[ts.length] ->
   (∀ c o,c≠z->c≠TO->c≠i1->c≠i2->s.heap.get? c=some o->h'.get? c=some o)->Q (some (.ref s.heap.objs.size)) { s with heap:=h' }:=λh' f1 u hu g1 g2 g3 g4 g5 g6=>by
  refine k h' _ ⟨.inr ⟨u,f1,hu,g1⟩,g6 _ _ D.TIz D.TITO D.TIi1 D.TIi2 Z.pTI,g2,by rw[zC];exact g3,by rw[zC];exact g4,Z.hl1.at λo e=>g6 _ o D.l1z D.l1TO D.l1i1 D.l1i2 e,Z.hl2.at λo e=>g6 _ o D.l2z D.l2TO D.l2i1 D.l2i2 e,λj t ht=>?_,λt ht=>?_,?_,λt ht=>?_,λb o hb e=>?_⟩ (λo e=>?_) (yQ (zO g5))
  ·rcases zu j ts.length with y|y
   ·rw[zc y] at ht
    obtain⟨p,q,r1,r2,r3⟩:=Z.tups j t ht;have ho:=Z.old t (z7 ht);exact⟨p,q,r1,r2,g6 _ _ ho.2.1 ho.2.2.1 ho.2.2.2.1 ho.2.2.2.2 r3⟩
   ·rw[zW y] at ht
    have hj:j=ts.length:=by
     rcases zu (j - ts.length) 1 with c|c
     ·omega
     ·rw[zn (by simpa using c)] at ht;cases ht
    subst hj;rw[wH] at ht;cases ht;exact⟨_,_,gx,gy,g5⟩
  ·rcases zN.mp ht with ht|ht
   ·exact Z.old t ht
   ·rw[zT.mp ht]
    have lt:∀ {c o},s.heap.get? c=some o->s.heap.objs.size≠c:=λe=>xp (zO e);refine⟨lt hoS,?_,lt hTO,?_,?_⟩
    ·rcases Z.zip with⟨_,e⟩|⟨_,_,_,e⟩ <;> exact lt e
    ·obtain⟨_,e,_⟩:=Z.it1;exact lt e
    ·obtain⟨_,e,_⟩:=Z.it2;exact lt e
  ·refine yV.mpr ⟨Z.nd,by simp,λa ha b hb=>?_⟩
   rw[zT.mp hb];intro e;obtain⟨j,hj,ej⟩:=ze.mp ha;obtain⟨_,_,_,_,et⟩:=Z.tups j a (by rw[zD hj,ej]);exact absurd (zO et) (by rw[e];exact xg _)
  ·rcases zN.mp ht with ht|ht
   ·exact Z.new t ht
   ·rw[zT.mp ht];exact hsz
  ·obtain⟨n1,n2,n3,n4⟩:=nz b o e
   exact g6 b o n1 n2 n3 n4 (Z.keep b o hb e)
  ·exact g6 S o hS.1 hS.2.2.1 hS.2.2.2.1 hS.2.2.2.2.1 e
 rcases Z.zip with⟨_,hz⟩|⟨t,f1,ht,hz⟩
 ·exact wpAny_pyNext_zip_item D hz Z.pTI hTO Z.it1 Z.it2 Z.hl1 Z.hl2 gx gy λh' a1 a2 a3 a4 a5 a6 a7=>fin h' _ _ (by simp) a1 ⟨_,_,a2⟩ a3 a4 a5 a7
 ·obtain⟨j,hj,ej⟩:=ze.mp ht
  obtain⟨_,_,_,_,et⟩:=Z.tups j t (by rw[zD hj,ej]);refine qbv D hz et Z.pTI Z.it1 Z.it2 Z.hl1 Z.hl2 gx gy λh' f1' a1 a3 a4 a5 a7=>fin h' f1' t (zV _ ht) a1 ⟨a,b,?_⟩ a3 a4 a5 λc o n1 _ n3 n4 e=>a7 c o n1 n3 n4 e;exact a7 _ _ D.TOz D.TOi1 D.TOi2 hTO
theorem qek{h0:Heap}{S z TI TO i1 i2 l1 l2:Addr}{xs ys:Array Value}{ts:List Addr}{Q:Option Value->Shared->Prop}(hh:A.handled=none)(D:ZipApart z TI TO i1 i2 l1 l2)(Z:ZSt h0 S z TI TO i1 i2 l1 l2 xs ys ts s.heap)
  (hlt:ts.length=min xs.size ys.size)
  (k:∀ h',(∀ c o,c≠z->c≠TO->c≠i1->c≠i2->s.heap.get? c=some o->h'.get? c=some o)->Q none { s with heap:=h' }) :
  wpAny (model prog w) A (pyNext (.ref z)) Q E s:=by
 obtain⟨a,b,hTO⟩:=Z.pTO;have hend:xs[ts.length]?=none\/ys[ts.length]?=none:=by
  rcases Z3 xs.size ys.size with h|h
  ·left;exact yX (by omega)
  ·right;exact yX (by omega)
 rcases Z.zip with⟨_,hz⟩|⟨t,f1,ht,hz⟩
 ·exact wpAny_pyNext_zip_end hh D hz Z.pTI hTO Z.it1 Z.it2 Z.hl1 Z.hl2 hend λh' g=>k h' g
 ·obtain⟨j,hj,ej⟩:=ze.mp ht
  obtain⟨_,_,_,_,et⟩:=Z.tups j t (by rw[zD hj,ej]);exact qcC hh D hz et Z.pTI Z.it1 Z.it2 Z.hl1 Z.hl2 hend λh' g=>k h' λc o n1 _ n3 n4 e=>g c o n1 n3 n4 e
end
end Hk
namespace Hk
open PySem PySem.Spec PySem.W PyProof.Rows
section
variable {prog:Program} {w:World} {A:Around} {E:Value->Shared->Prop} {R:Result->Shared->Prop} {s:Shared}
abbrev Wf(h:Heap)(S:Addr)(acc:Array Value)(c:Nat):Prop:=h.get? S=some { cls:=.type "list", dict:=none,data:=.seq acc c,slots:=#[] }
theorem q68{h0 h h':Heap}{S z TI TO i1 i2 l1 l2:Addr}{xs ys:Array Value}{ts:List Addr}(hS:S∉[z,TI,TO,i1,i2,l1,l2])(Z:ZSt h0 S z TI TO i1 i2 l1 l2 xs ys ts h)(k:∀ b o,b≠S->h.get? b=some o->h'.get? b=some o) :
  ZSt h0 S z TI TO i1 i2 l1 l2 xs ys ts h':=by
 simp only[zF,zi,or_false,not_or] at hS;obtain⟨s1,s2,s3,s4,s5,s6,s7⟩:=hS;refine⟨?_,k _ _ (Ne.symm s2) Z.pTI,?_,Z.it1.at λo e=>k _ o (Ne.symm s4) e,Z.it2.at λo e=>k _ o (Ne.symm s5) e,Z.hl1.at λo e=>k _ o (Ne.symm s6) e,Z.hl2.at λo e=>k _ o (Ne.symm s7) e,λj t ht=>?_,Z.old,Z.nd,Z.new,λb o hb e=>k b o hb (Z.keep b o hb e)⟩
 ·rcases Z.zip with⟨e1,e2⟩|⟨t,f1,e1,e2⟩
  ·exact .inl ⟨e1,k _ _ (Ne.symm s1) e2⟩
  ·exact .inr ⟨t,f1,e1,k _ _ (Ne.symm s1) e2⟩
 ·obtain⟨a,b,e⟩:=Z.pTO
  exact⟨a,b,k _ _ (Ne.symm s3) e⟩
 ·obtain⟨x,y,a1,a2,a3⟩:=Z.tups j t ht
  exact⟨x,y,a1,a2,k _ _ (Z.old t (z7 ht)).1 a3⟩
theorem qcf{h0:Heap}{S z TI TO i1 i2 l1 l2:Addr}{xs ys:Array Value}{res:Value}(hh:A.handled=none)(D:ZipApart z TI TO i1 i2 l1 l2)(hf:∀ b∈[z,TO,i1,i2],h0.get? b=none)(hS:S∉[z,TI,TO,i1,i2,l1,l2])(hn:min xs.size ys.size <= sizeLine)(g0:Array GenState)(d0:Drawn)(o0)
  (hR:∀ (h':Heap) (tk:Nat) (ts:List Addr) (c:Nat),ts.length=min xs.size ys.size->ts.Nodup->(∀ t∈ts,t≠S/\h0.objs.size <= t)->Wf h' S (ts.map Value.ref).toArray c->(∀ b o,b≠S->h0.get? b=some o->h'.get? b=some o)->(∀ (j:Nat) t,ts[j]?=some t->∃ x y,xs[j]?=some x/\ys[j]?=some y/\IsPair h' t x y)->R (.ok (.ret res)) ⟨h',g0,d0,tk,o0⟩) :
  ∀ (k:Nat) (h:Heap) (tk:Nat) (ts:List Addr) (c:Nat),min xs.size ys.size - ts.length=k->ts.length <= min xs.size ys.size->ZSt h0 S z TI TO i1 i2 l1 l2 xs ys ts h->Wf h S (ts.map Value.ref).toArray c->h0.objs.size <= h.objs.size ->
   codeAny (model prog w) A (.builtin "list.extend.loop" ⟨[.ref S,.ref z,res],[]⟩) R ⟨h,g0,d0,tk,o0⟩:=by
 have hS':=hS;simp only[zF,zi,or_false,not_or] at hS';have nz:∀ b o,h0.get? b=some o->b≠z/\b≠TO/\b≠i1/\b≠i2:=λb o e =>
  ⟨λq=>(by have:=hf z (by simp);rw[q,this] at e;cases e),λq=>(by have:=hf TO (by simp);rw[q,this] at e;cases e),λq=>(by have:=hf i1 (by simp);rw[q,this] at e;cases e),λq=>(by have:=hf i2 (by simp);rw[q,this] at e;cases e)⟩
 intro k
 induction k with
 | zero =>
  intro h tk ts c hk hi Z hl hsz;have hin:ts.length=min xs.size ys.size:=by omega
  refine codeAny_builtin PySem.F.entry_extend_loop ?_;rw[Around.under_plainId PySem.F.plain_extend_loop _];show wpAny _ A.in1 (pyNext (.ref z) >>= _) _ _ _;refine wpAny_bind (qek (A:=A.in1) hh D Z hin λh' g=>?_);refine wpAny_pure (hR h' tk ts c hin Z.nd (λt ht=>⟨(Z.old t ht).1,Z.new t ht⟩) (g _ _ hS'.1 hS'.2.2.1 hS'.2.2.2.1 hS'.2.2.2.2.1 hl) (λb o hb e=>?_) λj t ht=>?_)
  ·obtain⟨n1,n2,n3,n4⟩:=nz b o e
   exact g b o n1 n2 n3 n4 (Z.keep b o hb e)
  ·obtain⟨x,y,a1,a2,a3⟩:=Z.tups j t ht
   have ho:=Z.old t (z7 ht);exact⟨x,y,a1,a2,g _ _ ho.2.1 ho.2.2.1 ho.2.2.2.1 ho.2.2.2.2 a3⟩
 | succ k ih =>
  intro h tk ts c hk hi Z hl hsz;have hlt:ts.length < min xs.size ys.size:=by omega
  refine codeAny_builtin PySem.F.entry_extend_loop ?_;rw[Around.under_plainId PySem.F.plain_extend_loop _];show wpAny _ A.in1 (pyNext (.ref z) >>= _) _ _ _;refine wpAny_bind (qcJ (A:=A.in1) D hf hS Z ⟨_,hl⟩ hsz hlt λh' t Z' hk' hsz'=>?_);have hl':=hk' _ hl;show wpAny _ A.in1 (updateSeq S (·.push (.ref t)) >>= _) _ _ _;refine wpAny_bind ?_;have sz:(ts.map Value.ref).toArray.size=ts.length:=by simp
  have e:=get?_update_seq hl' (·.push (Value.ref t));have e2:(ts.map Value.ref).toArray.push (.ref t)=((ts++[t]).map Value.ref).toArray:=by simp
  rw[e2] at e;refine wpAny_updateSeq hl' rfl (wpAny_pure ⟨plainId_quiet PySem.F.plain_extend_loop _,ih _ _ (ts++[t]) _ (by rw[zC,zU];omega) (by rw[zC,zU];omega) (q68 hS Z' λb o hb e=>?_) e (by rw[xJ];exact yG hsz hsz')⟩)
   (by rw[sz];omega) (by show ((ts.map Value.ref).toArray.push (.ref t)).size <= sizeLine+1;rw[ZP,sz];omega)
  exact(zk _ _ (Ne.symm hb)).trans e
theorem q9w{h0:Heap}{S z TI TO i1 i2 l1 l2:Addr}{xs ys:Array Value}{res:Value}{c₀:Nat}(hh:A.handled=none)(D:ZipApart z TI TO i1 i2 l1 l2)(hf:∀ b∈[z,TO,i1,i2],h0.get? b=none)(hS:S∉[z,TI,TO,i1,i2,l1,l2])(hn:min xs.size ys.size <= sizeLine)
  (Z:ZSt h0 S z TI TO i1 i2 l1 l2 xs ys [] s.heap) (hl:Wf s.heap S #[] c₀) (hsz:h0.objs.size <= s.heap.objs.size)
  (hR:∀ (h':Heap) (tk:Nat) (ts:List Addr) (c:Nat),ts.length=min xs.size ys.size->ts.Nodup->(∀ t∈ts,t≠S/\h0.objs.size <= t)->Wf h' S (ts.map Value.ref).toArray c->(∀ b o,b≠S->h0.get? b=some o->h'.get? b=some o)->(∀ (j:Nat) t,ts[j]?=some t->∃ x y,xs[j]?=some x/\ys[j]?=some y/\IsPair h' t x y)->R (.ok (.ret res)) { s with heap:=h',toks:=tk }) :
  wpAny (model prog w) A.in1 (Builtin.List.listExtendWith (.ref S) (.ref z) res)
   (λfin s'=>match fin with|.done f=>R (.ok f) s'|.again c'=>c'.quiet=true/\codeAny (model prog w) A c' R s') (λe s'=>R (.error e) s') s:=by
 obtain⟨hp,g,d,tk,os⟩:=s;have hS':=hS;simp only[zF,zi,or_false,not_or] at hS';obtain⟨_,hz⟩|⟨t,_,ht,_⟩:=Z.zip
 rotate_left
 ·cases ht
 have hT:Shared.TypeIs ⟨hp,g,d,tk,os⟩ (.ref z) "zip" := ⟨_,hz,rfl⟩;unfold Builtin.List.listExtendWith;refine wpAny_bind (wpAny_typeOf (T := "zip") hT ?_);have h1:Builtin.List.listSameRef (.ref S) (.ref z)=false:=by simp[Builtin.List.listSameRef,hS'.1]
 have h2:(Value.type "zip" == Value.type "list")=false:=by decide
 have h3:(Value.type "zip" == Value.type "tuple")=false:=by decide
 simp only[h1,h2,h3,xy,zy,if_false];refine wpAny_bind (wpAny_pyIter_zip hz ?_);refine wpAny_bind (wpAny_holding ?_);unfold Builtin.List.listLengthHint;refine wpAny_bind (wpAny_specialOf hT PySem.F.noLenZip ?_);show wpAny _ A.in1 (specialOf (Value.ref z) (Str.ofString "__length_hint__") >>= _) _ _ _;refine wpAny_bind (wpAny_specialOf hT PySem.F.noHintZip ?_);refine wpAny_pure ?_;have key:∀ (h:Heap) (c₁:Nat),ZSt h0 S z TI TO i1 i2 l1 l2 xs ys [] h->Wf h S #[] c₁->h0.objs.size <= h.objs.size->codeAny (model prog w) A (.builtin "list.extend.loop" ⟨[.ref S,.ref z,res],[]⟩) R ⟨h,g,d,tk,os⟩ :=
  λh c₁ Z' hl' z'=>qcf hh D hf hS hn g d os (λh' tk' ts c a1 a2 a3 a4 a5 a6=>hR h' tk' ts c a1 a2 a3 a4 a5 a6) _ h tk [] c₁ rfl (zz _) Z' hl' z'
 refine wpAny_ite_split (λ_=>?_) (λ_=>wpAny_pure ⟨plainId_quiet PySem.F.plain_extend_loop _,key _ c₀ Z hl hsz⟩);refine wpAny_bind (wpAny_rule ?_);refine wpAny_bind ?_;show wpAny _ _ (updateSeq S (·.push .none) >>= λ_=>updateSeq S (·.pop)) _ _ _;refine wpAny_bind (wpAny_updateSeq hl rfl ?_);have hS₂:=xT (Obj.mapSeq (·.push Value.none)) hl rfl;refine wpAny_updateSeq (hz:=by seq_fits) hS₂ rfl ?_;have hS₃:=xT (Obj.mapSeq (·.pop)) hS₂ rfl;refine wpAny_pure ⟨plainId_quiet PySem.F.plain_extend_loop _,key _ _ (q68 hS Z λb o hb e=>?_) hS₃ (by rw[xJ,xJ];exact hsz)⟩;exact(zk _ _ (Ne.symm hb)).trans ((zk _ _ (Ne.symm hb)).trans e)
theorem qcK{l1 l2:Addr}{xs ys:Array Value}{Q:Value->Shared->Prop}{s0:Shared}(hh:A.handled=none)(hl1:s0.heap.IsList l1 xs)(hl2:s0.heap.IsList l2 ys)(hn:min xs.size ys.size <= sizeLine)
  (hz:IsZip s.heap (s0.heap.objs.size+4) (s0.heap.objs.size+2) (s0.heap.objs.size+3) .none) (hp1:IsPair s.heap (s0.heap.objs.size+2) (.ref s0.heap.objs.size) (.ref (s0.heap.objs.size+1))) (hp2:IsPair s.heap (s0.heap.objs.size+3) .none .none)
  (hi1:s.heap.IsListIter s0.heap.objs.size l1 0) (hi2:s.heap.IsListIter (s0.heap.objs.size+1) l2 0) (hs:s.heap.objs.size=s0.heap.objs.size+5) (hk:∀ c o,s0.heap.get? c=some o->s.heap.get? c=some o)
  (hQ:∀ (h':Heap) (tk:Nat) (S:Addr) (ts:List Addr) (c:Nat),s0.heap.objs.size <= S->ts.length=min xs.size ys.size->ts.Nodup->(∀ t∈ts,t≠S/\s0.heap.objs.size <= t)->Wf h' S (ts.map Value.ref).toArray c->(∀ b o,s0.heap.get? b=some o->h'.get? b=some o) ->
   (∀ (j:Nat) t,ts[j]?=some t->∃ x y,xs[j]?=some x/\ys[j]?=some y/\IsPair h' t x y)->Q (.ref S) { s with heap:=h',toks:=tk }) :
  wpAny (model prog w) A (call (.type "list") [.ref (s0.heap.objs.size+4)]) Q E s:=by
 refine callType_codes (Q₁:=λobj s₁=>obj=.ref s.heap.objs.size/\s₁={ s with heap:=s.heap.push { cls:=.type "list", data:=.seq #[] } }) PySem.F.called_list (PySem.F.typeCall_list_1 _) PySem.F.entry_list_init
  (code_list_new _ ⟨rfl,rfl⟩) λobj s₁ h₁=>?_
 obtain⟨rfl,rfl⟩:=h₁;have hS:(s.heap.push { cls:=.type "list", data:=.seq #[] }).get? s.heap.objs.size=some { cls:=.type "list", data:=.seq #[] }:=zR _ rfl;refine⟨⟨_,hS,rfl⟩,PySem.F.args_list_init_2 _ _,?_⟩;generalize hn0:s0.heap.objs.size=n at *;have e1:l1 < n:=by obtain⟨_,e,_⟩:=hl1;rw[<- hn0];exact zO e
 have e2:l2 < n:=by obtain⟨_,e,_⟩:=hl2;rw[<- hn0];exact zO e
 generalize hS0:s.heap.objs.size=S at *;have D:ZipApart (n+4) (n+2) (n+3) n (n+1) l1 l2:=by
  constructor <;> (intro q;simp only[Addr] at *;omega)
 have hSn:S∉[n+4,n+2,n+3,n,n+1,l1,l2]:=by
  simp only[zF,zi,or_false,not_or];refine⟨?_,?_,?_,?_,?_,?_,?_⟩ <;> (intro q;simp only[Addr] at *;omega)
 have hf:∀ b∈[n+4,n+3,n,n+1],s0.heap.get? b=none:=λb hb=>by
  cases q:s0.heap.get? b with
  | none=>rfl
  | some o =>
   have:=zO q;rw[hn0] at this;simp only[zF,zi,or_false] at hb;simp only[Addr] at *;omega
 show wpAny _ _ (do let old <- Builtin.List.listItems (.ref S);Builtin.List.listUpdate (.ref S) (λ_=>#[]);letGo old.toList.reverse;Builtin.List.listExtendWith (.ref S) (.ref (n+4)) .none) _ _ _;refine wpAny_bind ?_;unfold Builtin.List.listItems;refine wpAny_bind (wpAny_seqItems hS rfl (wpAny_pure ?_));show wpAny _ _ (updateSeq S (λ_=>#[]) >>= λ_=>letGo (#[]:Array Value).toList.reverse >>= λ_=>Builtin.List.listExtendWith (.ref S) (.ref (n+4)) .none) _ _ _;refine wpAny_bind (wpAny_updateSeq hS rfl ?_);have hS₂:=get?_update_seq hS (λ_=>(#[]:Array Value));have oth:∀ b o,b≠S->s.heap.get? b=some o->((s.heap.push { cls:=.type "list", data:=.seq #[] }).update S (Obj.mapSeq (λ_=>(#[]:Array Value)))).get? b=some o :=
  λb o hb e=>(zk _ _ (Ne.symm hb)).trans (zE _ e)
 refine wpAny_bind (wpAny_letGo ?_);have hSn':=hSn;simp only[zF,zi,or_false,not_or] at hSn';refine q9w (A:=A.in1) (h0:=s0.heap) hh D hf hSn hn ⟨.inl ⟨rfl,oth _ _ (Ne.symm hSn'.1) hz⟩,oth _ _ (Ne.symm hSn'.2.1) hp1,⟨_,_,oth _ _ (Ne.symm hSn'.2.2.1) hp2⟩,hi1.at λo e=>oth _ o (Ne.symm hSn'.2.2.2.1) e,hi2.at λo e=>oth _ o (Ne.symm hSn'.2.2.2.2.1) e,
  hl1.at λo e=>oth _ o (Ne.symm hSn'.2.2.2.2.2.1) (hk _ o e),hl2.at λo e=>oth _ o (Ne.symm hSn'.2.2.2.2.2.2) (hk _ o e),λj t ht=>(by simp at ht),λt ht=>(by simp at ht),xO,λt ht=>(by simp at ht),λb o hb e=>oth b o hb (hk b o e)⟩ hS₂ (by rw[xJ,yd,hn0,hS0];simp only[Addr] at *;omega) λh' tk ts c a1 a2 a3 a4 a5 a6=>?_
 rw[hn0] at a3;exact⟨rfl,hQ h' tk S ts c (by simp only[Addr] at *;omega) a1 a2 a3 a4 (λb o e=>a5 b o (λq=>by
  have:=zO e;rw[hn0,q] at this;simp only[Addr] at *;omega) e) a6⟩
end
end Hk
namespace Hk
open PySem L2
section
variable {X:Cx} {pins:List (Addr×Obj)} {σ:St} {H H':Hp} {s:Shared}
theorem qbN{h':Heap}{t':Nat}(I:L2.Inv X pins σ H s)(k:∀ b u,s.heap.get? b=some u->h'.get? b=some u)(hs:Yz H H')(hn:∀ b,H b=none->H' b≠none->s.heap.objs.size <= b)
  (new:∀ b u,H b=none->H' b=some u->Y3 X.prog X.w H' h' b u):L2.Inv X pins σ H' { s with heap:=h',toks:=t' }:=by
 refine I.un ⟨λb o q _ _ _=>k b o q,λb o q _ _ _=>⟨o.slots,k b o q⟩,λb o q n _=>?_,λb o q _=>⟨o,k b o q⟩,λb xs q=>hs _ _ q,λb o u q=>hs _ _ q,λb ps q=>⟨#[],by rw[hs _ _ q];simp⟩⟩ λb u e=>?_
 ·cases e:H' b with
  | none=>rfl
  | some u=>exact absurd (zO q) (YT.mpr (hn b n (by rw[e];exact λz=>by cases z)))
 ·cases q:H b with
  | none=>exact new b u q e
  | some u' =>
   have:=hs _ _ q;rw[e] at this;cases this;exact(I.hok b u q).stay (λc v _ z=>k c v z) (λc z=>hs _ _ z) λc xs z=>hs _ _ z
noncomputable def zAo(H:Hp):List Addr->List V->List V->Hp
 | t::ts,x::xs,y::ys=>upd (zAo H ts xs ys) t (.tup [x,y])
 | _,_,_=>H
theorem q1P{b:Addr}:∀ {ts:List Addr} {xs ys:List V},b∉ts->zAo H ts xs ys b=H b
 | [],_,_,_=>rfl
 | _::_,[],_,_=>rfl
 | _::_,_::_,[],_=>rfl
 | t::ts,x::xs,y::ys,h=>by
  rw[zF,not_or] at h;show upd _ t _ b=_;rw[qc h.1];exact q1P h.2
theorem q5t:∀ {ts:List Addr} {xs ys:List V} {j:Nat} {t:Addr} {x y:V},ts.Nodup->ts[j]?=some t->xs[j]?=some x->ys[j]?=some y->zAo H ts xs ys t=some (.tup [x,y])
 | [],_,_,_,_,_,_,_,h,_,_=>by simp at h
 | _::_,[],_,_,_,_,_,_,_,h,_=>by simp at h
 | _::_,_::_,[],_,_,_,_,_,_,_,h=>by simp at h
 | u::ts,a::xs,b::ys,0,t,x,y,n,h1,h2,h3=>by
  simp at h1 h2 h3;subst h1;subst h2;subst h3;exact qd
 | u::ts,a::xs,b::ys,j+1,t,x,y,n,h1,h2,h3=>by
  simp only[yq] at h1 h2 h3;obtain⟨n1,n2⟩:=yS.mp n;show upd _ u _ t=_;rw[qc (λe=>n1 (by rw[<- e];exact z7 h1))];exact q5t n2 h1 h2 h3
def rLZ:List V->Hp->VK->Prop:=λvs H2 Q=>∃ p q xs ys,vs=[.ref p,.ref q]/\H2 p=some (.lst xs)/\H2 q=some (.lst ys) /\
 ∀ (S:Addr) (ts:List Addr),H2 S=none->(∀ t∈ts,H2 t=none/\t≠S)->ts.Nodup->ts.length=min xs.length ys.length->Q (.ref S) (upd (zAo H2 ts xs ys) S (.lst (ts.map V.ref)))
theorem q3W:∀ {xs:List V} {us:List Value},Y2 xs us->∀ {j:Nat} {u:Value},us[j]?=some u->∃ x,xs[j]?=some x/\RelV x u
 | _,_,.nil,j,u,h=>by simp at h
 | _,_,.cons r1 r2,0,u,h=>by simp at h;subst h;exact⟨_,rfl,r1⟩
 | _,_,.cons r1 r2,j+1,u,h=>by
  simp only[yq] at h ⊢;exact q3W r2 h
theorem q6h:∀ (ts:List Addr),Y2 (ts.map V.ref) (ts.map Value.ref)
 | []=>.nil
 | t::r=>.cons rfl (q6h r)
theorem q9J{a b:Expr}{t:TA}{p1 p2 q1 q2:Pos}(hg1:Gl X "list")(hm1:X.mg "list" = none)(hg2:Gl X "zip")(hm2:X.mg "zip" = none)(ha:PA X [a,b] t)(hc:X.calm=true)
  (he1:starEach [a,b] X.env=(false,eval a X.env)::starEach [b] X.env) (hpl1:(backTo q2 (starEach [b] X.env)).any (·.1)=false)
  (he2:starEach [.Call (.Name "zip" p2) [a,b] [] q2] X.env=(false,eval (.Call (.Name "zip" p2) [a,b] [] q2) X.env)::starEach [] X.env) (hpl2:(backTo q1 (starEach [] X.env)).any (·.1)=false) :
  PE X (.Call (.Name "list" p1) [.Call (.Name "zip" p2) [a,b] [] q2] [] q1) (tCB rLZ t):=by
 intro pins s σ H Q I h;refine wpAny_Call_Name_kw (q0l I hg1 hm1 q3n ?_ (by decide) (by decide));refine PyProof.Rows.callWith_type1 ?_ he2 hpl2;rw[he2];show wpAny _ _ (spliced ((false,eval _ X.env)::backTo q1 (starEach [] X.env))) _ _ s;refine Calls.spliced_cons ?_;refine wpAny_Call_Name_kw (q0l I hg2 hm2 qfU ?_ (by decide) (by decide));refine PyProof.Rows.callWith_type1 (thn (ha q2 pins s σ H _ I h) λus s1 ⟨vs,H1,I1,r1,q1⟩=>?_) he1 hpl1
 ·obtain⟨p,q,xs,ys,rfl,hp,hq,k⟩:=q1
  obtain⟨u1,u2,rfl,e1,e2⟩:=vals2 r1;cases e1;cases e2;obtain⟨its1,n1,rv1,g1,z1⟩:=I1.lst hp;obtain⟨its2,n2,rv2,g2,z2⟩:=I1.lst hq;have il1:s1.heap.IsList p its1.toArray:=⟨_,g1,rfl,n1,rfl⟩;have il2:s1.heap.IsList q its2.toArray:=⟨_,g2,rfl,n2,rfl⟩;refine call_zip_2 il1 il2 λh' a1 a2 a3 a4 a5 a6 a7=>?_;refine Calls.spliced_nil ?_;have len1:its1.toArray.size=xs.length:=by rw[zP,rv1.length]
  have len2:its2.toArray.size=ys.length:=by rw[zP,rv2.length]
  refine qcK (s0:=s1) (I1.ok.hd hc) il1 il2 (by rw[len1];exact yG (wQ _ _) z1) a1 a2 a3 a4 a5 a6 a7 λh2 tk S ts c b1 b2 b3 b4 b5 b6 b7=>?_;rw[len1,len2] at b2;have fS:H1 S=none:=I1.hok.fresh b1;have ft:∀ t∈ts,H1 t=none:=λt ht=>I1.hok.fresh (b4 t ht).2;have hsame:Yz H1 (upd (zAo H1 ts xs ys) S (.lst (ts.map V.ref))):=λb u e=>by
   have nS:b≠S:=λz=>by rw[z,fS] at e;cases e
   have nt:b∉ts:=λz=>by rw[ft b z] at e;cases e
   rw[qc nS,q1P nt];exact e
  have tup:∀ (j:Nat) t,ts[j]?=some t->∃ x y,xs[j]?=some x/\ys[j]?=some y/\zAo H1 ts xs ys t=some (.tup [x,y])/\Y3 X.prog X.w (upd (zAo H1 ts xs ys) S (.lst (ts.map V.ref))) h2 t (.tup [x,y]):=λj t ht=>by
   obtain⟨x',y',c1,c2,c3⟩:=b7 j t ht;obtain⟨x,d1,d2⟩:=q3W rv1 (j:=j) (u:=x') (by simpa using c1);obtain⟨y,d3,d4⟩:=q3W rv2 (j:=j) (u:=y') (by simpa using c2);exact⟨x,y,d1,d3,q5t b3 ht d1 d3,⟨by show 2 <= sizeLine;decide,[x',y'],.cons d2 (.cons d4 .nil),⟨_,c3,rfl,_,rfl⟩⟩⟩
  refine⟨.ref S,_,qbN (s:=s1) (t':=tk) I1 b6 hsame (λb n1 n2=>?_) (λb u n1 n2=>?_),rfl,k S ts fS (λt ht=>⟨ft t ht,(b4 t ht).1⟩) b3 b2⟩
  ·by_cases e:b=S
   ·rw[e];exact b1
   ·by_cases e':b∈ts
    ·exact(b4 b e').2
    ·rw[qc e,q1P e'] at n2;exact absurd n1 n2
  ·by_cases e:b=S
   ·subst e
    rw[qd] at n2;cases n2;refine⟨?_,ts.map Value.ref,c,q6h ts,b5⟩;rw[zB,b2];exact yG (wQ _ _) z1
   ·by_cases e':b∈ts
    ·obtain⟨j,hj,ej⟩:=ze.mp e'
     obtain⟨x,y,_,_,m1,m2⟩:=tup j b (by rw[zD hj,ej]);rw[qc e,m1] at n2;cases n2;exact m2
    ·rw[qc e,q1P e',n1] at n2;cases n2
noncomputable def pairD(x y:D):D:=.tup [x,y]
noncomputable def WB:List D->Option R
 | [.lst xs,.lst ys]=>some (.fr (ZI pairD xs ys))
 | _=>none
theorem q3a{K:zA}{G:Hp}:∀ {ds:List D} {ts:List Addr},ds.length=ts.length->(∀ (j:Nat) d t,ds[j]?=some d->ts[j]?=some t->Rep K G d (.ref t))->Yo K G ds (ts.map V.ref)
 | [],[],_,_=>rfl
 | [],_::_,h,_=>by simp at h
 | _::_,[],h,_=>by simp at h
 | d::ds,t::ts,h,f=>⟨.ref t,_,rfl,f 0 d t rfl rfl,q3a (by simpa using h) λj e u h1 h2=>f (j+1) e u (by simpa using h1) (by simpa using h2)⟩
theorem q9v{K:zA}:WO K rLZ WB:=by
 intro G H ds vs d Q s e hv k
 match ds,e with
 | [.lst xs,.lst ys],e =>
  cases e;obtain⟨v,u,rfl,h,h'⟩:=hv.two;obtain⟨p,us,rfl,h1,h2⟩:=h.lst s;obtain⟨q,ws,rfl,h3,h4⟩:=h'.lst s;refine⟨p,q,us,ws,rfl,h1,h3,λS ts hS ht nd hl=>?_⟩
  let G':Hp:=λb=>if b∈ts then zAo H ts us ws b else G b
  have hout:∀ b,b∉ts->G' b=G b:=λb z=>if_neg z;have hin:∀ b,b∈ts->G' b=zAo H ts us ws b:=λb z=>if_pos z;have gg:Yz G G':=λb o z=>by
   have n:b∉ts:=λy=>by rw[s.free (ht b y).1] at z;cases z
   rw[hout b n];exact z
  have hh:Yz H (upd (zAo H ts us ws) S (.lst (ts.map V.ref))):=λb o z=>by
   have nS:b≠S:=λy=>by rw[y,hS] at z;cases z
   have n:b∉ts:=λy=>by rw[(ht b y).1] at z;cases z
   rw[qc nS,q1P n];exact z
  have gh:Yz G' (upd (zAo H ts us ws) S (.lst (ts.map V.ref))):=λb o z=>by
   by_cases y:b∈ts
   ·rw[hin b y] at z
    rw[qc (ht b y).2];exact z
   ·rw[hout b y] at z
    exact hh b o (s _ _ z)
  have x:Ext G H G' (upd (zAo H ts us ws) S (.lst (ts.map V.ref))):=⟨gg,gh,hh,λb z1 z2=>by
   have n:b∉ts:=λy=>z2 (ht b y).1;rw[hout b n];exact z1⟩
  have nS:S∉ts:=λy=>(ht S y).2 rfl;refine k _ G' _ x ⟨S,_,rfl,hS,by rw[hout S nS];exact s.free hS,qd,q3a ?_ λj d t e1 e2=>?_⟩
  ·rw[List.length_zipWith,hl,h2.len,h4.len]
  ·rw[List.getElem?_zipWith] at e1
   cases q1:xs[j]? with
   | none=>rw[q1] at e1;cases e1
   | some a =>
    cases q2:ys[j]? with
    | none=>rw[q1,q2] at e1;cases e1
    | some b =>
     rw[q1,q2] at e1;cases e1;obtain⟨va,y1,y2⟩:=h2.get q1;obtain⟨vb,y3,y4⟩:=h4.get q2;refine⟨t,[va,vb],rfl,?_,Yo.cons (y2.mono gg) (Yo.cons (y4.mono gg) Yo.nil)⟩;rw[hin t (z7 e2)];exact q5t nd e2 y1 y3
theorem q9S{a b:Expr}{g:FA}{p1 p2 q1 q2:Pos}(hg1:Gl X "list")(hm1:X.mg "list" = none)(hg2:Gl X "zip")(hm2:X.mg "zip" = none)(ha:XVA X [a,b] g)(hc:X.calm=true:=by rfl)
  (he1:starEach [a,b] X.env=(false,eval a X.env)::starEach [b] X.env:=by rfl) (hpl1:(backTo q2 (starEach [b] X.env)).any (·.1)=false:=by rfl)
  (he2:starEach [.Call (.Name "zip" p2) [a,b] [] q2] X.env=(false,eval (.Call (.Name "zip" p2) [a,b] [] q2) X.env)::starEach [] X.env:=by rfl) (hpl2:(backTo q1 (starEach [] X.env)).any (·.1)=false:=by rfl) :
  XE X (.Call (.Name "list" p1) [.Call (.Name "zip" p2) [a,b] [] q2] [] q1) (X5 WB g):=by
 obtain⟨t,h1,h2⟩:=ha;exact⟨_,q9J hg1 hm1 hg2 hm2 h1 hc he1 hpl1 he2 hpl2,q5F q9v h2⟩
end
section
variable {X:Cx}
end
noncomputable def whD(c:FT)(b:FS):Nat->FS
 | 0=>λ_=>none
 | n+1=>λω=>(c ω).bind λk=>if k=true then (b ω).bind (λp=>match p.1 with
   | .nx=>whD c b n p.2
   | .ct=>whD c b n p.2
   | .bk=>some (.nx,p.2)
   | .rt r=>some (.rt r,p.2)) else some (.nx,ω)
noncomputable def sWh(n:Nat)(c:FT)(b:FS):FS:=whD c b n
section
variable {X:Cx} {c:Expr} {body:List Stmt} {fc:FT} {fb:FS} {pos:Pos} {n:Nat}
theorem qbF{K:zA}{t:TT}{u:TS}(h2:zAU K t fc)(h4:SimS K u fb):SimS K (zBI t u) (sWh n fc fb):=by
 intro G0 H0 G ω σ H out ω' E o e k;refine⟨λm σ1 H1=>∃ G1 ω1,Own K G0 H0 G1 ω1 σ1 H1/\Yz G G1/\whD fc fb m ω1=some (out,ω'),⟨n,G,ω,o,Yz.refl _,e⟩,λm σ1 H1 ⟨G1,ω1,o1,g1,e1⟩=>?_⟩;cases m with
 | zero=>cases e1
 | succ m =>
  obtain⟨b,q,e1⟩:=bnd e1;refine h2 G0 H0 G1 ω1 σ1 H1 b _ o1 q λG2 H2 x2=>?_;cases b with
  | false=>cases e1;exact k G2 σ1 H2 (o1.keep x2) (g1.trans x2.gg)
  | true =>
   rw[if_pos rfl];rw[if_pos rfl] at e1;obtain⟨⟨o3,ω3⟩,q3,e1⟩:=bnd e1;refine⟨λσ' H'=>∃ G1 ω1,Own K G0 H0 G1 ω1 σ' H'/\Yz G G1/\whD fc fb m ω1=some (out,ω'),λσ' H' z=>⟨m,yY m,z⟩,?_⟩;refine h4 G0 H0 G2 ω1 σ1 H2 o3 ω3 _ (o1.keep x2) q3 λG4 σ4 H4 o4 g4=>?_;have gg:=(g1.trans x2.gg).trans g4;cases o3 with
   | nx=>exact⟨G4,ω3,o4,gg,e1⟩
   | ct=>exact⟨G4,ω3,o4,gg,e1⟩
   | bk=>cases e1;exact k G4 σ4 H4 o4 gg
   | rt r=>cases e1;exact k G4 σ4 H4 o4 gg
theorem qcp(hp:PassesOwn (model X.prog X.w) X.A X.env X.xe)(hc:XT X c fc)(hb:XSs X body fb):XS X (.While c body [] pos) (sWh n fc fb):=by
 obtain⟨t,h1,h2⟩:=hc;obtain⟨u,h3,h4⟩:=hb;exact⟨_,q7E hp h1 h3,qbF h2 h4⟩
end
section
variable {fc:FT} {fb:FS}
def stepW(I:WSt->Prop)(μ:WSt->Nat)(m:Nat)(J:WSt->Prop)(o:Option (Out×WSt)):Prop:=match o with
 | some (.nx,w)=>I w/\μ w < m
 | some (.ct,w)=>I w/\μ w < m
 | some (.bk,w)=>J w
 | _=>False
theorem q7p(I:WSt->Prop)(μ:WSt->Nat)(J:WSt->Prop)(stop:∀ ω,I ω->fc ω=some false->J ω)(turn:∀ ω,I ω->∃ k,fc ω=some k/\(k=true->stepW I μ (μ ω) J (fb ω))) :
  ∀ (n:Nat) (ω:WSt),I ω->μ ω < n->∃ ω',whD fc fb n ω=some (.nx,ω')/\J ω'
 | 0,_,_,z=>absurd z (xz _)
 | n+1,ω,h,z=>by
  obtain⟨k,e,t⟩:=turn ω h;show ∃ ω',((fc ω).bind _)=_/\_;rw[e];cases k with
  | false=>exact⟨ω,rfl,stop ω h e⟩
  | true =>
   have t:=t rfl;rw[show ∀ (f:Bool->Option (Out×WSt)),(some true).bind f=f true from λ_=>rfl,if_pos rfl];cases q:fb ω with
   | none=>rw[q] at t;exact t.elim
   | some p =>
    rw[q] at t;obtain⟨o,w⟩:=p;cases o with
    | nx=>exact q7p I μ J stop turn n w t.1 (by have:=t.2;omega)
    | ct=>exact q7p I μ J stop turn n w t.1 (by have:=t.2;omega)
    | bk=>exact⟨w,rfl,t⟩
    | rt r=>exact t.elim
theorem qeQ{n:Nat}(I:WSt->Prop)(μ:WSt->Nat)(J:WSt->Prop)(stop:∀ ω,I ω->fc ω=some false->J ω)(turn:∀ ω,I ω->∃ k,fc ω=some k/\(k=true->stepW I μ (μ ω) J (fb ω)))
  {ω:WSt} (h:I ω) (z:μ ω < n):∃ ω',sWh n fc fb ω=some (.nx,ω')/\J ω':=q7p I μ J stop turn n ω h z
end
section
variable {X:Cx} {pos:Pos} {o:Expr} {apos cpos:Pos} {i:Nat}
end
noncomputable abbrev FM:=WSt->Option (D×WSt)
def SimM(K:zA)(t:TE)(f:FM):Prop:=∀ G0 H0 G ω σ H d ω' (Q:VK),Own K G0 H0 G ω σ H->f ω=some (d,ω') ->
 (∀ v G' H',Own K G0 H0 G' ω' σ H'->Yz G G'->Rep K G' d v->Q v H')->t σ H Q
def XM(X:Cx)(e:Expr)(f:FM):Prop:=∃ t,PE X e t/\SimM X.K t f
section
variable {X:Cx} {pos:Pos} {o e:Expr} {apos cpos pos':Pos} {i:Nat} {fd:FD} {f:FM}
noncomputable def zBj(i:Nat)(f:FM):FS:=λω=>(f ω).map λp=>(.nx,p.2.set i (some (.sh p.1)))
theorem qeF{x:Str}(hN:X.N.Nodup)(hi:X.N[i]?=some x)(hx:Loc X.env.scope x)(he:XM X e f)(hs:swapsWith e (some (.Name x pos')) pos.line X.env=pure false:=by rfl)(hf:X.fn x=true\/X.env.scope.names.lookup x=some .local:=by first|exact .inl rfl|exact .inr rfl|assumption) :
  XS X (.Assign [.Name x pos'] e pos) (zBj i f):=by
 obtain⟨t,h1,h2⟩:=he;refine⟨_,qT hN hi hx h1 hs hf,λG0 H0 G ω σ H out ω' E o e k=>?_⟩;unfold zBj at e;cases q:f ω with
 | none=>rw[q] at e;cases e
 | some p =>
  obtain⟨d,ω1⟩:=p;rw[q] at e;cases e;exact h2 G0 H0 G ω σ H d ω1 _ o q λv G1 H1 o1 g1 r1=>k G1 _ H1 (o1.setSh r1) g1
end
section
variable {X:Cx} {a b c:Expr} {pos:Pos} {fa fb fc:FD} {op op':CmpOp} {p p':Int->Int->Bool}
end
noncomputable def zCP(x:Int):List Int->List Int
 | []=>[x]
 | y::r=>if x <= y then x::y::r else y::zCP x r
noncomputable def Yt(ns:List Int):List Int:=ns.foldr zCP []
theorem q3g{x:Int}:∀ {l:List Int},(zCP x l).Perm (x::l)
 | []=>.refl _
 | y::r=>by
  unfold zCP
  by_cases h:x <= y
  ·rw[if_pos h]
  ·rw[if_neg h];exact(q3g.cons y).trans (.swap x y r)
theorem qq:∀ {l:List Int},(Yt l).Perm l
 | []=>.refl _
 | y::r=>q3g.trans ((qq (l:=r)).cons y)
theorem q8X{x:Int}:∀ {l:List Int},l.Pairwise (· <= ·)->(zCP x l).Pairwise (· <= ·)
 | [],_=>ZA _ _
 | y::r,h=>by
  obtain⟨h1,h2⟩:=zb.mp h;unfold zCP
  by_cases z:x <= y
  ·rw[if_pos z]
   refine zb.mpr ⟨λa ha=>?_,h⟩;cases ha with
   | head=>exact z
   | tail _ ha=>exact yP z (h1 a ha)
  ·rw[if_neg z]
   refine zb.mpr ⟨λa ha=>?_,q8X h2⟩;cases (q3g.mem_iff.mp ha:a∈x::r) with
   | head=>omega
   | tail _ ha=>exact h1 a ha
theorem q0m:∀ {l:List Int},(Yt l).Pairwise (· <= ·)
 | []=>.nil
 | y::r=>q8X (q0m (l:=r))
theorem q0N:∀ {l m:List Int},l.Pairwise (· <= ·)->m.Pairwise (· <= ·)->l.Perm m->l=m
 | [],m,_,_,p=>(List.Perm.nil_eq p)
 | a::l,m,h,h',p=>by
  cases m with
  | nil=>exact absurd p.length_eq (by simp)
  | cons b m =>
   obtain⟨h1,h2⟩:=zb.mp h;obtain⟨h3,h4⟩:=zb.mp h';have hab:a=b:=by
    have x1:a∈b::m:=p.mem_iff.mp (.head _);have x2:b∈a::l:=p.mem_iff.mpr (.head _);cases x1 with
    | head=>rfl
    | tail _ x1 =>
     cases x2 with
     | head=>rfl
     | tail _ x2=>have:=h3 a x1;have:=h1 b x2;omega
   subst hab;rw[q0N h2 h4 p.cons_inv]
theorem q3e(l:List Int):(Yt l).length=l.length:=qq.length_eq
theorem qbX{l m:List Int}:Yt l=Yt m↔l.Perm m :=
 ⟨λh=>qq.symm.trans (h▸qq),λh=>q0N q0m q0m ((qq.trans h).trans qq.symm)⟩
def rSortL:List V->Hp->VK->Prop:=λxs H Q=>∃ p ns,xs=[.ref p]/\H p=some (.lst (ns.map V.int))/\ns.length < 64/\∀ l,H l=none->Q (.ref l) (upd H l (.lst ((Yt ns).map V.int)))
noncomputable def zBx:D->Option R
 | .lst ds=>(intsOf ds).bind λns=>if ns.length < 64 then some (.fr ((Yt ns).map D.int)) else none
 | _=>none
noncomputable def zA0(f:FD):FE:=λω=>(f ω).bind zBx
section
variable {X:Cx}
theorem qaa:Xl X (.builtin "sorted") rSortL:=by
 intro pins s σ H xs us Q I r h;obtain⟨p,ns,rfl,hp,hz,q⟩:=h;obtain⟨u,rfl,rx⟩:=vals1 r;cases rx;obtain⟨its,n,rv,e,_⟩:=I.lst hp;have hlen:its.length=ns.length:=by rw[<- rv.length,zB]
 refine PyProof.Rows.sorted_ints ⟨_,e,rfl,n,rfl⟩ (q2s rv) (by omega) λout ns' a1 a2 a3=>?_;obtain⟨m,hm⟩:=PyProof.Rows.sortedAll_at s.heap its out;have en:ns'=Yt ns:=q0N a3 q0m (a2.trans qq.symm);subst en;have hsl:(Yt ns).length <= sizeLine:=by rw[q3e];exact yG (yQ hz) (by decide)
 have I2:=I.laid (a:=s.heap.objs.size+1) (o:=.lst ((Yt ns).map V.int)) (t':=s.toks) (λb o e=>PyProof.Rows.sortedAll_old e) (xA _)
  (show Y3 X.prog X.w _ (PyProof.Rows.sortedAll s.heap its out) _ (.lst _) from ⟨by rw[zB];exact hsl,out.toList,m,q0F a1,by rw[xb];exact hm⟩)
 exact⟨.ref _,_,I2,rfl,q _ (I.hok.fresh (xA _))⟩
theorem qdL{a:Expr}{f:FD}{p q:Pos}(hg:Gl X "sorted")(hm:X.mg "sorted" = none)(ha:XV X a f)
  (he:starEach [a] X.env=(false,eval a X.env)::starEach [] X.env:=by rfl) (hpl:(backTo q (starEach [] X.env)).any (·.1)=false:=by rfl):XE X (.Call (.Name "sorted" p) [a] [] q) (zA0 f):=by
 obtain⟨t,h1,h2⟩:=ha;refine⟨_,q1b qaa hg hm q1i (qr h1 qo he) (by decide) (by decide) he hpl,λG0 H0 G ω σ H r Q o e k=>?_⟩;obtain⟨d,z,e⟩:=bnd e;refine h2 G0 H0 G ω σ H d _ o z λv G1 H1 x1 y1=>?_;cases d with
 | lst ds =>
  obtain⟨ns,e1,e2⟩:=bnd (show (intsOf ds).bind _=some r from e);have hds:=q0G e1;subst hds
  by_cases hz:ns.length < 64
  ·rw[if_pos hz] at e2
   cases e2;obtain⟨p,vs,rfl,g1,g2⟩:=y1.lst x1.gh;have hv:=g2.of_ints;subst hv;refine⟨p,ns,rfl,g1,hz,λl hl=>?_⟩;have x2:=Ext.hide x1.gh hl (.lst ((Yt ns).map V.int));exact k _ G1 _ (x1.trans x2) ⟨l,_,rfl,x1.hh.free hl,x1.gh.free hl,qd,Yo.ints _⟩
  ·rw[if_neg hz] at e2;cases e2
 | _=>cases e
end
end Hk
namespace Hk
open PySem PySem.Spec PyProof.Rows
theorem zBW:typeLookup (.type "list_reverseiterator") "__len__" = pure none:=by rw[typeLookup_type,builtinLookup_eq_fast];kernel_rfl
theorem zCE:typeLookup (.type "list_reverseiterator") "__length_hint__" = pure (some (.builtin "list_reverseiterator.__length_hint__")):=by rw[typeLookup_type,builtinLookup_eq_fast];kernel_rfl
section
variable {prog:Program} {w:World} {A:Around} {E:Value->Shared->Prop} {s:Shared}
theorem qcd{r:Addr}{Q:Bool->Shared->Prop}(hT:s.TypeIs (.ref r) "list_reverseiterator")(h:Q false s):wpAny (model prog w) A (Builtin.List.listLengthHint (.ref r)) Q E s:=by
 unfold Builtin.List.listLengthHint;refine wpAny_bind (wpAny_specialOf hT zBW ?_);show wpAny _ A (specialOf (Value.ref r) (Str.ofString "__length_hint__") >>= _) _ _ _;refine wpAny_bind (wpAny_specialOf hT zCE ?_);generalize hid:("list_reverseiterator.__length_hint__" : String)=id0
 wp_delta
 rw[show splitId id0=some ("list_reverseiterator", "__length_hint__") from by subst hid;decide +kernel];subst hid;refine wpAny_bind (wpAny_isInstance (T := "list_reverseiterator") (b:=true) hT (by rw[isSubtype_type];kernel_rfl) ?_);refine wpAny_ite_split (λhab=>absurd hab (by decide)) (λ_=>?_);refine wpAny_ite_split (λ_=>?_) (λhab=>absurd (by decide +kernel) hab);refine wpAny_ite_split (λhab=>absurd hab (by decide +kernel)) (λ_=>?_);exact wpAny_pure h
theorem q9V{R:Result->Shared->Prop}{S I l:Addr}{items:Array Value}{res:Value}{c₀:Nat}(hh:A.handled=none)(hn:items.size <= sizeLine)(hSI:S≠I)(hSl:S≠l)(hne:l≠I)(hit:s.heap.IsRevIter I l ((items.size:Int) - 1))(hl:s.heap.IsList l items)
  (hS:Wf s.heap S #[] c₀) (hR:∀ (h':Heap) (tk:Nat) (c:Nat),(∀ b o,b≠S->b≠I->s.heap.get? b=some o->h'.get? b=some o)->Wf h' S items.reverse c->R (.ok (.ret res)) { s with heap:=h',toks:=tk }) :
  wpAny (model prog w) A.in1 (Builtin.List.listExtendWith (.ref S) (.ref I) res)
   (λfin s'=>match fin with|.done f=>R (.ok f) s'|.again c'=>c'.quiet=true/\codeAny (model prog w) A c' R s') (λe s'=>R (.error e) s') s:=by
 have W:=Walks.listRev (prog:=prog) (w:=w) (A:=A.in1) hh I l hne items;have hT:=hit.typeIs;have hSf:S∉[I,l]:=by simp[hSI,hSl]
 unfold Builtin.List.listExtendWith;refine wpAny_bind (wpAny_typeOf (T := "list_reverseiterator") hT ?_);rw[show Builtin.List.listSameRef (.ref S) (.ref I)=false by simp[Builtin.List.listSameRef,hSI],show (Value.type "list_reverseiterator" == Value.type "list")=false by decide,show (Value.type "list_reverseiterator" == Value.type "tuple")=false by decide];refine wpAny_ite_split (λhab=>absurd hab (by decide)) (λ_=>?_);refine wpAny_bind (wpAny_pyIter_revIter hit ?_);refine wpAny_bind (wpAny_holding (qcd hT ?_));refine wpAny_ite_split (λhab=>absurd hab (by decide)) (λ_=>?_);have st:0 <= items.size/\s.heap.IsRevIter I l ((items.size:Int) - 1 - ((0:Nat):Int))/\s.heap.IsList l items:=⟨zz _,by simpa using hit,hl⟩;refine wpAny_pure ⟨plainId_quiet PySem.F.plain_extend_loop _,codeAny_extend_loopS W.toS hn S hSf res items.size 0 _ #[] c₀ rfl (zz _) st hS (ItemsOf.nil _) λs' acc' c' hm hS' hacc=>?_⟩;rw[Moved.eq_with hm];have e:acc'=items.reverse:=by
  apply Array.ext_getElem?;intro j;rcases zu j items.size with z|z
  ·have hz:j < acc'.size:=by rw[hacc.1];exact z
   have q:acc'[j]?=some acc'[j]:=zx hz;rw[q,Array.getElem?_reverse z];exact(hacc.2 j _ q).symm
  ·rw[yX (by rw[hacc.1];exact z),yX (by rw[Array.size_reverse];exact z)]
 subst e;exact hR s'.heap s'.toks c' (λb o b1 b2 e=>hm.heap b o (by simp[b1,b2]) e) hS'
theorem qcB{l:Addr}{items:Array Value}{Q:Value->Shared->Prop}(hh:A.handled=none)(hn:items.size <= sizeLine)(hl:s.heap.IsList l items)
  (hQ:∀ (h':Heap) (tk:Nat) (S:Addr) (c:Nat),s.heap.objs.size <= S->(∀ b o,s.heap.get? b=some o->h'.get? b=some o)->Wf h' S items.reverse c->Q (.ref S) { s with heap:=h',toks:=tk }) :
  wpAny (model prog w) A (call (.type "list") [.ref s.heap.objs.size]) Q E { s with heap:=s.heap.push (revObj l ((items.size:Int) - 1)) }:=by
 have hll:l < s.heap.objs.size:=by obtain⟨_,e,_⟩:=hl;exact zO e
 have gI:(s.heap.push (revObj l ((items.size:Int) - 1))).get? s.heap.objs.size=some (revObj l ((items.size:Int) - 1)):=zR _ rfl;have k1:∀ b o,s.heap.get? b=some o->(s.heap.push (revObj l ((items.size:Int) - 1))).get? b=some o:=λb o e=>zE _ e;generalize hI:s.heap.objs.size=I at *;generalize hp:s.heap.push (revObj l ((items.size:Int) - 1))=h1 at *;have hI1:I < h1.objs.size:=zO gI;have hS:(h1.push { cls:=.type "list", data:=.seq #[] }).get? h1.objs.size=some { cls:=.type "list", data:=.seq #[] }:=zR _ rfl;refine callType_codes (s:={ s with heap:=h1 }) (Q₁:=λobj s₁=>obj=.ref h1.objs.size/\s₁={ s with heap:=h1.push { cls:=.type "list", data:=.seq #[] } }) PySem.F.called_list (PySem.F.typeCall_list_1 _) PySem.F.entry_list_init
  (code_list_new _ ⟨rfl,rfl⟩) λobj s₁ z=>?_
 obtain⟨rfl,rfl⟩:=z;refine⟨⟨_,hS,rfl⟩,PySem.F.args_list_init_2 _ _,?_⟩;generalize hS0:h1.objs.size=S at *;show wpAny _ _ (do let old <- Builtin.List.listItems (.ref S);Builtin.List.listUpdate (.ref S) (λ_=>#[]);letGo old.toList.reverse;Builtin.List.listExtendWith (.ref S) (.ref I) .none) _ _ _;apply wpAny_bind;unfold Builtin.List.listItems;refine wpAny_bind (wpAny_seqItems hS rfl (wpAny_pure ?_));show wpAny _ _ (updateSeq S (λ_=>#[]) >>= λ_=>letGo (#[]:Array Value).toList.reverse >>= λ_=>Builtin.List.listExtendWith (.ref S) (.ref I) .none) _ _ _;refine wpAny_bind (wpAny_updateSeq hS rfl ?_);have hS2:=get?_update_seq hS (λ_=>(#[]:Array Value));have oth:∀ b o,b≠S->h1.get? b=some o->((h1.push { cls:=.type "list", data:=.seq #[] }).update S (Obj.mapSeq (λ_=>(#[]:Array Value)))).get? b=some o :=
  λb o hb e=>(zk _ _ (Ne.symm hb)).trans (zE _ e)
 refine wpAny_bind (wpAny_letGo ?_);have n1:S≠I:=by simp only[Addr] at *;omega
 have n2:S≠l:=by simp only[Addr] at *;omega
 have n3:l≠I:=by simp only[Addr] at *;omega
 refine q9V (A:=A.in1) (items:=items) (I:=I) (l:=l) hh hn n1 n2 n3 ⟨_,oth _ _ (Ne.symm n1) gI,rfl,rfl⟩ (hl.at λo e=>oth l o (Ne.symm n2) (k1 l o e)) hS2 λh' tk c kp e=>?_;refine⟨rfl,hQ h' tk S c (by simp only[Addr] at *;omega) (λb o z=>?_) e⟩;have hb:b < I:=hI▸zO z;exact kp b o (by simp only[Addr] at *;omega) (by simp only[Addr] at *;omega) (oth b o (by simp only[Addr] at *;omega) (k1 b o z))
end
open L2
def rLR:List V->Hp->VK->Prop:=λvs H Q=>∃ p xs,vs=[.ref p]/\H p=some (.lst xs)/\∀ S,H S=none->Q (.ref S) (upd H S (.lst xs.reverse))
section
variable {X:Cx}
theorem q9r{a:Expr}{t:TA}{p1 p2 q1 q2:Pos}(hg1:Gl X "list")(hm1:X.mg "list" = none)(hg2:Gl X "reversed")(hm2:X.mg "reversed" = none)(ha:PA X [a] t)(hc:X.calm=true)
  (he1:starEach [a] X.env=(false,eval a X.env)::starEach [] X.env) (hpl1:(backTo q2 (starEach [] X.env)).any (·.1)=false)
  (he2:starEach [.Call (.Name "reversed" p2) [a] [] q2] X.env=(false,eval (.Call (.Name "reversed" p2) [a] [] q2) X.env)::starEach [] X.env) (hpl2:(backTo q1 (starEach [] X.env)).any (·.1)=false) :
  PE X (.Call (.Name "list" p1) [.Call (.Name "reversed" p2) [a] [] q2] [] q1) (tCB rLR t):=by
 intro pins s σ H Q I h;refine wpAny_Call_Name_kw (q0l I hg1 hm1 q3n ?_ (by decide) (by decide));refine PyProof.Rows.callWith_type1 ?_ he2 hpl2;rw[he2];show wpAny _ _ (spliced ((false,eval _ X.env)::backTo q1 (starEach [] X.env))) _ _ s;refine Calls.spliced_cons ?_;refine wpAny_Call_Name_kw (q0l I hg2 hm2 PyProof.Rows.boot_reversed ?_ (by decide) (by decide));refine PyProof.Rows.callWith_type1 (thn (ha q2 pins s σ H _ I h) λus s1 ⟨vs,H1,I1,r1,z1⟩=>?_) he1 hpl1;obtain⟨p,xs,rfl,hp,k⟩:=z1;obtain⟨u,rfl,e1⟩:=vals1 r1;cases e1;obtain⟨its,n,rv,g1,sz⟩:=I1.lst hp;have il:s1.heap.IsList p its.toArray:=⟨_,g1,rfl,n,rfl⟩;refine call_reversed_list il (Calls.spliced_nil ?_);refine qcB (I1.ok.hd hc) (by rw[zP,<- rv.length];exact sz) il λh2 tk S c b1 b2 b3=>?_;refine⟨.ref S,_,I1.laid (t':=tk) b2 b1 (show Y3 X.prog X.w _ h2 S (.lst xs.reverse) from ⟨by rw[xH];exact sz,its.reverse,c,rv.reverse,by rw[b3];simp⟩),rfl,k S (I1.hok.fresh b1)⟩
end
end Hk
namespace L2
open PySem PySem.Spec PyProof.Rows
theorem Inv.turnedL{X:Cx}{pins:List (Addr×Obj)}{σ:List (Option V)}{H:Hp}{s:Shared}{h':Heap}{t':Nat}{fp:List Addr}(I:Inv X pins σ H s)(k:∀ b o,b∉fp->s.heap.get? b=some o->h'.get? b=some o)(hf:∀ b∈fp,X7 X pins H b) :
  Inv X pins σ H { s with heap:=h',toks:=t' }:=by
 have nit:∀ b u,H b=some u->b∉fp:=λb u e z=>by have:=(hf b z).1;rw[e] at this;cases this
 refine I.step (g':=s.gens) (d':=s.drawn) (ch:=fp) (λb hb=>?_) (λb o _ _ hc e _=>k b o hc e) (λb o _ _ hc e _=>⟨o.slots,k b o hc e⟩) (λ_ _ _ _ n=>n)
  (λb o hc e=>⟨o,k b o hc e⟩) (λ_ _ e=>e) (λ_ _ _ e=>e) (λb ps e=>⟨#[],by rw[e];simp⟩) (λm hm=>?_) (λb u e=>?_) I.bare
 ·obtain⟨f0,f1,f2,f3,f4,f5⟩:=hf b hb
  exact⟨f3,f1,f4,f5⟩
 ·obtain⟨o,es,ep,ho,r⟩:=hm
  exact⟨o,es,ep,k _ o (λz=>(hf _ z).2.1 rfl) ho,r⟩
 ·refine(I.hok b u e).stay (λc v hc q=>k c v ?_ q) (λ_ q=>q) λ_ _ q=>q
  rcases hc with z|z
  ·rw[z];exact nit b u e
  ·exact nit c _ z
noncomputable def Itz(K:zA)(a b:Addr):It :=
 ⟨λi H=>∃ xs ys x y,SqL K H a xs/\SqL K H b ys/\xs[i]?=some x/\ys[i]?=some y,
  λi H x H'=>∃ t x1 y1,H t=none/\x=.ref t/\H'=upd H t (.tup [x1,y1])/\∀ xs ys,SqL K H a xs->SqL K H b ys->xs[i]?=some x1/\ys[i]?=some y1,
  λi H=>∃ xs ys,SqL K H a xs/\SqL K H b ys/\(xs[i]?=none\/ys[i]?=none)⟩
theorem qc6{P:Program}{w:World}{K:zA}{elts:List Expr}{kx}{tpos:Pos}(a b z TI TO i1 i2:Addr)(D:ZipApart z TI TO i1 i2 a b) :
  Turn P w K (.Tuple elts kx tpos) (Itz K a b) [z,TI,TO,i1,i2] z (λi h=>IsZip h z TI TO .none/\IsPair h TI (.ref i1) (.ref i2)/\(∃ x y,IsPair h TO x y)/\h.IsListIter i1 a i/\h.IsListIter i2 b i) where
 mem:=by simp
 obj:=λi h st c hc=>by
  obtain⟨s1,s2,⟨_,_,s3⟩,⟨o4,e4,c4,d4⟩,⟨o5,e5,c5,d5⟩⟩:=st;simp only[zF,zi,or_false] at hc;rcases hc with rfl|rfl|rfl|rfl|rfl
  ·exact⟨_,s1,λv y=>by cases (show Data.fields _=Data.cell v from y)⟩
  ·exact⟨_,s2,λv y=>by cases (show Data.seq _ _=Data.cell v from y)⟩
  ·exact⟨_,s3,λv y=>by cases (show Data.seq _ _=Data.cell v from y)⟩
  ·exact⟨_,e4,λv y=>by rw[d4] at y;cases y⟩
  ·exact⟨_,e5,λv y=>by rw[d5] at y;cases y⟩
 keep:=λi h h' st k=>by
  obtain⟨s1,s2,⟨x,y,s3⟩,s4,s5⟩:=st;exact⟨k _ (by simp) _ s1,k _ (by simp) _ s2,⟨x,y,k _ (by simp) _ s3⟩,s4.at λo e=>k _ (by simp) o e,s5.at λo e=>k _ (by simp) o e⟩
 item:=by
  intro X hP hw hK hc i pins s σ H E I hf st hg;subst hP hw hK;obtain⟨xs,ys,x,y,hq1,hq2,hx,hy⟩:=hg;obtain⟨its1,rv1,p1,hz1⟩:=I.list hq1;obtain⟨its2,rv2,p2,hz2⟩:=I.list hq2;obtain⟨u1,hu1,ru1⟩:=rv1.get hx;obtain⟨u2,hu2,ru2⟩:=rv2.get hy;obtain⟨s1,s2,⟨_,_,s3⟩,s4,s5⟩:=st;have ex:∀ c∈[z,TI,TO,i1,i2],∃ o,s.heap.get? c=some o:=λc hc=>by
   simp only[zF,zi,or_false] at hc;rcases hc with rfl|rfl|rfl|rfl|rfl
   ·exact⟨_,s1⟩
   ·exact⟨_,s2⟩
   ·exact⟨_,s3⟩
   ·obtain⟨o,e,_⟩:=s4;exact⟨o,e⟩
   ·obtain⟨o,e,_⟩:=s5;exact⟨o,e⟩
  have nt:∀ c∈[z,TI,TO,i1,i2],c≠s.heap.objs.size:=λc hc=>by
   obtain⟨o,e⟩:=ex c hc;exact zt (zO e)
  refine wpAny_pyNext_zip_item D s1 s2 s3 s4 s5 p1.isList p2.isList (x:=u1) (y:=u2) (by simpa using hu1) (by simpa using hu2) λh' a1 a2 a3 a4 a5 a6 hk=>?_;have hn:H s.heap.objs.size=none:=I.hok.fresh (zJ _);have I1:Inv X pins σ (upd H s.heap.objs.size (.tup [x,y])) { s with heap:=s.heap.push { cls:=.type "tuple", data:=.seq #[u1,u2] },toks:=s.toks } :=
   I.laid (λb o e=>zE _ e) (zJ _) (show Y3 X.prog X.w _ _ _ (.tup [x,y]) from ⟨by show 2 <= sizeLine;decide,[u1,u2],.cons ru1 (.cons ru2 .nil),⟨_,zR _ rfl,rfl,_,rfl⟩⟩)
  have hf':∀ c∈[z,TI,TO,i1,i2],X7 X pins (upd H s.heap.objs.size (.tup [x,y])) c:=λc hc=>by
   obtain⟨f0,f⟩:=hf c hc;exact⟨by rw[qc (nt c hc)];exact f0,f⟩
  have I2:Inv X pins σ (upd H s.heap.objs.size (.tup [x,y])) { s with heap:=h',toks:=s.toks }:=I1.turnedL (λb o hb e=>by
   simp only[zF,zi,or_false,not_or] at hb
   by_cases q:b=s.heap.objs.size
   ·subst q
    rw[zR _ rfl] at e;cases e;exact a5
   ·have e':s.heap.get? b=some o:=by
     rcases zu b s.heap.objs.size with l|l
     ·obtain⟨z1,z2⟩:=wB.mp e
      refine wB.mpr ⟨?_,z2⟩;rw[<- z1];show s.heap.objs[b]?=(s.heap.objs.push _)[b]?;rw[Za,if_neg q]
     ·have:=zO e
      rw[yd] at this;exact absurd (by simp only[Addr] at *;omega) q
    exact hk b o hb.1 hb.2.2.1 hb.2.2.2.1 hb.2.2.2.2 e') hf'
  refine⟨_,rfl,wpAny_letOwnedTupleGo_zip a1 λh2 b1 sb=>?_⟩;have I3:Inv X pins σ (upd H s.heap.objs.size (.tup [x,y])) { s with heap:=h2,toks:=s.toks }:=I2.turnedL (λb o hb e=>(sb.2 b (λq=>hb (by simp[q]))).trans e) hf';refine⟨.ref s.heap.objs.size,_,I3,rfl,⟨_,x,y,hn,rfl,rfl,λxs' ys' q1 q2=>⟨by rw[I.list_inj q1 hq1];exact hx,by rw[I.list_inj q2 hq2];exact hy⟩⟩,⟨b1,?_,⟨u1,u2,sb.extBut _ _ D.TOz a2⟩,a3.extBut sb.extBut D.i1z,a4.extBut sb.extBut D.i2z⟩,λc hc=>(hf' c hc).1⟩;exact sb.extBut _ _ D.TIz (hk _ _ D.TIz D.TITO D.TIi1 D.TIi2 s2)
 done:=by
  intro X hP hw hK hc i pins s σ H E I hf st hg;subst hP hw hK;obtain⟨xs,ys,hq1,hq2,hx⟩:=hg;obtain⟨its1,rv1,p1,hz1⟩:=I.list hq1;obtain⟨its2,rv2,p2,hz2⟩:=I.list hq2;obtain⟨s1,s2,⟨_,_,s3⟩,s4,s5⟩:=st;have l1:=rv1.length;have l2:=rv2.length;refine wpAny_pyNext_zip_end (I.ok.hd hc) D s1 s2 s3 s4 s5 p1.isList p2.isList ?_ λh' hk=>⟨rfl,I.turnedL (t':=s.toks) (λb o hb e=>?_) hf⟩
  ·rcases hx with hx|hx
   ·exact .inl (by rw[xr] at hx;simp;omega)
   ·exact .inr (by rw[xr] at hx;simp;omega)
  ·simp only[zF,zi,or_false,not_or] at hb
   exact hk b o hb.1 hb.2.2.1 hb.2.2.2.1 hb.2.2.2.2 e
 self:=λ_ _ _ _ _ st h=>wpAny_pyIter_zip st.1 h
noncomputable def iZip(K:zA)(ta:TA):TI:=λσ H R=>ta σ H λvs H1=>∃ a b xs ys,vs=[.ref a,.ref b]/\SqL K H1 a xs/\SqL K H1 b ys/\R (Itz K a b) H1
theorem qfu{X:Cx}{a b:Expr}{ta:TA}{p pos tpos:Pos}{elts:List Expr}{kx}(hg:Gl X "zip")(hm:X.mg "zip" = none)(ha:PA X [a,b] ta)(hs:starEach [a,b] X.env=[(false,eval a X.env),(false,eval b X.env)]:=by rfl)(hs2:starEach [b] X.env=[(false,eval b X.env)]:=by rfl) :
  PI X (.Tuple elts kx tpos) (.Call (.Name "zip" p) [a,b] [] pos) (iZip X.K ta):=by
 intro pins s σ H R I h;refine Call_ (q0l I hg hm PyProof.Rows.boot_zip (PyProof.Rows.callWith_type1 (thn (ha pos pins s σ H _ I h) λus s1 ⟨vs,H1,I1,r1,q1⟩=>?_) (by rw[hs,hs2]) (by rw[hs2];rfl)));obtain⟨l1,l2,xs,ys,e,hq1,hq2,q⟩:=q1;subst e;cases r1 with
 | cons r rr =>
  cases rr with
  | cons r' rr =>
   cases rr;cases r;cases r';obtain⟨its1,rv1,p1,hz1⟩:=I1.list hq1;obtain⟨its2,rv2,p2,hz2⟩:=I1.list hq2;have e1:l1 < s1.heap.objs.size:=by obtain⟨_,_,e,_⟩:=p1;exact zO e
   have e2:l2 < s1.heap.objs.size:=by obtain⟨_,_,e,_⟩:=p2;exact zO e
   refine call_zip_2 p1.isList p2.isList λh' a1 a2 a3 a4 a5 a6 hk=>?_;refine wpAny_pyIter_zip a1 ?_;have D:ZipApart (s1.heap.objs.size+4) (s1.heap.objs.size+2) (s1.heap.objs.size+3) s1.heap.objs.size (s1.heap.objs.size+1) l1 l2:=by
    generalize s1.heap.objs.size=n at *
    constructor <;> (intro q;simp only[Addr] at *;omega)
   refine⟨s1.heap.objs.size+4,[s1.heap.objs.size+4,s1.heap.objs.size+2,s1.heap.objs.size+3,s1.heap.objs.size,s1.heap.objs.size+1],_,_,H1,rfl,I1.kept (t':=s1.toks) hk,qc6 l1 l2 _ _ _ _ _ D,⟨a1,a2,⟨_,_,a3⟩,a4,a5⟩,λc hc=>?_,q⟩;have hle:s1.heap.objs.size <= c:=by
    simp only[zF,zi,or_false] at hc;simp only[Addr] at *;omega
   have I2:=I1.kept (t':=s1.toks) hk;exact I1.fpOk hle (I1.hok.fresh hle)
end L2
namespace Hk
open PySem L2
noncomputable def zAk:List D->List D->List D
 | a::as,b::bs=>.tup [a,b]::zAk as bs
 | _,_=>[]
theorem q48:∀ (as bs:List D),(zAk as bs).length=min as.length bs.length
 | a::as,b::bs=>by show (zAk as bs).length+1=_;rw[q48 as bs,zL,zL];omega
 | [],bs=>by cases bs <;> simp[zAk]
 | a::as,[]=>by simp[zAk]
theorem q77:∀ (as bs:List D) (i:Nat) (d:D),(zAk as bs)[i]?=some d->∃ a b,as[i]?=some a/\bs[i]?=some b/\d=.tup [a,b]
 | a::as,b::bs,0,d,h=>by cases h;exact⟨a,b,rfl,rfl,rfl⟩
 | a::as,b::bs,i+1,d,h=>q77 as bs i d h
 | [],bs,i,d,h=>by cases bs <;> cases h
 | a::as,[],i,d,h=>by cases h
theorem qcy{K:zA}{G:Hp}{a b:Addr}{ds es:List D}{vs us:List V}(h1:G a=some (.lst vs))(h2:Yo K G ds vs)(h3:G b=some (.lst us))(h4:Yo K G es us):IterOf K (Itz K a b) G (zAk ds es):=by
 have l1:=h2.len;have l2:=h4.len;refine⟨λH i s hi=>?_,λG2 H i x H' d s0 s1 hd hy=>?_,λH s=>⟨vs,us,SqL.of (s _ _ h1),SqL.of (s _ _ h3),?_⟩⟩
 ·rw[q48] at hi
  exact⟨vs,us,vs[i]'(by omega),us[i]'(by omega),SqL.of (s _ _ h1),SqL.of (s _ _ h3),zD _,zD _⟩
 ·obtain⟨t,x1,y1,ht,rfl,rfl,y⟩:=hy
  obtain⟨e1,e2⟩:=y vs us (SqL.of (s1 _ _ (s0 _ _ h1))) (SqL.of (s1 _ _ (s0 _ _ h3)));obtain⟨p,q,f1,f2,rfl⟩:=q77 ds es i d hd;obtain⟨v,q1,q2⟩:=h2.get f1;obtain⟨u,q3,q4⟩:=h4.get f2;rw[e1] at q1;cases q1;rw[e2] at q3;cases q3;have x2:=Ext.lay s1 ht (.tup [x1,y1]);exact⟨_,x2,⟨t,_,rfl,qd,Yo.cons (q2.mono (s0.trans x2.gg)) (Yo.cons (q4.mono (s0.trans x2.gg)) Yo.nil)⟩⟩
 ·rw[q48]
  rcases Z3 ds.length es.length with h|h
  ·exact .inl (zn (by omega))
  ·exact .inr (zn (by omega))
noncomputable def iZp(g:FA):FI:=λω=>(g ω).bind λds=>match ds with
 | [.lst a,.lst b]=>some (zAk a b)
 | _=>none
theorem qbg{X:Cx}{a b:Expr}{g:FA}{p pos tpos:Pos}{elts:List Expr}{kx}(hg:Gl X "zip")(hm:X.mg "zip" = none)(ha:XA X [a,b] g)(hs:starEach [a,b] X.env=[(false,eval a X.env),(false,eval b X.env)]:=by rfl)(hs2:starEach [b] X.env=[(false,eval b X.env)]:=by rfl) :
  XI X (.Tuple elts kx tpos) (.Call (.Name "zip" p) [a,b] [] pos) (iZp g):=by
 obtain⟨⟨t,h1,h2⟩,_⟩:=ha;refine⟨_,qfu hg hm h1 hs hs2,λG0 H0 G ω σ H ds R o e k=>?_⟩;obtain⟨vs,q,e⟩:=bnd e;refine h2 G0 H0 G ω σ H vs _ o q λus G1 H1 x1 y1=>?_
 match vs,e with
 | [.lst as,.lst bs],e =>
  cases e;obtain⟨v1,r1,rfl,z1,z2⟩:=y1;obtain⟨v2,r2,rfl,z3,z4⟩:=z2;cases (show r2=[] from z4);obtain⟨a1,ws1,rfl,f1,f2⟩:=z1;obtain⟨a2,ws2,rfl,f3,f4⟩:=z3;exact⟨a1,a2,ws1,ws2,rfl,SqL.of (x1.gh _ _ f1),SqL.of (x1.gh _ _ f3),k _ G1 H1 x1 (qcy f1 f2 f3 f4)⟩
section
open PySem.Spec PyProof.Rows
variable {X:Cx}
end
end Hk
namespace Hk
open PySem L2 PyProof.Rows
noncomputable def zBX(k:Int):List Int->Option Nat
 | []=>none
 | a::r=>if a=k then some 0 else (zBX k r).map (·+1)
theorem q8E{k:Int}:∀ {ns:List Int} {its:List Value},Y2 (ns.map V.int) its->PySem.W.kf_ints its=true/\Ya k its=zBX k ns
 | [],its,h=>by cases h;exact⟨rfl,rfl⟩
 | a::r,its,h=>by
  cases h with
  | cons h1 h2 =>
   obtain⟨t,rfl⟩:=h1;obtain⟨e1,e2⟩:=q8E (k:=k) h2;refine⟨e1,?_⟩;unfold Ya zBX;rw[e2]
   by_cases z:a=k
   ·have:isInt k (Value.int a t)=true:=by simp[isInt,z]
    rw[this,if_pos z];rfl
   ·have:isInt k (Value.int a t)=false:=by simp[isInt,z]
    rw[this,if_neg z];cases zBX k r <;> rfl
section
variable {X:Cx} {pos:Pos} {o e:Expr} {apos cpos:Pos} {i:Nat} {fd:FD}
end
end Hk
namespace Hk
open PySem L2
section
variable {X:Cx} {o c:Expr} {body:List Stmt} {pos ipos npos:Pos} {i j:Nat} {fc:FT} {fb:FS}
end
noncomputable def dropW(o:Option R)(ω:WSt):Option (Out×WSt):=o.map λ_=>(.nx,ω)
noncomputable def zipI(o:Option (List D)):Option (List D):=o.bind λds=>match ds with
 | [.lst a,.lst b]=>some (zAk a b)
 | _=>none
noncomputable def sortR(o:Option D):Option R:=o.bind zBx
section
variable {ω:WSt} {fe:FE} {fd:FD} {fa:FA} {r:R} {ds as bs:List D} {i j:Nat} {f:FS} {ft:FT} {m:List D->List D}
theorem q4J:zBd fe ω=dropW (fe ω) ω:=rfl
theorem e_wd:dropW (some r) ω=some (.nx,ω):=rfl
theorem q7B:iZp fa ω=zipI (fa ω):=rfl
theorem e_wz:zipI (some [.lst as,.lst bs])=some (zAk as bs):=rfl
theorem q4M:zA0 fd ω=sortR (fd ω):=rfl
end
theorem qdr{ns:List Int}(h:ns.length < 64):sortR (some (.lst (ns.map D.int)))=some (.fr ((Yt ns).map D.int)):=by
 show (intsOf (ns.map D.int)).bind _=_;rw[q0o];exact if_pos h
end Hk
namespace L2
open PySem PySem.Spec PyProof.Rows
section
variable {κ:Type} [DecidableEq κ]
noncomputable def WM(kvs:List (κ×V))(k:κ):Option V:=(kvs.find? λkv=>decide (kv.1=k)).map (·.2)
noncomputable def putK(kvs:List (κ×V))(k:κ)(v:V):List (κ×V) :=
 if (kvs.any λkv=>decide (kv.1=k))=true then kvs.map (λkv=>if kv.1=k then (kv.1,v) else kv) else kvs++[(k,v)]
theorem q2x{p:κ×V}{r:List (κ×V)}{k:κ}(e:p.1=k):WM (p::r) k=some p.2:=by simp[WM,xm,e]
theorem q2C{p:κ×V}{r:List (κ×V)}{k:κ}(e:¬p.1=k):WM (p::r) k=WM r k:=by simp[WM,xm,e]
theorem q45(k:κ):∀ kvs:List (κ×V),(kvs.any λkv=>decide (kv.1=k))=(WM kvs k).isSome
 | []=>rfl
 | p::r=>by
  rw[Zf]
  by_cases e:p.1=k
  ·simp only[q2x e,decide_eq_true e,ZJ,Option.isSome_some]
  ·rw[q2C e,decide_eq_false e,wu];exact q45 k r
theorem q2a(kvs:List (κ×V))(k:κ)(v:V):(putK kvs k v).length <= kvs.length+1:=by
 unfold putK
 split
 ·rw[zB];omega
 ·rw[zC,zL,xU];omega
theorem qc9{kvs:List (κ×V)}{k:κ}(v:V)(h:WM kvs k=none):putK kvs k v=kvs++[(k,v)]:=by
 unfold putK;rw[q45,h];exact if_neg (by decide)
theorem zAd.isSome_eq{o:Option V}{u:Option Value}(r:zAd o u):o.isSome=u.isSome:=by
 cases o with
 | none=>cases u with
  | none=>rfl
  | some _=>exact(show False from r).elim
 | some _=>cases u with
  | none=>exact(show False from r).elim
  | some _=>rfl
theorem zAd.getD{o:Option V}{u:Option Value}{d:V}{d':Value}(r:zAd o u)(rd:RelV d d'):RelV (o.getD d) (u.getD d'):=by
 cases o with
 | none=>cases u with
  | none=>exact rd
  | some _=>exact(show False from r).elim
 | some _=>cases u with
  | none=>exact(show False from r).elim
  | some _=>exact r
theorem KV.val{kvs:List (κ×V)}{vs:List (κ×Value)}(r:KV kvs vs)(k:κ):zAd (WM kvs k) (valueAt vs k):=by
 unfold KV at r
 induction r with
 | nil=>exact True.intro
 | @cons p q ps qs h t ih =>
  obtain⟨h1,h2⟩:=h
  by_cases e:p.1=k
  ·have e':q.1=k:=h1.symm.trans e
   have b:valueAt (q::qs) k=some q.2:=by simp[valueAt,xm,e']
   rw[q2x e,b];exact h2
  ·have e':¬q.1=k:=λz=>e (h1.trans z)
   have b:valueAt (q::qs) k=valueAt qs k:=by simp[valueAt,xm,e']
   rw[q2C e,b];exact ih
theorem KV.any{kvs:List (κ×V)}{vs:List (κ×Value)}(r:KV kvs vs)(k:κ):(kvs.any λkv=>decide (kv.1=k))=vs.any λkv=>decide (kv.1=k):=by
 unfold KV at r
 induction r with
 | nil=>rfl
 | cons h t ih=>rw[Zf,Zf,ih,h.1]
theorem KV.repl{kvs:List (κ×V)}{vs:List (κ×Value)}(r:KV kvs vs)(k:κ){y:V}{u:Value}(ry:RelV y u) :
  KV (kvs.map λkv=>if kv.1=k then (kv.1,y) else kv) (vs.map λkv=>if kv.1=k then (kv.1,u) else kv):=by
 unfold KV at r ⊢
 induction r with
 | nil=>exact .nil
 | @cons p q ps qs h t ih =>
  rw[zg,zg];refine .cons ?_ ih;obtain⟨h1,h2⟩:=h
  by_cases e:p.1=k
  ·rw[if_pos e,if_pos (h1.symm.trans e)];exact⟨h1,ry⟩
  ·rw[if_neg e,if_neg (λz=>e (h1.trans z))];exact⟨h1,h2⟩
theorem KV.put{kvs:List (κ×V)}{vs:List (κ×Value)}(r:KV kvs vs)(k:κ){y:V}{u:Value}(ry:RelV y u):KV (putK kvs k y) (stored vs k u):=by
 unfold putK stored;rw[r.any k]
 by_cases e:(vs.any λkv=>decide (kv.1=k))=true
 ·rw[if_pos e,if_pos e];exact r.repl k ry
 ·rw[if_neg e,if_neg e];exact Paired.snoc r ⟨rfl,ry⟩
theorem KV.keys{kvs:List (κ×V)}{vs:List (κ×Value)}(r:KV kvs vs):kvs.map (·.1)=vs.map (·.1):=by
 unfold KV at r
 induction r with
 | nil=>rfl
 | cons h t ih=>rw[zg,zg,ih,h.1]
theorem KV.length{kvs:List (κ×V)}{vs:List (κ×Value)}(r:KV kvs vs):kvs.length=vs.length:=Paired.length r
end
theorem q2D{P:Program}{w:World}{k:Key}{u:Value}(r:RelV (kV k) u):(Yv P w).is k u=true:=by
 cases k with
 | inl i=>obtain⟨t,e⟩:=(show ∃ t,u=Value.int i t from r);subst e;exact q8g P w i t
 | inr x=>obtain⟨t,e⟩:=(show ∃ t,u=Value.str x t from r);subst e;exact q8p P w x t
theorem q5X{P:Program}{w:World}:∀ {ks:List Key} {us:List Value},Y2 (ks.map kV) us->ItemsAre (Yv P w) ks us
 | [],_,r=>by rw[yc] at r;cases r;exact .nil
 | k::ks,_,r=>by
  rw[zg] at r;cases r with
  | cons h t=>exact .cons (q2D h) (q5X t)
abbrev KT(H:Hp):List (List Key×V)->List (List Key×Addr×Value)->Prop:=Paired λp q=>p.1=q.1/\H q.2.1=some (.tup (p.1.map kV))/\RelV p.2 q.2.2
theorem KT.val{H:Hp}{kvs:List (List Key×V)}{xs:List (List Key×Addr×Value)}(r:KT H kvs xs)(k:List Key):zAd (WM kvs k) ((atKey xs k).map (·.2)):=by
 induction r with
 | nil=>exact True.intro
 | @cons p q ps qs h t ih =>
  obtain⟨h1,_,h2⟩:=h
  by_cases e:p.1=k
  ·have e':q.1=k:=h1.symm.trans e
   have b:atKey (q::qs) k=some q.2:=by simp[atKey,xm,e']
   rw[q2x e,b];exact h2
  ·have e':¬q.1=k:=λz=>e (h1.trans z)
   have b:atKey (q::qs) k=atKey qs k:=by simp[atKey,xm,e']
   rw[q2C e,b];exact ih
theorem KT.repl{H:Hp}{kvs:List (List Key×V)}{xs:List (List Key×Addr×Value)}(r:KT H kvs xs)(k:List Key){y:V}{u:Value}(ry:RelV y u) :
  KT H (kvs.map λkv=>if kv.1=k then (kv.1,y) else kv) (xs.map (putAt k u)):=by
 induction r with
 | nil=>exact .nil
 | @cons p q ps qs h t ih =>
  rw[zg,zg];refine .cons ?_ ih;obtain⟨h1,h2,h3⟩:=h;unfold putAt
  by_cases e:p.1=k
  ·rw[if_pos e,if_pos (h1.symm.trans e)];exact⟨h1,h2,ry⟩
  ·rw[if_neg e,if_neg (λz=>e (h1.trans z))];exact⟨h1,h2,h3⟩
theorem KT.put{H:Hp}{kvs:List (List Key×V)}{xs:List (List Key×Addr×Value)}(r:KT H kvs xs)(k:List Key){b:Addr}{y:V}{u:Value}(hb:H b=some (.tup (k.map kV)))(ry:RelV y u) :
  KT H (putK kvs k y) (storedH xs k b u):=by
 have e:(kvs.any λkv=>decide (kv.1=k))=(atKey xs k).isSome:=by
  rw[q45,(r.val k).isSome_eq,Z4]
 unfold putK storedH;rw[e]
 by_cases q:(atKey xs k).isSome=true
 ·rw[if_pos q,if_pos q];exact r.repl k ry
 ·rw[if_neg q,if_neg q];exact Paired.snoc r ⟨rfl,hb,ry⟩
theorem KT.keeps{H H':Hp}{kvs:List (List Key×V)}{xs:List (List Key×Addr×Value)}(r:KT H kvs xs)(ht:∀ b ys,H b=some (.tup ys)->H' b=some (.tup ys)):KT H' kvs xs :=
 Paired.mapP r λ_ _ z=>⟨z.1,ht _ _ z.2.1,z.2.2⟩
section
variable {P:Program} {w:World} {H:Hp} {h:Heap} {a:Addr}
theorem qdb{u:HO}(ok:HOk P w H h)(e:Rd H a u):Y3 P w H h a u:=e.ok ok
theorem q2q{kvs:List (Key×V)}(ok:HOk P w H h)(e:Rd H a (.dK kvs)):kvs.length <= sizeLine/\(a == sysModules)=false/\∃ vs,KV kvs vs/\h.DictOf (Yv P w) a vs :=
 show Y3 P w H h a (.dK kvs) from qdb ok e
theorem q9x{kvs:List (Key×V)}(ok:HOk P w H h)(e:H a=some (.dK kvs)):kvs.length <= sizeLine/\(a == sysModules)=false/\∃ vs,KV kvs vs/\h.DictOf (Yv P w) a vs:=q2q ok (.inl e)
theorem q30{ks:List Key}(ok:HOk P w H h)(e:H a=some (.tup (ks.map kV))):(tupleKind (Yv P w)).is h ks a:=by
 obtain⟨_,its,r,o,h1,h2,n,h3⟩:=(show Y3 P w H h a (.tup (ks.map kV)) from ok a _ e);exact⟨o,its.toArray,n,h1,h2,h3,by simpa using q5X r⟩
theorem q3l{kvs:List (List Key×V)}(ok:HOk P w H h)(e:Rd H a (.dT kvs)):kvs.length <= sizeLine/\(a == sysModules)=false /\
  ∃ xs,KT H kvs xs/\h.DictOfH (tupleKind (Yv P w)) a xs:=by
 obtain⟨z,y,xs,r,o,es,ep,h1,h2,h3,h4,h5⟩:=(show Y3 P w H h a (.dT kvs) from qdb ok e);refine⟨z,y,xs,r,o,es,ep,h1,h2,h3,h4,λx hx=>?_,h5⟩;have all:∀ {l:List (List Key×V)} {m:List (List Key×Addr×Value)},KT H l m->∀ x∈m,(tupleKind (Yv P w)).is h x.1 x.2.1:=by
  intro l m q
  induction q with
  | nil=>intro x hx;exact nomatch hx
  | @cons p q ps qs hq t ih =>
   intro x hx;rcases zF.mp hx with e|hx
   ·subst e
    exact q30 ok (by rw[<- hq.1];exact hq.2.1)
   ·exact ih x hx
 exact all r x hx
theorem qgl{kvs:List (List Key×V)}(ok:HOk P w H h)(e:H a=some (.dT kvs)):kvs.length <= sizeLine/\(a == sysModules)=false /\
  ∃ xs,KT H kvs xs/\h.DictOfH (tupleKind (Yv P w)) a xs:=q3l ok (.inl e)
end
def Wi(H:Hp)(a:Addr)(y:V)(r:Option V):Prop :=
 (∃ kvs k,Rd H a (.dK kvs)/\y=kV k/\r=WM kvs k)\/∃ kvs k b,Rd H a (.dT kvs)/\y=.ref b/\H b=some (.tup (k.map kV))/\r=WM kvs k
def zCK(H:Hp)(a:Addr)(y v:V)(H':Hp):Prop :=
 (∃ kvs k,H a=some (.dK kvs)/\y=kV k/\kvs.length < sizeLine/\H'=upd H a (.dK (putK kvs k v))) \/
 ∃ kvs k b,H a=some (.dT kvs)/\y=.ref b/\H b=some (.tup (k.map kV))/\kvs.length < sizeLine/\H'=upd H a (.dT (putK kvs k v))
theorem Wi.k{H:Hp}{a:Addr}{kvs:List (Key×V)}{k:Key}(e:H a=some (.dK kvs)):Wi H a (kV k) (WM kvs k):=.inl ⟨kvs,k,.inl e,rfl,rfl⟩
theorem zCK.k{H:Hp}{a:Addr}{kvs:List (Key×V)}{k:Key}{v:V}(e:H a=some (.dK kvs))(hl:kvs.length < sizeLine):zCK H a (kV k) v (upd H a (.dK (putK kvs k v))):=.inl ⟨kvs,k,e,rfl,hl,rfl⟩
section
variable {X:Cx} {pins:List (Addr×Obj)} {σ:St} {H:Hp} {s:Shared} {a:Addr} {y v:V} {u r:Value} {o:Option V} {A:Around} {E:Value->Shared->Prop}
theorem Inv.big(I:Inv X pins σ H s):sysModules < s.heap.objs.size:=by
 have h:mainGlobals < s.heap.objs.size:=(I.mod.glob.keeps I.bk).lt;exact Z0 (by decide) h
theorem qaT{Q:Value->Shared->Prop}(hu:A.units+1 < cLine)(I:Inv X pins σ H s)(g:Wi H a y (some v))(ry:RelV y u)(h:∀ w' s',Inv X pins σ H s'->RelV v w'->Q w' s') :
  wpAny (model X.prog X.w) A (getItem (.ref a) u) Q E s:=by
 rcases g with⟨kvs,k,e,ey,l⟩|⟨kvs,k,b,e,ey,eb,l⟩
 ·subst ey
  obtain⟨z,hd,vs,rel,dd⟩:=q2q I.hok e;obtain⟨w',hw,rw'⟩:=zAd.some_of (v:=v) (o:=valueAt vs k) (by rw[l];exact rel.val k);exact wpAny_getItem_of (q2D ry) dd.mapOf hw (h w' _ (I.tok _) rw')
 ·subst ey
  cases (show u=Value.ref b from ry);obtain⟨z,hd,xs,rel,dd⟩:=q3l I.hok e;obtain⟨w',hw,rw'⟩:=zAd.some_of (v:=v) (o:=(atKey xs k).map (·.2)) (by rw[l];exact rel.val k);obtain⟨p,hp,hp2⟩:=wG.mp hw;refine wpAny_getItem_heap (tupleKind_room_in1 hu) (q30 I.hok eb) dd hp ?_;rw[hp2];exact h w' _ (I.tok _) rw'
theorem qdN{Q:Value->Shared->Prop}(hu:A.units+1 < cLine)(I:Inv X pins σ H s)(g:Wi H a y o)(ry:RelV y u)(h:∀ s',Inv X pins σ H s'->Q (.bool (!o.isSome)) s') :
  wpAny (model X.prog X.w) A (compareOp .NotIn u (.ref a)) Q E s:=by
 rcases g with⟨kvs,k,e,ey,l⟩|⟨kvs,k,b,e,ey,eb,l⟩
 ·subst ey
  obtain⟨z,hd,vs,rel,dd⟩:=q2q I.hok e;refine wpAny_notIn_of (q2D ry) hd dd.mapOf ?_;rw[<- (rel.val k).isSome_eq,<- l];exact h _ (I.tok _)
 ·subst ey
  cases (show u=Value.ref b from ry);obtain⟨z,hd,xs,rel,dd⟩:=q3l I.hok e;refine wpAny_notIn_heap (tupleKind_room_in1 hu) (q30 I.hok eb) hd dd ?_;have q:=(rel.val k).isSome_eq;rw[Z4] at q;rw[<- q,<- l];exact h _ (I.tok _)
theorem q3z{h':Heap}{t':Nat}{ob:HO}(I:Inv X pins σ H s)(mu:Mut (H a))(hs:xW a s.heap h')(he:∃ q,h'.get? a=some q)(new:Y3 X.prog X.w (upd H a ob) h' a ob) :
  Inv X pins σ (upd H a ob) { s with heap:=h',toks:=t' } :=
 I.write (x:=a) (e:=a) mu (.inl rfl) (λb q hb z=>(hs.2 b hb).trans z) he new
theorem q74{P:Program}{w:World}{H':Hp}{h':Heap}{kvs:List (Key×V)}{vs:List (Key×Value)}(z:kvs.length <= sizeLine)(hd:(a == sysModules)=false)(rel:KV kvs vs)(dd:h'.DictOf (Yv P w) a vs) :
  Y3 P w H' h' a (.dK kvs):=⟨z,hd,vs,rel,dd⟩
theorem qbo{H':Hp}{Q:Unit->Shared->Prop}(hu:A.units+1 < cLine)(I:Inv X pins σ H s)(g:zCK H a y v H')(ry:RelV y u)(rv:RelV v r)(h:∀ s',Inv X pins σ H' s'->Q () s') :
  wpAny (model X.prog X.w) A (setItem (.ref a) u r) Q E s:=by
 rcases g with⟨kvs,k,e,ey,l,eH⟩|⟨kvs,k,b,e,ey,eb,l,eH⟩
 ·subst ey eH
  obtain⟨z,hd,vs,rel,dd⟩:=q9x I.hok e;have hz:vs.length <= sizeLine:=by rw[<- rel.length];exact z
  have hl:(putK kvs k v).length <= sizeLine:=by have:=q2a kvs k v;omega
  refine wpAny_setItem_pairs (hsz:=hz) (q2D ry) dd λh' dd' hs=>h _ ?_;have he:∃ q,h'.get? a=some q:=let ⟨q,_,_,hq,_⟩:=dd';⟨q,hq⟩
  exact q3z I (by rw[e];exact True.intro) hs he (q74 hl hd (rel.put k rv) dd')
 ·subst ey eH
  cases (show u=Value.ref b from ry);obtain⟨z,hd,xs,rel,dd⟩:=qgl I.hok e;have hz:xs.length <= sizeLine:=by rw[<- Paired.length rel];exact z
  have hl:(putK kvs k v).length <= sizeLine:=by have:=q2a kvs k v;omega
  refine wpAny_setItem_heap (hsz:=hz) (tupleKind_room_in1 hu) (q30 I.hok eb) dd λh' dd' hs=>h _ ?_;obtain⟨q,es,ep,hq,h2,h3,h4,_,h5⟩:=dd';refine q3z I (by rw[e];exact True.intro) hs ⟨q,hq⟩ ⟨hl,hd,_,(rel.put k eb rv).keeps λc ys ec=>?_,q,es,ep,hq,h2,h3,h4,h5⟩;rw[qc (qgg ec e (λz=>nomatch z))];exact ec
end
section
variable {X:Cx} {pins:List (Addr×Obj)} {σ:St} {H:Hp} {s:Shared} {a:Addr} {kvs:List (Key×V)} {k:Key} {u:Value} {A:Around} {E:Value->Shared->Prop}
end
def NoSl(i:Expr):Prop:=∀ ov iv,subscripted i false ov iv=operate [ov,iv] (getItem ov iv)
theorem qee{prog:Program}{w:World}{A:Around}{E:Value->Shared->Prop}{s:Shared}{env:Env}{value slice:Expr}{pos:Pos}{T id:String}{Q:Value->Shared->Prop}
  (hl:typeLookup (.type T) "__getitem__" = pure (some (.builtin id))) (hs:NoSl slice)
  (h:wpAny (model prog w) A (eval value env) (λo s₁=>wpAny (model prog w) A (eval slice env) (λi s₂=>s₂.TypeIs o T/\wpAny (model prog w) A (getItem o i) Q E s₂) E s₁) E s) :
  wpAny (model prog w) A (eval (.Subscript value slice pos) env) Q E s:=by
 refine Subscript_ (wpAny_mono h (λo s₁ h₁=>wpAny_mono h₁ (λi s₂ h₂=>?_) λ_ _ x=>x) λ_ _ x=>x);obtain⟨hT,h₂⟩:=h₂;unfold subscriptTail;refine wpAny_bind ?_;rw[getitemInPython_of_ne hT.not_modules];refine wpAny_bind (wpAny_specialOf hT hl ?_);have fin:wpAny (model prog w) A (subscripted slice false o i) (λr s₃=>wpAny (model prog w) A (letTemporaryGo value o r >>= λ_=>pure r) Q E s₃) E s₂:=by
  rw[hs o i];exact wpAny_operating (wpAny_mono h₂ (λr s₃ h₃=>wpAny_bind (wpAny_letTemporaryGo (wpAny_pure h₃))) λ_ _ x=>x)
 first
  | exact wpAny_pure (wpAny_bind fin)
  | exact wpAny_bind (wpAny_pure (wpAny_bind fin))
  | exact wpAny_bind fin
theorem q8e{X:Cx}{pins:List (Addr×Obj)}{σ:St}{H:Hp}{s:Shared}{a:Addr}{y:V}{o:Option V}(I:Inv X pins σ H s)(g:Wi H a y o):s.TypeIs (.ref a) "dict" := by
 rcases g with⟨kvs,k,e,_,_⟩|⟨kvs,k,b,e,_,_,_⟩
 ·obtain⟨_,_,vs,_,dd⟩:=q2q I.hok e
  exact dd.typeIs
 ·obtain⟨_,_,xs,_,dd⟩:=q3l I.hok e
  exact dd.typeIs
noncomputable def zCG(td ty:TE):TE:=λσ H Q=>td σ H λx H1=>ty σ H1 λy H2=>∃ a v,x=.ref a/\Wi H2 a y (some v)/\Q v H2
noncomputable def tDIn(ty td:TE):TE:=λσ H Q=>ty σ H λy H1=>td σ H1 λx H2=>∃ a o,x=.ref a/\Wi H2 a y o/\Q (.bl o.isSome) H2
noncomputable def zA7(ty td:TE):TE:=λσ H Q=>ty σ H λy H1=>td σ H1 λx H2=>∃ a o,x=.ref a/\Wi H2 a y o/\Q (.bl (!o.isSome)) H2
noncomputable def sDPut(td ty tv:TE):TS:=λD σ H=>tv σ H λv H1=>td σ H1 λx H2=>ty σ H2 λy H3=>∃ a H4,x=.ref a/\zCK H3 a y v H4/\D.nx σ H4
section
variable {X:Cx} {o i e value:Expr} {pos pos' tpos:Pos} {td ty tv:TE}
theorem q3B(hu:X.A.units+1 < cLine)(ho:PE X o td)(hi:PE X i ty)(hs:NoSl i):PE X (.Subscript o i pos) (zCG td ty):=by
 intro pins s σ H Q I h;refine qee PySem.F.slot_dict_getitem.lookup hs (thn (ho pins s σ H _ I h) λu s1 ⟨x,H1,I1,rx,q1⟩=>thn (hi pins s1 σ H1 _ I1 q1) λiv s2 ⟨y,H2,I2,ry,a,v,ex,g,q2⟩=>?_);subst ex;obtain rfl:u=Value.ref a:=rx;exact⟨q8e I2 g,qaT hu I2 g ry λw' s3 I3 rw'=>⟨v,H2,I3,rw',q2⟩⟩
theorem qbK(hu:X.A.units+1 < cLine)(hi:PE X i ty)(ho:PE X o td):PC X .NotIn i o (zA7 ty td):=by
 intro pins s σ H Q I h;refine thn (hi pins s σ H _ I h) λiv s1 ⟨y,H1,I1,ry,q1⟩=>thn (ho pins s1 σ H1 _ I1 q1) λu s2 ⟨x,H2,I2,rx,a,ov,ex,g,q2⟩=>?_;subst ex;obtain rfl:u=Value.ref a:=rx;exact qdN hu I2 g ry λs3 I3=>⟨.bl (!ov.isSome),H2,I3,rfl,q2⟩
theorem q8C(hu:X.A.units+1 < cLine)(ho:PE X o td)(hi:PE X i ty)(hv:PE X value tv)(hs:swapsWith value (some (.Subscript o i pos')) pos.line X.env=pure false) :
  PS X (.Assign [.Subscript o i pos'] value pos) (sDPut td ty tv):=by
 intro pins s σ H D I h;refine wpAny_Assign_Subscript (thn (hv pins s σ H _ I h) λr s1 ⟨v,H1,I1,rv,q1⟩=>thn (ho pins s1 σ H1 _ I1 q1) λu s2 ⟨x,H2,I2,rx,q2⟩=>thn (hi pins s2 σ H2 _ I2 q2) λiv s3 ⟨y,H3,I3,ry,a,H4,ex,g,q3⟩=>?_) hs;subst ex;obtain rfl:u=Value.ref a:=rx;exact qbo hu I3 g ry rv λs4 I4=>⟨σ,H4,I4,q3⟩
end
theorem q79{P:Program}{w:World}{H:Hp}(h:Heap)(hb:sysModules < h.objs.size):Y3 P w H (h.push { cls:=.type "dict", data:=.dict #[] }) h.objs.size (.dK []) :=
 ⟨zz _,beq_eq_false_iff_ne.mpr (Ne.symm (zt hb)),[],.nil,Heap.DictOf.new h⟩
noncomputable def tDNewK:TE:=λ_ H Q=>∀ p,H p=none->Q (.ref p) (upd H p (.dK []))
section
variable {X:Cx} {pos:Pos}
theorem q46:PE X (.Dict [] [] pos) tDNewK:=λpins s σ H Q I h =>
 wpAny_Dict_empty ⟨.ref s.heap.objs.size,_,I.laid (a:=s.heap.objs.size) (o:=.dK []) (t':=s.toks) (λ_ _ q=>zE _ q) (zJ _) (q79 s.heap I.big),rfl,h _ (I.hok.fresh (zJ _))⟩
end
def zBA:List (TE×TE)->St->Hp->(List (V×V)->Hp->Prop)->Prop
 | [],_,H,Q=>Q [] H
 | (tk,tv)::r,σ,H,Q=>tk σ H λx H1=>tv σ H1 λy H2=>zBA r σ H2 λps H3=>Q ((x,y)::ps) H3
abbrev VV:List (V×V)->List (Value×Value)->Prop:=Paired λp q=>RelV p.1 q.1/\RelV p.2 q.2
def PPs(X:Cx)(pos:Pos)(keys:List (Option Expr))(values:List Expr)(trs:List (TE×TE)):Prop :=
 ∀ (pins:List (Addr×Obj)) (s:Shared) (σ:St) (H:Hp) (Q:List (V×V)->Hp->Prop),Inv X pins σ H s->zBA trs σ H Q ->
  wpAny (model X.prog X.w) X.A (evalPairs (pairTrees keys values X.env pos)) (λvs s'=>∃ ps H',Inv X pins σ H' s'/\VV ps vs/\Q ps H') X.xe s
theorem qdy{X:Cx}{pos:Pos}:PPs X pos [] [] []:=λpins s σ H Q I h=>pairTrees_nil_walk ⟨[],H,I,.nil,h⟩
theorem qcv{X:Cx}{pos:Pos}{k v:Expr}{ks:List (Option Expr)}{vs:List Expr}{tk tv:TE}{trs:List (TE×TE)}(hk:PE X k tk)(hv:PE X v tv)(hr:PPs X pos ks vs trs) :
  PPs X pos (some k::ks) (v::vs) ((tk,tv)::trs):=λpins s σ H Q I h =>
 pairTrees_cons_walk (thn (hk pins s σ H _ I h) λu s1 ⟨x,H1,I1,rx,q1⟩=>thn (hv pins s1 σ H1 _ I1 q1) λw2 s2 ⟨y,H2,I2,ry,q2⟩ =>
  thn (hr pins s2 σ H2 _ I2 q2) λws s3 ⟨ps,H3,I3,rel,q3⟩=>⟨(x,y)::ps,H3,I3,.cons ⟨rx,ry⟩ rel,q3⟩)
noncomputable def WX(kvs more:List (Key×V)):List (Key×V):=more.foldl (λacc kv=>putK acc kv.1 kv.2) kvs
theorem KV.merge:∀ {more:List (Key×V)} {rs:List (Key×Value)} {kvs:List (Key×V)} {vs:List (Key×Value)},KV more rs->KV kvs vs->KV (WX kvs more) (merged vs rs):=by
 intro more rs kvs vs r;unfold KV at r
 induction r generalizing kvs vs with
 | nil=>intro q;exact q
 | @cons p q ps qs h t ih =>
  intro r0;have e:KV (putK kvs p.1 p.2) (stored vs q.1 q.2):=by
   have:=r0.put p.1 h.2;rw[<- h.1];exact this
  exact ih e
theorem q2M:∀ (more kvs:List (Key×V)),(WX kvs more).length <= kvs.length+more.length
 | [],kvs=>by show kvs.length <= kvs.length+0;omega
 | p::r,kvs=>by
  have h1:=q2M r (putK kvs p.1 p.2);have h2:=q2a kvs p.1 p.2;show (WX (putK kvs p.1 p.2) r).length <= _;rw[zL];omega
theorem q4q{P:Program}{w:World}:∀ {kvs:List (Key×V)} {ws:List (Value×Value)},VV (kvs.map λkv=>(kV kv.1,kv.2)) ws->∃ rs,Carries (Yv P w) ws rs/\KV kvs rs
 | [],_,r=>by rw[yc] at r;cases r;exact⟨[],True.intro,.nil⟩
 | p::kvs,_,r=>by
  rw[zg] at r;cases r with
  | @cons a b as bs h t =>
   obtain⟨rs,c,q⟩:=q4q (P:=P) (w:=w) t;obtain⟨b1,b2⟩:=b;exact⟨(p.1,b2)::rs,⟨q2D h.1,rfl,c⟩,.cons ⟨rfl,h.2⟩ q⟩
noncomputable def tDisp(trs:List (TE×TE)):TE:=λσ H Q=>∀ p,H p=none->zBA trs σ (upd H p (.dK [])) λps H2=>H2 p=some (.dK [])/\∃ kvs:List (Key×V),ps=kvs.map (λkv=>(kV kv.1,kv.2))/\kvs.length <= 15/\Q (.ref p) (upd H2 p (.dK (WX [] kvs)))
theorem qeo{X:Cx}{pos:Pos}{keys:List (Option Expr)}{values:List Expr}{trs:List (TE×TE)}(h:PPs X pos keys values trs)(hall:keys.all (·.isSome)=true)(hl:keys.length=values.length)(h0:keys≠[])
  (h15:keys.length <= 15):PE X (.Dict keys values pos) (tDisp trs):=by
 intro pins s σ H Q I q;have hn:=I.hok.fresh (zJ s.heap.objs.size);have I1:=I.laid (a:=s.heap.objs.size) (o:=.dK []) (h':=s.heap.push { cls:=.type "dict", data:=.dict #[] }) (t':=s.toks) (λ_ _ q=>zE _ q) (zJ _) (q79 s.heap I.big);refine wpAny_Dict_walk (knd:=Yv X.prog X.w) hall hl h0 h15 (thn (h pins _ σ _ _ I1 (q _ hn)) λws s2 ⟨ps,H2,I2,rel,e,kvs,ep,lk,q2⟩=>?_);subst ep;obtain⟨rs,c,rk⟩:=q4q (P:=X.prog) (w:=X.w) rel;obtain⟨z,hd,vs0,r0,dd⟩:=q9x I2.hok e;cases r0;refine⟨rs,c,dd,λh' dd' hs=>⟨.ref s.heap.objs.size,_,?_,rfl,q2⟩⟩;have hz:(WX [] kvs).length <= sizeLine:=by
  have h1:=q2M kvs [];rw[xU] at h1;rw[sizeLine_eq];omega
 have he:∃ q,h'.get? s.heap.objs.size=some q:=let ⟨q,_,_,hq,_⟩:=dd';⟨q,hq⟩
 exact q3z I2 (by rw[e];exact True.intro) hs he (q74 hz hd (rk.merge .nil) dd')
structure M2 (X:Cx) (o:Expr) (m:Str) (apos:Pos) (e f:Expr) (cpos:Pos):Prop where
 base:attributeBase o m X.env (eval o X.env)=eval o X.env
 few:((backTo cpos (starEach [e,f] X.env)).all (λx=>!x.1) && (backToKw cpos (keywordEach [] X.env)).all (λx=>x.1.isSome)
  && decide (([e,f]:List Expr).length+([]:List Keyword).length+(if ([]:List Keyword).isEmpty then 0 else 1) < 30))=true
 line:(apos.endLine == cpos.line)=true
 trees:backTo cpos (starEach [e,f] X.env)=[(false,eval e X.env),(false,eval f X.env)]
def IsD(H:Hp)(a:Addr):Prop:=(∃ kvs,Rd H a (.dK kvs))\/∃ kvs,Rd H a (.dT kvs)
theorem qaM{X:Cx}{pins:List (Addr×Obj)}{σ:St}{H:Hp}{s:Shared}{a:Addr}(I:Inv X pins σ H s)(d:IsD H a) :
  s.TypeIs (.ref a) "dict" /\ (∀ b,Value.ref a=.ref b->∃ ob,s.heap.get? b=some ob/\ob.dict=none)/\(a == sysModules)=false:=by
 rcases d with⟨kvs,e⟩|⟨kvs,e⟩
 ·obtain⟨_,hd,vs,_,dd⟩:=q2q I.hok e
  refine⟨dd.typeIs,λb q=>?_,hd⟩;cases q;obtain⟨ob,_,_,h1,h2,_⟩:=dd;exact⟨ob,h1,h2.2.1⟩
 ·obtain⟨_,hd,xs,_,dd⟩:=q3l I.hok e
  refine⟨dd.typeIs,λb q=>?_,hd⟩;cases q;obtain⟨ob,_,_,h1,h2,_⟩:=dd;exact⟨ob,h1,h2.2.1⟩
section
variable {X:Cx} {pins:List (Addr×Obj)} {σ:St} {H:Hp} {s:Shared} {a:Addr} {y d:V} {u r:Value} {o:Option V} {A:Around} {E:Value->Shared->Prop}
theorem qfz{Q:Value->Shared->Prop}(hu:A.units+1 < cLine)(I:Inv X pins σ H s)(g:Wi H a y o)(ry:RelV y u)(rd:RelV d r)(h:∀ w' s',Inv X pins σ H s'->RelV (o.getD d) w'->Q w' s') :
  wpAny (model X.prog X.w) A (call (.builtin "dict.get") [.ref a,u,r]) Q E s:=by
 rcases g with⟨kvs,k,e,ey,l⟩|⟨kvs,k,b,e,ey,eb,l⟩
 ·subst ey
  obtain⟨z,hd,vs,rel,dd⟩:=q2q I.hok e;refine call_meetsIn PySem.F.slot_dict_get dd.typeIs PySem.F.entry_dict_get (PySem.F.args_dict_get_3 _ _ _) (meets_dict_get_default (Yv X.prog X.w) a (q2D ry) hd r) ⟨_,dd.mapOf,h _ _ (I.tok _) ?_⟩;rw[l];exact(rel.val k).getD rd
 ·subst ey
  cases (show u=Value.ref b from ry);obtain⟨z,hd,xs,rel,dd⟩:=q3l I.hok e;refine call_meetsIn PySem.F.slot_dict_get dd.typeIs PySem.F.entry_dict_get (PySem.F.args_dict_get_3 _ _ _) (meetsH_dict_get_default (tupleKind (Yv X.prog X.w)) a b hd r) ⟨tupleKind_room_in1 hu,k,xs,q30 I.hok eb,dd,h _ _ (I.tok _) ?_⟩;rw[l];exact(rel.val k).getD rd
end
noncomputable def zA3(td ty tx:TE):TE:=λσ H Q=>td σ H λx H1=>∃ a,x=.ref a/\IsD H1 a/\ty σ H1 λy H2=>tx σ H2 λz H3=>∃ o,Wi H3 a y o/\Q (o.getD z) H3
section
variable {X:Cx} {o e f:Expr} {apos cpos:Pos} {td ty tx:TE}
theorem q72(hu:X.A.units+1 < cLine)(ho:PE X o td)(he:PE X e ty)(hf:PE X f tx)(m:M2 X o "get" apos e f cpos):PE X (.Call (.Attribute o "get" apos) [e,f] [] cpos) (zA3 td ty tx):=by
 intro pins s σ H Q I h;refine wpAny_Call_method m.base m.few m.line PySem.F.plainAttrs_dict PySem.F.slot_dict_get PySem.F.type_dict_get (thn (ho pins s σ H _ I h) λu s1 ⟨x,H1,I1,rx,a,ex,d,q1⟩=>?_);subst ex;obtain rfl:u=Value.ref a:=rx;obtain⟨t1,t2,_⟩:=qaM I1 d;refine⟨t1,t2,?_⟩;rw[m.trees];refine Calls.callWith_builtin rfl (Calls.evalArgs_plain (Calls.spliced_cons (thn (he pins s1 σ H1 _ I1 q1) λiv s2 ⟨y,H2,I2,ry,q2⟩ =>
  Calls.spliced_cons (thn (hf pins s2 σ H2 _ I2 q2) λfv s3 ⟨z,H3,I3,rz,ov,g,q3⟩=>Calls.spliced_nil ?_))))
 exact qfz hu I3 g ry rz λw' s4 I4 rw'=>⟨_,H3,I4,rw',q3⟩
end
section
variable {X:Cx} {pins:List (Addr×Obj)} {σ:St} {H:Hp} {s:Shared} {a:Addr} {kvs:List (Key×V)} {A:Around} {E:Value->Shared->Prop}
end
section
variable {X:Cx} {pins:List (Addr×Obj)} {σ:St} {H:Hp} {s:Shared} {a:Addr} {y:V} {u:Value} {A:Around} {E:Value->Shared->Prop}
end
end L2
namespace Hk
open PySem L2
noncomputable def Yw{α:Type}:List Int->List α->Int->Option α
 | k'::ks,x::xs,k=>if k'=k then some x else Yw ks xs k
 | _,_,_=>none
noncomputable def repA{α:Type}:List Int->List α->Int->α->List α
 | k'::ks,x::xs,k,y=>(if k'=k then y else x)::repA ks xs k y
 | _,xs,_,_=>xs
noncomputable def X3(ks:List Int)(k:Int):List Int:=if k∈ks then ks else ks++[k]
noncomputable def putA{α:Type}(ks:List Int)(xs:List α)(k:Int)(y:α):List α:=if k∈ks then repA ks xs k y else xs++[y]
theorem q7g{α:Type}:∀ (ks:List Int) (xs:List α) (k:Int) (y:α),(repA ks xs k y).length=xs.length
 | [],xs,_,_=>rfl
 | _::_,[],_,_=>rfl
 | k'::ks,x::xs,k,y=>by show (repA ks xs k y).length+1=xs.length+1;rw[q7g ks xs k y]
theorem qdP{α:Type}{ks:List Int}{xs:List α}(k:Int)(y:α)(h:ks.length=xs.length):(X3 ks k).length=(putA ks xs k y).length:=by
 unfold X3 putA
 by_cases z:k∈ks
 ·rw[if_pos z,if_pos z,q7g];exact h
 ·rw[if_neg z,if_neg z,zC,zC,h];rfl
theorem qP:∀ {ks:List Int} {vs:List V},ks.length=vs.length->∀ k,WM (kvsOf ks vs) (Sum.inl k)=Yw ks vs k
 | [],[],_,k=>rfl
 | [],_::_,h,_=>by simp at h
 | _::_,[],h,_=>by simp at h
 | k'::ks,v::vs,h,k=>by
  show WM ((Sum.inl k',v)::kvsOf ks vs) (Sum.inl k)=if k'=k then some v else Yw ks vs k
  by_cases z:k'=k
  ·rw[if_pos z,q2x (p:=((Sum.inl k':Key),v)) (by rw[z])]
  ·rw[if_neg z,q2C (p:=((Sum.inl k':Key),v)) (λe=>z (Sum.inl.inj e))]
   exact qP (by simpa using h) k
theorem q1f:∀ {ks:List Int} {vs:List V},ks.length=vs.length->(kvsOf ks vs).length=ks.length
 | [],[],_=>rfl
 | [],_::_,h=>by simp at h
 | _::_,[],h=>by simp at h
 | k'::ks,v::vs,h=>by show (kvsOf ks vs).length+1=_;rw[q1f (by simpa using h)];rfl
theorem q4H:∀ {ks:List Int} {vs:List V},ks.length=vs.length->(kvsOf ks vs).map (·.1)=ks.map (Sum.inl:Int->Key)
 | [],[],_=>rfl
 | [],_::_,h=>by simp at h
 | _::_,[],h=>by simp at h
 | k'::ks,v::vs,h=>by show (Sum.inl k':Key)::(kvsOf ks vs).map (·.1)=_;rw[q4H (by simpa using h)];rfl
theorem q5W:∀ {ks:List Int} {vs:List V},ks.length=vs.length->∀ k,(kvsOf ks vs).any (λkv=>decide (kv.1=(Sum.inl k:Key)))=decide (k∈ks)
 | [],[],_,_=>rfl
 | [],_::_,h,_=>by simp at h
 | _::_,[],h,_=>by simp at h
 | k'::ks,v::vs,h,k=>by
  show (decide ((Sum.inl k':Key)=Sum.inl k) || (kvsOf ks vs).any _)=_;rw[q5W (by simpa using h) k];have e:decide ((Sum.inl k':Key)=Sum.inl k)=decide (k'=k):=by
   by_cases z:k'=k
   ·rw[z];simp
   ·rw[decide_eq_false z,decide_eq_false (λe=>z (Sum.inl.inj e))]
  rw[e];simp only[zF]
  by_cases z:k'=k
  ·simp[z]
  ·have:¬k=k':=λy=>z y.symm
   simp[z,this]
theorem q6g:∀ {ks:List Int} {vs:List V},ks.length=vs.length->∀ (k:Int) (v:V),(kvsOf ks vs).map (λkv=>if kv.1=(Sum.inl k:Key) then (kv.1,v) else kv)=kvsOf ks (repA ks vs k v)
 | [],[],_,_,_=>rfl
 | [],_::_,h,_,_=>by simp at h
 | _::_,[],h,_,_=>by simp at h
 | k'::ks,u::vs,h,k,v=>by
  show (if (Sum.inl k':Key)=Sum.inl k then ((Sum.inl k':Key),v) else (Sum.inl k',u))::(kvsOf ks vs).map _=(Sum.inl k',if k'=k then v else u)::kvsOf ks (repA ks vs k v);rw[q6g (by simpa using h) k v]
  by_cases z:k'=k
  ·rw[if_pos (by rw[z]),if_pos z]
  ·rw[if_neg (λe=>z (Sum.inl.inj e)),if_neg z]
theorem q4y:∀ {ks:List Int} {vs:List V},ks.length=vs.length->∀ (k:Int) (v:V),kvsOf ks vs++[(Sum.inl k,v)]=kvsOf (ks++[k]) (vs++[v])
 | [],[],_,_,_=>rfl
 | [],_::_,h,_,_=>by simp at h
 | _::_,[],h,_,_=>by simp at h
 | k'::ks,u::vs,h,k,v=>by show _::(kvsOf ks vs++[(Sum.inl k,v)])=_;rw[q4y (by simpa using h) k v];rfl
theorem q2W{ks:List Int}{vs:List V}(h:ks.length=vs.length)(k:Int)(v:V):putK (kvsOf ks vs) (Sum.inl k) v=kvsOf (X3 ks k) (putA ks vs k v):=by
 unfold putK X3 putA;rw[q5W h]
 by_cases z:k∈ks
 ·rw[if_pos (decide_eq_true z),if_pos z,if_pos z];exact q6g h k v
 ·rw[if_neg (by rw[decide_eq_false z];decide),if_neg z,if_neg z];exact q4y h k v
section
variable {K:zA} {G:Hp}
theorem Yo.val:∀ {ks:List Int} {ds:List D} {vs:List V} {k:Int} {d:D},Yo K G ds vs->Yw ks ds k=some d->∃ v,Yw ks vs k=some v/\Rep K G d v
 | [],_,_,_,_,_,e=>by cases e
 | _::_,[],_,_,_,_,e=>by cases e
 | k'::ks,d'::ds,_,k,d,⟨v,r,h1,h2,h3⟩,e=>by
  subst h1;have e:(if k'=k then some d' else Yw ks ds k)=some d:=e;show ∃ u,(if k'=k then some v else Yw ks r k)=some u/\_
  by_cases z:k'=k
  ·rw[if_pos z] at e ⊢;cases e;exact⟨v,rfl,h2⟩
  ·rw[if_neg z] at e ⊢;exact Yo.val h3 e
theorem Yo.isVal:∀ {ks:List Int} {ds:List D} {vs:List V} (k:Int),Yo K G ds vs->(Yw ks vs k).isSome=(Yw ks ds k).isSome
 | [],_,_,_,_=>rfl
 | _::_,[],_,_,h=>by cases (show _=[] from h);rfl
 | k'::ks,d'::ds,_,k,⟨v,r,h1,h2,h3⟩=>by
  subst h1;show (if k'=k then some v else Yw ks r k).isSome=(if k'=k then some d' else Yw ks ds k).isSome
  by_cases z:k'=k
  ·rw[if_pos z,if_pos z];rfl
  ·rw[if_neg z,if_neg z];exact Yo.isVal k h3
theorem Yo.repA:∀ {ks:List Int} {ds:List D} {vs:List V} (k:Int) {d:D} {v:V},Yo K G ds vs->Rep K G d v->Yo K G (Hk.repA ks ds k d) (Hk.repA ks vs k v)
 | [],_,_,_,_,_,h,_=>h
 | _::_,[],_,_,_,_,h,_=>by cases (show _=[] from h);rfl
 | k'::ks,d'::ds,_,k,d,v,⟨u,r,h1,h2,h3⟩,hv=>by
  subst h1;refine⟨_,_,rfl,?_,Yo.repA k h3 hv⟩
  by_cases z:k'=k
  ·rw[if_pos z,if_pos z];exact hv
  ·rw[if_neg z,if_neg z];exact h2
theorem Yo.putA{ks:List Int}{ds:List D}{vs:List V}(k:Int){d:D}{v:V}(h:Yo K G ds vs)(hv:Rep K G d v):Yo K G (Hk.putA ks ds k d) (Hk.putA ks vs k v):=by
 unfold Hk.putA
 by_cases z:k∈ks
 ·rw[if_pos z,if_pos z];exact h.repA k hv
 ·rw[if_neg z,if_neg z];exact h.app (Yo.cons hv Yo.nil)
end
noncomputable def WR:Option (Option W)->Option (List Int×List D)
 | some (some (.od ks ds))=>some (ks,ds)
 | some (some (.sh (.dic ks ds)))=>some (ks,ds)
 | _=>none
theorem q9a{H H':Hp}{p:Addr}{u:HO}(e:Yz H H')(h:Rd H p u):Rd H' p u:=by
 rcases h with h|⟨o,h⟩
 ·exact .inl (e _ _ h)
 ·exact .inr ⟨o,e _ _ h⟩
theorem q8T{H:Hp}{a:Addr}{kvs:List (Key×V)}{k:Key}(e:Rd H a (.dK kvs)):Wi H a (kV k) (WM kvs k):=.inl ⟨kvs,k,e,rfl,rfl⟩
theorem Own.dic{K:zA}{G0:Hp}{H0:Fr}{G:Hp}{ω:WSt}{σ:St}{H:Hp}{i:Nat}{ks:List Int}{ds:List D}(o:Own K G0 H0 G ω σ H)(h:WR ω[i]?=some (ks,ds)) :
  ∃ p vs,σ[i]?=some (some (.ref p))/\Rd H p (.dK (kvsOf ks vs))/\ks.length=ds.length/\Yo K G ds vs:=by
 unfold WR at h
 split at h
 ·rename_i q
  cases h;obtain⟨p,vs,h1,h2,_,_,h5,h6,_⟩:=o.od i _ _ q;exact⟨p,vs,h1,.inl h2,h5,h6⟩
 ·rename_i q
  cases h;obtain⟨v,h1,p,vs,rfl,⟨ob,h2⟩,h3,h4⟩:=o.sh i _ q;exact⟨p,vs,h1,.inr ⟨ob,o.gh _ _ h2⟩,h3,h4⟩
 ·cases h
section
variable {X:Cx} {o k e:Expr} {pos pos' dpos:Pos} {i:Nat} {fk fv:FD}
theorem hu1(hu:X.A.units+64 < cLine):X.A.units+1 < cLine:=by omega
noncomputable def zBL(i:Nat):FS:=λω=>some (.nx,ω.set i (some (.od [] [])))
theorem q5L{x:Str}(hN:X.N.Nodup)(hi:X.N[i]?=some x)(hx:Loc X.env.scope x)(hs:swapsWith (.Dict [] [] dpos) (some (.Name x pos')) pos.line X.env=pure false:=by rfl)(hf:X.fn x=true\/X.env.scope.names.lookup x=some .local:=by first|exact .inl rfl|exact .inr rfl|assumption) :
  XS X (.Assign [.Name x pos'] (.Dict [] [] dpos) pos) (zBL i):=by
 refine⟨_,qT hN hi hx q46 hs hf,λG0 H0 G ω σ H out ω' E ow e k=>?_⟩;cases e;intro p hp;have o1:=ow.keep (Ext.hide ow.gh hp (.dK []));refine k G _ _ (o1.setOd (ks:=[]) (ds:=[]) (vs:=[]) qd (ow.gh.free hp) (ow.ext.hh.free hp) rfl Yo.nil λj ks' es hj z=>?_) (Yz.refl _);obtain⟨q,us,h1,h2,_⟩:=ow.od j ks' es hj;rw[h1] at z;cases z;rw[hp] at h2;cases h2
noncomputable def zAi(i:Nat)(fk fv:FD):FS:=λω=>(fv ω).bind λd=>(fk ω).bind λc=>match c,ω[i]? with
 | .int k,some (some (.od ks ds))=>if ks.length < 1000000 then some (.nx,ω.set i (some (.od (X3 ks k) (putA ks ds k d)))) else none
 | _,_=>none
theorem q3u(hu:X.A.units+64 < cLine)(ho:PE X o (XF i))(hk:XD X k fk)(hv:XD X e fv)(hs:swapsWith e (some (.Subscript o k pos')) pos.line X.env=pure false:=by rfl):XS X (.Assign [.Subscript o k pos'] e pos) (zAi i fk fv):=by
 obtain⟨tk,h1,h2⟩:=hk;obtain⟨tv,h3,h4⟩:=hv;refine⟨_,q8C (hu1 hu) ho h1 h3 hs,λG0 H0 G ω σ H out ω' E ow e kk=>?_⟩;obtain⟨d,q1,e⟩:=bnd e;obtain⟨c,q2,e⟩:=bnd e;refine h4 G0 H0 G ω σ H d _ ow q1 λv G1 H1 x1 y1=>?_;cases c with
 | int k =>
  split at e
  ·rename_i _ _ _ k' ks ds ek q3
   cases ek
   by_cases z:ks.length < 1000000
   ·rw[if_pos z] at e
    cases e;have o1:=ow.keep x1;obtain⟨p,vs,r1,r2,r3,r4,r5,r6,r7⟩:=o1.od i ks ds q3;refine⟨.ref p,r1,h2 G0 H0 G1 ω σ H1 _ _ o1 q2 λu G2 H2 x2 y2=>?_⟩;cases (show u=.int k from y2);have o2:=o1.keep x2;have hl:ks.length=vs.length:=by rw[r5];exact r6.len
    refine⟨p,_,rfl,zCK.k (k:=Sum.inl k) (x2.hh _ _ r2) (by rw[q1f hl,sizeLine_eq];omega),?_⟩;rw[q2W hl];exact kk G2 σ _ (o2.mutD q3 r1 (x2.hh _ _ r2) (x2.new p r3 (by rw[r2];exact λz=>by cases z)) r4 (qdP k d r5) ((r6.mono x2.gg).putA k (y1.mono x2.gg))) (x1.gg.trans x2.gg)
   ·rw[if_neg z] at e;cases e
  ·cases e
 | _=>cases e
noncomputable def zAA(i:Nat)(fk:FD):FE:=λω=>(WR ω[i]?).bind λp=>(fk ω).bind λc=>match c with
 | .int k=>(Yw p.1 p.2 k).map R.sh
 | _=>none
theorem q2i(hu:X.A.units+64 < cLine)(ho:PE X o (XF i))(hk:XD X k fk)(hs:NoSl k:=by intro _ _;rfl):XE X (.Subscript o k pos) (zAA i fk):=by
 obtain⟨tk,h1,h2⟩:=hk;refine⟨_,q3B (hu1 hu) ho h1 hs,λG0 H0 G ω σ H r Q ow e kk=>?_⟩;obtain⟨⟨ks,ds⟩,q1,e⟩:=bnd e;obtain⟨c,q2,e⟩:=bnd e;obtain⟨p,vs,r1,r2,r3,r4⟩:=ow.dic q1;refine⟨.ref p,r1,h2 G0 H0 G ω σ H c _ ow q2 λu G1 H1 x1 y1=>?_⟩;cases c with
 | int k =>
  cases (show u=.int k from y1);obtain⟨d,q3,e⟩:=mpd e;subst e;obtain⟨v,z1,z2⟩:=r4.val q3;have hl:ks.length=vs.length:=by rw[r3];exact r4.len
  have g:=q8T (k:=(Sum.inl k:Key)) (q9a x1.hh r2);rw[qP hl,z1] at g;exact⟨p,v,rfl,g,kk v G1 H1 x1 (z2.mono x1.gg)⟩
 | _=>cases e
noncomputable def zAq(neg:Bool)(i:Nat)(fk:FD):FT:=λω=>(fk ω).bind λc=>(WR ω[i]?).bind λp=>match c with
 | .int k=>some (if neg then !(Yw p.1 p.2 k).isSome else (Yw p.1 p.2 k).isSome)
 | _=>none
theorem qen{tk:TE}{neg:Bool}(h2:zAp X.K tk fk):zAU X.K (tB (if neg then zA7 tk (XF i) else L2.tDIn tk (XF i))) (zAq neg i fk):=by
 intro G0 H0 G ω σ H b Q ow e kk;obtain⟨c,q2,e⟩:=bnd e;obtain⟨⟨ks,ds⟩,q1,e⟩:=bnd e;cases c with
 | int k =>
  have fin:∀ (u:V) G1 H1,Ext G H G1 H1->u=.int k->∃ p vs,σ[i]?=some (some (.ref p))/\Wi H1 p u (Yw ks vs k)/\(Yw ks vs k).isSome=(Yw ks ds k).isSome:=λu G1 H1 x1 hu=>by
   subst hu;obtain⟨p,vs,r1,r2,r3,r4⟩:=ow.dic q1;have hl:ks.length=vs.length:=by rw[r3];exact r4.len
   have g:=q8T (k:=(Sum.inl k:Key)) (q9a x1.hh r2);rw[qP hl] at g;exact⟨p,vs,r1,g,Yo.isVal k r4⟩
  cases neg with
  | true =>
   refine h2 G0 H0 G ω σ H _ _ ow q2 λu G1 H1 x1 y1=>?_;obtain⟨p,vs,r1,g,hs⟩:=fin u G1 H1 x1 y1;refine⟨.ref p,r1,p,_,rfl,g,_,rfl,?_⟩;cases e;rw[hs];exact kk G1 H1 x1
  | false =>
   refine h2 G0 H0 G ω σ H _ _ ow q2 λu G1 H1 x1 y1=>?_;obtain⟨p,vs,r1,g,hs⟩:=fin u G1 H1 x1 y1;refine⟨.ref p,r1,p,_,rfl,g,_,rfl,?_⟩;cases e;rw[hs];exact kk G1 H1 x1
 | _=>cases e
theorem q65(hu:X.A.units+64 < cLine)(hk:XD X k fk)(ho:PE X o (XF i))(hb:behindInMarks .NotIn o=false:=by rfl):XT X (.Compare k [.NotIn] [o] pos) (zAq true i fk):=by
 obtain⟨tk,h1,h2⟩:=hk;exact⟨_,qff (qbK (hu1 hu) h1 ho) hb,qen (neg:=true) h2⟩
end
section
variable {X:Cx} {o k e:Expr} {pos pos' dpos:Pos} {i:Nat} {fk fv:FD}
noncomputable def zBO(i:Nat)(fk fv:FD):FS:=λω=>(fk ω).bind λc=>(fv ω).bind λd=>match c with
 | .int k=>some (.nx,ω.set i (some (.od [k] [d])))
 | _=>none
theorem qcA{x:Str}(hN:X.N.Nodup)(hi:X.N[i]?=some x)(hx:Loc X.env.scope x)(hk:XD X k fk)(hv:XD X e fv)(hs:swapsWith (.Dict [some k] [e] dpos) (some (.Name x pos')) pos.line X.env=pure false:=by rfl)(hf:X.fn x=true\/X.env.scope.names.lookup x=some .local:=by first|exact .inl rfl|exact .inr rfl|assumption) :
  XS X (.Assign [.Name x pos'] (.Dict [some k] [e] dpos) pos) (zBO i fk fv):=by
 obtain⟨tk,h1,h2⟩:=hk;obtain⟨tv,h3,h4⟩:=hv;refine⟨_,qT hN hi hx (qeo (qcv h1 h3 qdy) rfl rfl (by simp) (by show 1 <= 15;decide)) hs hf,λG0 H0 G ω σ H out ω' E ow e kk=>?_⟩;obtain⟨c,q1,e⟩:=bnd e;obtain⟨d,q2,e⟩:=bnd e;cases c with
 | int k =>
  cases e;intro p hp;have x0:=Ext.hide ow.gh hp (.dK []);have o1:=ow.keep x0;refine h2 G0 H0 G ω σ _ _ _ o1 q1 λu G1 H1 x1 y1=>?_;cases (show u=.int k from y1);have o2:=o1.keep x1;refine h4 G0 H0 G1 ω σ H1 d _ o2 q2 λv G2 H2 x2 y2=>?_;have o3:=o2.keep x2;have hp2:H2 p=some (.dK []):=x2.hh _ _ (x1.hh _ _ qd);have gp1:G1 p=none:=x1.new p (ow.gh.free hp) (by rw[qd];exact λz=>by cases z);have gp2:G2 p=none:=x2.new p gp1 (by rw[x1.hh _ _ qd];exact λz=>by cases z);have h0p:H0 p=none:=ow.ext.hh.free hp;refine⟨hp2,[(Sum.inl k,v)],rfl,by show 1 <= 15;decide,?_⟩;have em:WX [] [((Sum.inl k:Key),v)]=kvsOf [k] [v]:=by
   show putK [] (Sum.inl k:Key) v=_;unfold putK;rw[if_neg (by simp)];rfl
  rw[em];have ext4:Ext G0 H0.hp G2 (upd H2 p (.dK (kvsOf [k] [v]))):=⟨o3.ext.gg,Yy o3.ext.gh gp2 _,Yy o3.ext.hh h0p _,o3.ext.new⟩;have np:∀ (j:Nat) ds',ω[j]?=some (some (.ow ds'))->∀ l vs,σ[j]?=some (some (.ref l))->H2 l=some (.lst vs)->l≠p:=λj ds' hj l vs _ h z=>by rw[z,hp2] at h;cases h
  have npd:∀ (j:Nat) ks' es,ω[j]?=some (some (.od ks' es))->σ[j]?≠some (some (.ref p)):=λj ks' es hj z=>by
   obtain⟨q,us,w1,w2,_⟩:=ow.od j ks' es hj;rw[w1] at z;cases z;rw[hp] at w2;cases w2
  have o4:Own X.K G0 H0 G2 ω σ (upd H2 p (.dK (kvsOf [k] [v]))):=by
   refine⟨ext4,o3.len,o3.sh,λj ds' hj=>?_,o3.nd,λj ks' es hj=>?_,o3.pw.upd (o3.pw.ne_ob λvs z=>by rw[hp2] at z;cases z)⟩
   ·obtain⟨l,vs,w1,w2,w3,w4,w5⟩:=o3.ow j ds' hj
    exact⟨l,vs,w1,by rw[qc (np j ds' hj l vs w1 w2)];exact w2,w3,w4,w5⟩
   ·obtain⟨q,us,w1,w2,w3,w4,w5,w6,w7⟩:=o3.od j ks' es hj
    have nq:q≠p:=λz=>npd j ks' es hj (by rw[<- z];exact w1);exact⟨q,us,w1,by rw[qc nq];exact w2,w3,w4,w5,w6,w7⟩
  exact kk G2 _ _ (o4.setOd (ks:=[k]) (ds:=[d]) (vs:=[v]) qd gp2 h0p rfl (Yo.cons y2 Yo.nil) npd) (x1.gg.trans x2.gg)
 | _=>cases e
end
section
open PySem.Spec PyProof.Rows PySem.W
theorem q8K:∀ (vs:List Value) (ns:List Int),vs.length=ns.length->(∀ (j:Nat) v n,vs[j]?=some v->ns[j]?=some n->∃ t,v=.int n t)->IntsAre vs ns
 | [],[],_,_=>.nil
 | [],_::_,h,_=>by simp at h
 | _::_,[],h,_=>by simp at h
 | v::vs,n::ns,h,f=>by
  obtain⟨t,rfl⟩:=f 0 v n rfl rfl;exact .cons _ _ (q8K vs ns (by simpa using h) λj a b e1 e2=>f (j+1) a b (by simpa using e1) (by simpa using e2))
variable {prog:Program} {w:World} {A:Around} {E:Value->Shared->Prop} {s:Shared}
theorem q8i{a:Addr}{kvs:List (Key×Value)}{ns:List Int}{Q:Value->Shared->Prop}(hh:A.handled=none)(lo:(a == sysModules)=false)(dd:s.heap.DictOf (Yv prog w) a kvs)(hk:kvs.map (·.1)=ns.map (Sum.inl:Int->Key))(h64:ns.length < 64)
  (h:∀ (h1 h':Heap) (tk:Nat) (vs:List Value) (ys:List Int) (n:Nat),(∀ b o,s.heap.get? b=some o->h1.get? b=some o)->(∀ b o,h1.get? b=some o->h'.get? b=some o)->h'.get? h1.objs.size=some (seqObj "list" vs.toArray n)->IntsAre vs ys->ys.Perm ns->ys.Pairwise (· <= ·)->Q (.ref h1.objs.size) { s with heap:=h',toks:=tk }) :
  wpAny (model prog w) A (call (.builtin "sorted") [.ref a]) Q E s:=by
 obtain⟨ep,hat⟩:=dd.dictAt;have hkl:kvs.length=ns.length:=by have:=congrArg xX hk;simpa using this
 refine Calls.call_function_entry kind_sorted plain_sorted entry_sorted (args_sorted1 _) ?_;unfold Builtin.«sorted»;refine wpAny_bind (m:=checkCount "sorted" 1 1 _) (wpAny_pure ?_);refine wpAny_bind (kdu_collect (A:=A.in1) (kdl_dict (knd:=Yv prog w) (kvs:=kvs) (ep:=ep) lo) hh hat (by rw[hkl];exact yG (yQ h64) (by decide)) λh1 tk acc hk1 hacc=>?_);have y1:IntsAre acc.toList ns:=by
  refine q8K _ _ (by rw[zM,hacc.1,hkl]) λj v n e1 e2=>?_;obtain⟨k,x,hx,hi⟩:=hacc.2 j v (by rw[<- zZ];exact e1);have e3:(kvs.map (·.1))[j]?=some k:=by rw[za,hx];rfl
  rw[hk,za,e2] at e3;cases e3;rcases qv (k:=(Sum.inl n:Key)) hi with⟨i,t,e4,rfl⟩|⟨x,t,e4,_⟩
  ·cases e4;exact⟨t,rfl⟩
  ·cases e4
 have hlen:acc.toList.length=ns.length:=IntsAre.length y1;refine wpAny_bind (wpAny_newList ?_ (yG (by rw[hlen];exact yQ h64) (by decide)));generalize acc.toList=vs at y1 hlen;have hoL:(h1.push (seqObj "list" vs.toArray 0)).get? h1.objs.size=some (seqObj "list" vs.toArray 0):=zR _ rfl;refine wpAny_bind (wpAny_holding (wpAny_call_entry slot_list_sort ⟨_,hoL,rfl⟩ entry_list_sort (list_sort_tree hoL y1 (by rw[hlen];exact h64) λout ns' a1 a2 a3=>⟨_,rfl,?_⟩) (args_list_sort _)));obtain⟨n,hn⟩:=sortedHeap_at (vs:=vs) (out:=out) hoL;refine wpAny_pure ⟨_,rfl,h h1 _ tk out.toList ns' n hk1 (λb o e1=>?_) ?_ a1 a2 a3⟩
 ·rw[sortedHeap_old (zt (zO e1)) (by rw[yd];exact yN (zO e1))]
  exact zE _ e1
 ·rw[xb];exact hn
end
def rSortD:List V->Hp->VK->Prop:=λxs H Q=>∃ p kvs ns,xs=[.ref p]/\Rd H p (.dK kvs)/\kvs.map (·.1)=ns.map (Sum.inl:Int->Key)/\ns.length < 64/\∀ l,H l=none->Q (.ref l) (upd H l (.lst ((Yt ns).map V.int)))
section
variable {X:Cx} {o:Expr} {i:Nat}
theorem qab(hc:X.calm=true):Xl X (.builtin "sorted") rSortD:=by
 intro pins s σ H xs us Q I r h;obtain⟨p,kvs,ns,rfl,hp,hk,hz,q⟩:=h;obtain⟨u,rfl,rx⟩:=vals1 r;cases rx;obtain⟨_,lo,vs,rel,dd⟩:=q2q I.hok hp;refine q8i (I.ok.hd hc) lo dd (by rw[<- rel.keys];exact hk) hz λh1 h' tk us ys n k1 k2 g1 a1 a2 a3=>?_;have en:ys=Yt ns:=q0N a3 q0m (a2.trans qq.symm);subst en;have I1:Inv X pins σ H { s with heap:=h1,toks:=tk }:=I.kept k1;have hsl:(Yt ns).length <= sizeLine:=by rw[q3e];exact yG (yQ hz) (by decide)
 have I2:=I1.laid (a:=h1.objs.size) (o:=.lst ((Yt ns).map V.int)) (t':=tk) (h':=h') k2 (zJ _)
  (show Y3 X.prog X.w _ h' _ (.lst _) from ⟨by rw[zB];exact hsl,us,n,q0F a1,g1⟩)
 exact⟨.ref _,_,I2,rfl,q _ (I1.hok.fresh (zJ _))⟩
noncomputable def zBG(i:Nat):FE:=λω=>(WR ω[i]?).bind λp=>if p.1.length < 64 then some (.fr ((Yt p.1).map D.int)) else none
theorem qcb{p q:Pos}(hc:X.calm=true)(hg:Gl X "sorted")(hm:X.mg "sorted" = none)(ho:PE X o (XF i))
  (he:starEach [o] X.env=(false,eval o X.env)::starEach [] X.env:=by rfl) (hpl:(backTo q (starEach [] X.env)).any (·.1)=false:=by rfl):XE X (.Call (.Name "sorted" p) [o] [] q) (zBG i):=by
 refine⟨_,q1b (qab hc) hg hm q1i (qr ho qo he) (by decide) (by decide) he hpl,λG0 H0 G ω σ H r Q ow e k=>?_⟩;obtain⟨⟨ks,ds⟩,q1,e⟩:=bnd e;obtain⟨p,vs,r1,r2,r3,r4⟩:=ow.dic q1
 by_cases hz:ks.length < 64
 ·have e:(if ks.length < 64 then some (R.fr ((Yt ks).map D.int)) else none)=some r:=e
  rw[if_pos hz] at e;cases e;refine⟨.ref p,r1,p,_,ks,rfl,r2,q4H (by rw[r3];exact r4.len),hz,λl hl=>?_⟩;have x2:=Ext.hide ow.gh hl (.lst ((Yt ks).map V.int));exact k _ G _ x2 ⟨l,_,rfl,hl,ow.gh.free hl,qd,Yo.ints _⟩
 ·have e:(if ks.length < 64 then some (R.fr ((Yt ks).map D.int)) else none)=some r:=e
  rw[if_neg hz] at e;cases e
noncomputable def zBf(i:Nat):FM:=λω=>match ω[i]? with
 | some (some (.ow ds))=>(ds[ds.length - 1]?).map λd=>(d,ω.set i (some (.ow ds.dropLast)))
 | _=>none
theorem Yo.dropLast{K:zA}{H:Hp}{ds:List D}{vs:List V}(h:Yo K H ds vs):Yo K H ds.dropLast vs.dropLast:=by
 rw[ZU,ZU,h.len];exact h.take _
theorem qe2{apos cpos:Pos}(ho:PE X o (XF i))(hbase:attributeBase o "pop" X.env (eval o X.env)=eval o X.env:=by rfl)(hline:(apos.endLine == cpos.line)=true:=by rfl) :
  XM X (.Call (.Attribute o "pop" apos) [] [] cpos) (zBf i):=by
 refine⟨_,q7o PySem.F.plainAttrs_list PySem.F.slot_list_pop PySem.F.type_list_pop q7P ho hbase hline,λG0 H0 G ω σ H d ω' Q ow e k=>?_⟩;unfold zBf at e
 split at e
 ·rename_i ds q2
  obtain⟨d1,hd,e⟩:=mpd e;cases e;obtain⟨l,vs,r1,r2,r3,r4,r5⟩:=ow.ow i ds q2;obtain⟨y,hy,ry⟩:=r5.get hd;refine⟨.ref l,r1,.inl ⟨rfl,vs,SqL.of r2⟩,l,vs,y,rfl,rfl,r2,by rw[<- r5.len];exact hy,k y G _ (ow.mut q2 r1 r2 r3 r4 r5.dropLast) (Yz.refl _) ry⟩
 ·cases e
end
noncomputable def WK:List Int->List (List Int)->Int->Int->List (List Int)
 | k::ks,x::xs,a,b=>if k=a then (x++[b])::xs else x::WK ks xs a b
 | _,xs,_,_=>xs
theorem q3S:∀ (ks:List Int) (xs:List (List Int)) (a b:Int),(WK ks xs a b).length=xs.length
 | [],_,_,_=>rfl
 | _::_,[],_,_=>rfl
 | k::ks,x::xs,a,b=>by
  unfold WK
  by_cases z:k=a
  ·rw[if_pos z];rfl
  ·rw[if_neg z,zL,zL,q3S ks xs a b]
structure Tab (G H0 H:Hp) (p:Addr) (ks:List Int) (ls:List Addr) (xss:List (List Int)):Prop where
 dict:H p=some (.dK (kvsOf ks (ls.map V.ref)))
 gp:G p=none
 hp:H0 p=none
 len:ks.length=ls.length
 len2:ls.length=xss.length
 lst:∀ (j:Nat) l xs,ls[j]?=some l->xss[j]?=some xs->H l=some (.lst (xs.map V.int))
 gl:∀ l∈ls,G l=none/\H0 l=none
 nd:ls.Nodup
theorem Tab.inn{G H0 H:Hp}{p:Addr}{ks:List Int}{ls:List Addr}{xss:List (List Int)}(T:Tab G H0 H p ks ls xss){l:Addr}(h:l∈ls):∃ xs:List Int,H l=some (.lst (xs.map V.int)):=by
 obtain⟨j,hj,rfl⟩:=ze.mp h;have hj2:j < xss.length:=by rw[<- T.len2];exact hj
 exact⟨xss[j],T.lst j _ _ (zD hj) (zD hj2)⟩
theorem Tab.pl{G H0 H:Hp}{p:Addr}{ks:List Int}{ls:List Addr}{xss:List (List Int)}(T:Tab G H0 H p ks ls xss):p∉ls:=λh=>by
 obtain⟨xs,e⟩:=T.inn h;rw[T.dict] at e;cases e
theorem Tab.keep{G G' H0 H H':Hp}{p:Addr}{ks:List Int}{ls:List Addr}{xss:List (List Int)}(T:Tab G H0 H p ks ls xss)(x:Ext G H G' H'):Tab G' H0 H' p ks ls xss :=
 ⟨x.hh _ _ T.dict,x.new p T.gp (by rw[T.dict];exact λz=>by cases z),T.hp,T.len,T.len2,λj l xs h1 h2=>x.hh _ _ (T.lst j l xs h1 h2),λl h=>by
  obtain⟨xs,e⟩:=T.inn h;exact⟨x.new l (T.gl l h).1 (by rw[e];exact λz=>by cases z),(T.gl l h).2⟩,T.nd⟩
theorem qba:∀ {ks:List Int} {ls:List Addr} {a:Int},ks.length=ls.length->a∈ks->∃ (j:Nat) (l:Addr),ks[j]?=some a/\ls[j]?=some l/\Yw ks (ls.map V.ref) a=some (.ref l)/\∀ (xss:List (List Int)) (b:Int),xss.length=ls.length->∃ xs,xss[j]?=some xs/\WK ks xss a b=xss.set j (xs++[b])
 | [],_,_,_,h=>by simp at h
 | _::_,[],_,h,_=>by simp at h
 | k::ks,l::ls,a,h,ha=>by
  by_cases z:k=a
  ·refine⟨0,l,by rw[z];rfl,rfl,if_pos z,λxss b hx=>?_⟩
   cases xss with
   | nil=>simp at hx
   | cons x xs=>exact⟨x,rfl,if_pos z⟩
  ·have ha':a∈ks:=(zF.mp ha).resolve_left λe=>z e.symm
   obtain⟨j,l',e1,e2,e3,e4⟩:=qba (ks:=ks) (ls:=ls) (by simpa using h) ha';refine⟨j+1,l',e1,e2,?_,λxss b hx=>?_⟩
   ·show (if k=a then _ else _)=_
    rw[if_neg z];exact e3
   ·cases xss with
    | nil=>simp at hx
    | cons x xs =>
     obtain⟨y,h1,h2⟩:=e4 xs b (by simpa using hx);refine⟨y,h1,?_⟩;show (if k=a then _ else x::WK ks xs a b)=_;rw[if_neg z,h2];rfl
theorem Tab.app{G H0 H:Hp}{p:Addr}{ks:List Int}{ls:List Addr}{xss:List (List Int)}(T:Tab G H0 H p ks ls xss){a:Int}(b:Int)(ha:a∈ks) :
  ∃ (l:Addr) (xs:List Int),l∈ls/\xs∈xss/\Yw ks (ls.map V.ref) a=some (.ref l)/\Wi H p (.int a) (some (.ref l))/\H l=some (.lst (xs.map V.int))/\Tab G H0 (upd H l (.lst ((xs++[b]).map V.int))) p ks ls (WK ks xss a b):=by
 obtain⟨j,l,e1,e2,e3,e4⟩:=qba T.len ha;obtain⟨xs,e5,e6⟩:=e4 xss b T.len2.symm;have hl:l∈ls:=z7 e2;have hlp:p≠l:=λz=>T.pl (z▸hl);have g:=Wi.k (k:=(Sum.inl a:Key)) T.dict;rw[qP (by rw[zB];exact T.len),e3] at g;refine⟨l,xs,hl,z7 e5,e3,g,T.lst j l xs e2 e5,?_⟩;rw[e6];refine⟨by rw[qc hlp];exact T.dict,T.gp,T.hp,T.len,by rw[yT];exact T.len2,λi m ys h1 h2=>?_,T.gl,T.nd⟩;rcases qf h2 with⟨rfl,_,rfl⟩|⟨ne,h3⟩
 ·rw[e2] at h1
  cases h1;exact qd
 ·have hm:m≠l:=λz=>by
   subst z;obtain⟨i1,i2⟩:=zj.mp h1;obtain⟨j1,j2⟩:=zj.mp e2;exact ne ((wM T.nd).mp (j2.trans i2.symm))
  rw[qc hm];exact T.lst i m ys h1 h3
theorem Own.free{K:zA}{G0:Hp}{H0:Fr}{G:Hp}{ω:WSt}{σ:St}{H:Hp}{q:Addr}{ob:HO}(o:Own K G0 H0 G ω σ H)(no:Xq ω)(hG:G q=none)(h0:H0 q=none):Own K G0 H0 G ω σ (upd H q ob) :=
 ⟨⟨o.ext.gg,Yy o.ext.gh hG _,Yy o.ext.hh h0 _,o.ext.new⟩,o.len,o.sh,λi ds h=>absurd h (no.ow i ds),o.nd,λi ks ds h=>absurd h (no.od i ks ds),Xg.no no.pw⟩
theorem Tab.put{G H0 H:Hp}{p:Addr}{ks:List Int}{ls:List Addr}{xss:List (List Int)}(T:Tab G H0 H p ks ls xss){k:Int}{l:Addr}(hk:k∉ks)(hl:H l=none)(sg:Yz G H)(s0:Yz H0 H)(hz:ks.length < 1000000) :
  ∃ H4,zCK (upd H l (.lst [])) p (.int k) (.ref l) H4/\H4=upd (upd H l (.lst [])) p (.dK (kvsOf (ks++[k]) ((ls++[l]).map V.ref)))/\Tab G H0 H4 p (ks++[k]) (ls++[l]) (xss++[[]]):=by
 have hpl:p≠l:=λz=>by rw[<- z,T.dict] at hl;cases hl
 have hlen:ks.length=(ls.map V.ref).length:=by rw[zB];exact T.len
 have e:putK (kvsOf ks (ls.map V.ref)) (Sum.inl k) (.ref l)=kvsOf (ks++[k]) ((ls++[l]).map V.ref):=by
  rw[q2W hlen];unfold X3 putA;rw[if_neg hk,if_neg hk,zY];rfl
 have d:=zCK.k (H:=upd H l (.lst [])) (a:=p) (kvs:=kvsOf ks (ls.map V.ref)) (k:=(Sum.inl k:Key)) (v:=.ref l) (by rw[qc hpl];exact T.dict) (by rw[q1f hlen,sizeLine_eq];omega);rw[e] at d;refine⟨_,d,rfl,qd,T.gp,T.hp,by rw[zC,zC,T.len];rfl,by rw[zC,zC,T.len2];rfl,λj m xs h1 h2=>?_,λm hm=>?_,?_⟩
 ·rcases zu j ls.length with z|z
  ·rw[zc z] at h1
   rw[zc (by rw[<- T.len2];exact z)] at h2;have e1:=T.lst j m xs h1 h2;have n1:m≠p:=λy=>T.pl (y▸z7 h1);have n2:m≠l:=λy=>by rw[y,hl] at e1;cases e1
   rw[qc n1,qc n2];exact e1
  ·rw[zW z] at h1
   rw[zW (by rw[<- T.len2];exact z),<- T.len2] at h2;cases hj:j - ls.length with
   | zero =>
    rw[hj] at h1 h2;cases h1;cases h2;rw[qc (Ne.symm hpl)];exact qd
   | succ n=>rw[hj] at h1;cases h1
 ·rcases zN.mp hm with h|h
  ·exact T.gl m h
  ·cases zT.mp h;exact⟨sg.free hl,s0.free hl⟩
 ·rw[yV]
  refine⟨T.nd,by simp,λa ha b hb z=>?_⟩;cases zT.mp hb;obtain⟨xs,e1⟩:=T.inn ha;rw[z,hl] at e1;cases e1
noncomputable def pairsOf:List D->Option (List (Int×Int))
 | []=>some []
 | .tup [.int a,.int b]::r=>(pairsOf r).map λl=>(a,b)::l
 | _=>none
noncomputable def Yi(e:Int×Int):D:=.tup [.int e.1,.int e.2]
theorem q2A:∀ {ds:List D} {es:List (Int×Int)},pairsOf ds=some es->ds=es.map Yi
 | [],_,h=>by cases h;rfl
 | d::r,es,h=>by
  unfold pairsOf at h
  split at h
  ·rename_i e;cases e
  ·rename_i e
   cases e;obtain⟨l,h1,h2⟩:=mpd h;subst h2;rw[q2A h1];rfl
  ·cases h
theorem q2d:∀ es:List (Int×Int),pairsOf (es.map Yi)=some es
 | []=>rfl
 | e::r=>by show (pairsOf (r.map Yi)).map _=_;rw[q2d r];rfl
noncomputable def Xz(ks:List Int)(xss:List (List Int))(e:Int×Int):List (List Int):=WK ks (WK ks xss e.1 e.2) e.2 e.1
noncomputable def nbT(ts:List Int)(es:List (Int×Int)):List (List Int):=es.foldl (Xz ts) (ts.map λ_=>[])
noncomputable def nbM(a b:List D):Option D:=(intsOf a).bind λts=>(pairsOf b).bind λes=>if ts.Nodup/\(∀ e∈es,e.1∈ts/\e.2∈ts)/\ts.length <= 1000/\es.length <= 1000 then some (.dic ts ((nbT ts es).map λxs=>.lst (xs.map D.int))) else none
noncomputable def sNb:FS:=λω=>match ω with
 | [some (.sh (.lst a)),some (.sh (.lst b)),none,none,none]=>(nbM a b).map λd=>(.rt (.sh d),ω)
 | _=>none
theorem zCJ{a b:D}{x:Option D}:Xq [some (.sh a),some (.sh b),none,none,x.map W.sh]:=by
 intro i w e
 match i,e with
 | 0,e=>cases e;exact⟨_,rfl⟩
 | 1,e=>cases e;exact⟨_,rfl⟩
 | 2,e=>cases e
 | 3,e=>cases e
 | 4,e =>
  cases x with
  | none=>cases e
  | some d=>cases e;exact⟨d,rfl⟩
 | i+5,e=>simp at e
theorem Own.other{K:zA}{G0:Hp}{H0:Fr}{G:Hp}{ω:WSt}{σ:St}{H:Hp}{i:Nat}{v:Option V}(o:Own K G0 H0 G ω σ H)(no:Xq ω)(hi:∀ w,ω[i]?≠some (some w)):Own K G0 H0 G ω (σ.set i v) H :=
 ⟨o.ext,by rw[yT];exact o.len,λj d h=>by
  obtain⟨u,h1,h2⟩:=o.sh j d h;exact⟨u,by rw[zI (λz=>hi _ (z▸h))];exact h1,h2⟩,λi ds h=>absurd h (no.ow i ds),λi j ds es l h=>absurd h (no.ow i ds),λi ks ds h=>absurd h (no.od i ks ds),Xg.no no.pw⟩
theorem q2h(n:Nat):∀ (ks:List Int) (xss:List (List Int)) (a b:Int),(∀ x∈xss,x.length <= n)->∀ x∈WK ks xss a b,x.length <= n+1
 | [],xss,_,_,h,x,hx=>wI (h x hx)
 | _::_,[],_,_,h,x,hx=>by cases hx
 | k::ks,y::xss,a,b,h,x,hx=>by
  unfold WK at hx
  by_cases z:k=a
  ·rw[if_pos z] at hx
   rcases zF.mp hx with rfl|hx
   ·have:=h y zG
    rw[zC,zU];omega
   ·exact wI (h x (zH _ hx))
  ·rw[if_neg z] at hx
   rcases zF.mp hx with rfl|hx
   ·exact wI (h _ zG)
   ·exact q2h n ks xss a b (λx h'=>h x (zH _ h')) x hx
theorem Tab.told{K:zA}{G0 G:Hp}{H0:Fr}{H:Hp}{ω:WSt}{σ:St}{p:Addr}{ks:List Int}{ls:List Addr}{xss:List (List Int)}(T:Tab G H0 H p ks ls xss)(o:Own K G0 H0 G ω σ H)(no:Xq ω)(ob:Obj) :
  ∃ G',Yz G G'/\Own K G0 H0 G' ω σ (upd H p (.frz ob (.dK (kvsOf ks (ls.map V.ref)))))/\Rep K G' (.dic ks (xss.map λxs=>.lst (xs.map D.int))) (.ref p):=by
 obtain⟨H',hH⟩:∃ H':Hp,H'=upd H p (.frz ob (.dK (kvsOf ks (ls.map V.ref)))):=⟨_,rfl⟩;rw[<- hH];have hp':H' p=some (.frz ob (.dK (kvsOf ks (ls.map V.ref)))):=by rw[hH];exact qd
 have hn':∀ b,b≠p->H' b=H b:=λb h=>by rw[hH];exact qc h
 let G':Hp:=λb=>if b=p\/b∈ls then H' b else G b
 have hin:∀ b,(b=p\/b∈ls)->G' b=H' b:=λb h=>if_pos h;have hout:∀ b,¬(b=p\/b∈ls)->G' b=G b:=λb h=>if_neg h;have gn:∀ b,(b=p\/b∈ls)->G b=none/\H0 b=none:=λb h=>by
  rcases h with rfl|h
  ·exact⟨T.gp,T.hp⟩
  ·exact T.gl b h
 have gg:Yz G G':=λb u z=>by
  by_cases y:b=p\/b∈ls
  ·rw[(gn b y).1] at z;cases z
  ·rw[hout b y];exact z
 have gh:Yz G' H':=λb u z=>by
  by_cases y:b=p\/b∈ls
  ·rw[hin b y] at z;exact z
  ·rw[hout b y] at z;rw[hn' b λw=>y (.inl w)];exact o.gh b u z
 have hh:Yz H0.hp H':=λb u z=>by
  rw[hn' b λw=>by rw[w,T.hp] at z;cases z];exact o.ext.hh b u z
 refine⟨G',gg,⟨⟨o.ext.gg.trans gg,gh,hh,λb z1 z2=>?_⟩,o.len,λi d h=>?_,λi ds h=>absurd h (no.ow i ds),o.nd,λi ks ds h=>absurd h (no.od i ks ds),Xg.no no.pw⟩,p,ls.map V.ref,rfl,⟨ob,by rw[hin p (.inl rfl)];exact hp'⟩,by rw[zB,<- T.len2];exact T.len,?_⟩
 ·by_cases y:b=p\/b∈ls
  ·exact absurd (gn b y).2 z2
  ·rw[hout b y];exact o.ext.new b z1 z2
 ·obtain⟨v,h1,h2⟩:=o.sh i d h
  exact⟨v,h1,h2.mono gg⟩
 ·refine q3a (by rw[zB];exact T.len2.symm) λj d t h1 h2=>?_
  rw[za] at h1;cases q:xss[j]? with
  | none=>rw[q] at h1;cases h1
  | some xs =>
   rw[q] at h1;cases h1;have hl:=T.lst j t xs h2 q;exact⟨t,_,rfl,by rw[hin t (.inr (z7 h2)),hn' t λw=>by rw[w,T.dict] at hl;cases hl];exact hl,Yo.ints xs⟩
theorem qbt{K:zA}{ta tb:TE}{g0 g1:FD}(k2:zAp K ta g0)(k4:zAp K tb g1){G0:Hp}{H0:Fr}{G:Hp}{ω:WSt}{σ:St}{H:Hp}{p:Addr}{ks:List Int}{ls:List Addr}{xss:List (List Int)}{a b:Int}{Q:VK}(o:Own K G0 H0 G ω σ H)(no:Xq ω)(hσ:σ[2]?=some (some (.ref p)))(T:Tab G H0 H p ks ls xss)
  (h0:g0 ω=some (.int a)) (h1:g1 ω=some (.int b)) (ha:a∈ks) (hz:∀ xs∈xss,xs.length < 1000000)
  (h:∀ G' H',Own K G0 H0 G' ω σ H'->Yz G G'->Tab G' H0 H' p ks ls (WK ks xss a b)->Q .non H'):tBM K "list" Xw (zCG (XF 2) ta) (WN tb W8) σ H Q:=by
 refine⟨.ref p,hσ,k2 G0 H0 G ω σ H _ _ o h0 λu G1 H1 x1 y1=>?_⟩;cases (show u=.int a from y1);have o1:=o.keep x1;have T1:=T.keep x1;obtain⟨l,xs,m1,m2,m3,m4,m5,_⟩:=T1.app b ha;refine⟨p,.ref l,rfl,m4,.inl ⟨rfl,_,SqL.of m5⟩,k4 G0 H0 G1 ω σ H1 _ _ o1 h1 λu G2 H2 x2 y2=>?_⟩;cases (show u=.int b from y2);have o2:=o1.keep x2;have T2:=T1.keep x2;obtain⟨l',xs',n1,n2,n3,n4,n5,n6⟩:=T2.app b ha;rw[m3] at n3;cases n3;refine⟨l,_,.int b,rfl,rfl,n5,by rw[zB,sizeLine_eq];have:=hz xs' n2;omega,?_⟩;rw[show xs'.map V.int++[V.int b]=(xs'++[b]).map V.int by rw[zY];rfl];exact h G2 _ (o2.free no (T2.gl l n1).1 (T2.gl l n1).2) (x1.gg.trans x2.gg) n6
theorem qbI{a b:Expr}{p:Pos}{n:Str}{env:Env}(m:Sem Value):attributeBase (.Subscript a b p) n env m=m:=rfl
section
variable {X:Cx}
theorem qf1{x2 x3 x4:Str}{o0 o1 o2 o3 o4 o4b e0 e1 e0b e1b e0':Expr}{q1 q2 q3 q4 q5 q6 q7 q8 q9 q10 q11 q12 q13 q14 q15 a1 a2 c1 c2:Pos}{g0 g1:FD}(hu:X.A.units+64 < cLine)(hp:PassesOwn (model X.prog X.w) X.A X.env X.xe)(hc:X.calm=true)(hN:X.N.Nodup)
  (i2:X.N[2]?=some x2) (i3:X.N[3]?=some x3) (i4:X.N[4]?=some x4) (l2:Loc X.env.scope x2) (l3:Loc X.env.scope x3) (l4:Loc X.env.scope x4)
  (f2:X.fn x2=true\/X.env.scope.names.lookup x2=some .local) (f3:X.fn x3=true\/X.env.scope.names.lookup x3=some .local) (f4:X.fn x4=true\/X.env.scope.names.lookup x4=some .local)
  (h0:PE X o0 (XF 0)) (h1:PE X o1 (XF 1)) (h2:PE X o2 (XF 2)) (h2':PE X o4 (XF 2)) (h2b:PE X o4b (XF 2)) (h3:PE X o3 (XF 3)) (h5:PE X e0' (XF 2))
  (ha:XD X e0 g0) (hb:XD X e1 g1) (hab:XD X e0b g0) (hbb:XD X e1b g1) (hg0:∀ (ω:WSt) e,ω[4]?=some (some (.sh (Yi e)))->g0 ω=some (.int e.1)) (hg1:∀ (ω:WSt) e,ω[4]?=some (some (.sh (Yi e)))->g1 ω=some (.int e.2))
  (s1:swapsWith (.Dict [] [] q1) (some (.Name x2 q2)) q3.line X.env=pure false:=by rfl)
  (s2:swapsWith (.List [] q4) (some (.Subscript o2 o3 q5)) q6.line X.env=pure false:=by rfl)
  (n0:NoSl e0:=by intro _ _;rfl) (n1:NoSl e1b:=by intro _ _;rfl)
  (w1:((backTo c1 (starEach [e1] X.env)).all (λx=>!x.1) && (backToKw c1 (keywordEach [] X.env)).all (λx=>x.1.isSome) && decide (([e1]:List Expr).length+([]:List Keyword).length+(if ([]:List Keyword).isEmpty then 0 else 1) < 30))=true:=by rfl)
  (w2:((backTo c2 (starEach [e0b] X.env)).all (λx=>!x.1) && (backToKw c2 (keywordEach [] X.env)).all (λx=>x.1.isSome) && decide (([e0b]:List Expr).length+([]:List Keyword).length+(if ([]:List Keyword).isEmpty then 0 else 1) < 30))=true:=by rfl)
  (z1:(a1.endLine == c1.line)=true:=by rfl) (z2:(a2.endLine == c2.line)=true:=by rfl)
  (t1:starEach [e1] X.env=(false,eval e1 X.env)::starEach [] X.env:=by rfl) (t2:starEach [e0b] X.env=(false,eval e0b X.env)::starEach [] X.env:=by rfl)
  (p1:(backTo c1 (starEach [] X.env)).any (·.1)=false:=by rfl) (p2:(backTo c2 (starEach [] X.env)).any (·.1)=false:=by rfl)
  (v1:swapsWith (.Call (.Attribute (.Subscript o4 e0 q7) "append" a1) [e1] [] c1) none q9.line X.env=pure false:=by rfl)
  (v2:swapsWith (.Call (.Attribute (.Subscript o4b e1b q8) "append" a2) [e0b] [] c2) none q10.line X.env=pure false:=by rfl)
  (y1:∀ x,foldedSetIterable o0 X.env x=pure x:=by intro _;rfl) (y2:∀ x,foldedSetIterable o1 X.env x=pure x:=by intro _;rfl) :
  XSs X [.Assign [.Name x2 q2] (.Dict [] [] q1) q3,.For (.Name x3 q11) o0 [.Assign [.Subscript o2 o3 q5] (.List [] q4) q6] [] q12,
   .For (.Name x4 q13) o1 [.Expr (.Call (.Attribute (.Subscript o4 e0 q7) "append" a1) [e1] [] c1) q9,.Expr (.Call (.Attribute (.Subscript o4b e1b q8) "append" a2) [e0b] [] c2) q10] [] q14,.Return (some e0') q15] sNb:=by
 obtain⟨ta,k1,k2⟩:=ha;obtain⟨tb,k3,k4⟩:=hb;obtain⟨ta',k1',k2'⟩:=hab;obtain⟨tb',k3',k4'⟩:=hbb;have hu:=hu1 hu;refine⟨_,qu (qT hN i2 l2 q46 s1 f2) (qu (q4A hp hc (q54 h0) (q2f hN i3 l3 f3) (q0f (q8C hu h2 h3 (q1T qo) s2)) y1)
  (qu (q4A hp hc (q54 h1) (q2f hN i4 l4 f4) (qu (q0B (q1Z PySem.F.plainAttrs_list PySem.F.slot_list_append PySem.F.type_list_append q0n (q3B hu h2' k1 n0) (qr k3 qo t1) (qbI _) w1 z1 t1 p1) v1)
   (q0f (q0B (q1Z PySem.F.plainAttrs_list PySem.F.slot_list_append PySem.F.type_list_append q0n (q3B hu h2b k3' n1) (qr k1' qo t2) (qbI _) w2 z2 t2 p2) v2))) y2) (q4l 2 (q0f (q3h h5))))),λG0 H0 G ω σ H out ω' E ow e kk=>?_⟩
 unfold sNb at e
 split at e
 case h_2=>cases e
 case h_1 _ a b =>
 obtain⟨d,e2,e3⟩:=mpd e;clear e;cases e3;obtain⟨ts,e4,e5⟩:=bnd e2;obtain⟨es,e6,e7⟩:=bnd e5;clear e2 e5
 by_cases cond:ts.Nodup/\(∀ e∈es,e.1∈ts/\e.2∈ts)/\ts.length <= 1000/\es.length <= 1000
 case neg=>rw[if_neg cond] at e7;cases e7
 rw[if_pos cond] at e7;cases e7;obtain⟨cd1,cd2,cd3,cd4⟩:=cond;have ha':=q0G e4;have hb':=q2A e6;subst ha' hb';clear e4 e6;have no:Xq [some (W.sh (.lst (ts.map D.int))),some (.sh (.lst (es.map Yi))),none,none,none]:=zCJ (x:=none);have hlen:σ.length=5:=ow.len.symm;obtain⟨v0,r0,A0,vs0,rfl,r1,r2⟩:=ow.sh 0 _ rfl;obtain⟨v1,r3,A1,vs1,rfl,r4,r5⟩:=ow.sh 1 _ rfl;have hvs0:=r2.of_ints;subst hvs0;intro p hpn;have o1:Own X.K G0 H0 G [some (W.sh (.lst (ts.map D.int))),some (.sh (.lst (es.map Yi))),none,none,none] (σ.set 2 (some (.ref p))) (upd H p (.dK [])):=(ow.free no (ow.gh.free hpn) (ow.ext.hh.free hpn)).other no λw z=>by cases z
 have T0:Tab G H0 (upd H p (.dK [])) p (ts.take 0) [] ((ts.take 0).map λ_=>[]):=⟨qd,ow.gh.free hpn,ow.ext.hh.free hpn,rfl,rfl,λj l xs h=>(by simp at h),λl h=>(by cases h),xO⟩;refine⟨.ref A0,by rw[zI (by decide)];exact r0,A0,rfl,⟨_,SqL.of (o1.gh _ _ r1)⟩,λn m σ2 H2=>∃ ls,Own X.K G0 H0 G [some (W.sh (.lst (ts.map D.int))),some (.sh (.lst (es.map Yi))),none,none,none] σ2 H2/\σ2[2]?=some (some (.ref p))/\Tab G H0 H2 p (ts.take n) ls ((ts.take n).map λ_=>[])/\n <= ts.length/\m=ts.length - n,
  ⟨_,[],o1,yW (by rw[hlen];decide),T0,zz _,rfl⟩,?_⟩
 rintro n m σ2 H2 ⟨ls,o2,s22,T2,hn,rfl⟩
 by_cases hlt:n < ts.length
 ·have hq:=o2.gh _ _ r1
  refine .inr ⟨⟨_,.int ts[n],SqL.of hq,by rw[za,zD hlt];rfl⟩,λσ3 H3=>∃ ls,Own X.K G0 H0 G [some (W.sh (.lst (ts.map D.int))),some (.sh (.lst (es.map Yi))),none,none,none] σ3 H3/\σ3[2]?=some (some (.ref p))/\Tab G H0 H3 p (ts.take (n+1)) ls ((ts.take (n+1)).map λ_=>[]),
   λσ3 H3 ⟨ls,b1,b2,b3⟩=>⟨ts.length - (n+1),by omega,ls,b1,b2,b3,hlt,rfl⟩,λy H3 hy=>?_⟩
  obtain⟨rfl,hy⟩:=hy;have hy:=hy _ (SqL.of hq);rw[za,zD hlt] at hy;cases hy;have hl2:σ2.length=5:=o2.len.symm;refine⟨by show 0 <= sizeLine;exact zz _,λl hl=>?_⟩;refine⟨.ref p,by rw[zI (by decide)];exact s22,.int ts[n],yW (by rw[hl2];decide),?_⟩;have nk:ts[n]∉ts.take n:=λz=>by
   obtain⟨j,hj,ej⟩:=ze.mp z;rw[xE] at ej;have hj':j < n:=by rw[zd] at hj;omega
   have:=(wM cd1).mp ej;omega
  obtain⟨H4,d1,d2,T4⟩:=T2.put nk hl o2.gh o2.ext.hh (by rw[zd];omega);refine⟨p,H4,rfl,d1,ls++[l],?_,by rw[zI (by decide)];exact s22,?_⟩
  ·subst d2
   exact((o2.free no (o2.gh.free hl) (o2.ext.hh.free hl)).free no T2.gp T2.hp).other no λw z=>by cases z
  ·rw[(wv hlt).symm,zY]
   exact T4
 ·have en:n=ts.length:=by omega
  subst en;rw[ZB] at T2;refine .inl ⟨⟨_,SqL.of (o2.gh _ _ r1),by rw[zB];exact zJ _⟩,?_⟩;obtain⟨v1',r3',A1',vs1',rfl,r4',r5'⟩:=o2.sh 1 _ rfl;have hl5:es.length=vs1'.length:=by have:=r5'.len;rw[zB] at this;exact this
  refine⟨.ref A1',r3',A1',rfl,⟨_,SqL.of (o2.gh _ _ r4')⟩,λn m σ3 H3=>∃ G3 x4,Own X.K G0 H0 G3 [some (W.sh (.lst (ts.map D.int))),some (.sh (.lst (es.map Yi))),none,none,x4.map W.sh] σ3 H3/\Yz G G3/\σ3[2]?=some (some (.ref p))/\Tab G3 H0 H3 p ts ls ((es.take n).foldl (Xz ts) (ts.map λ_=>[])) /\
   (∀ xs∈(es.take n).foldl (Xz ts) (ts.map λ_=>[]),xs.length <= 2*n)/\n <= es.length/\m=es.length - n,
   ⟨_,G,none,o2,Yz.refl _,s22,T2,λxs hx=>by obtain⟨_,_,rfl⟩:=z8.mp hx;exact zJ _,zz _,rfl⟩,?_⟩
  rintro n m σ3 H3 ⟨G3,x4,o3,g3,s32,T3,b3,hn3,rfl⟩
  by_cases hlt3:n < es.length
  ·have hq3:=o3.gh _ _ (g3 _ _ r4')
   have hlv:n < vs1'.length:=by rw[<- hl5];exact hlt3
   refine .inr ⟨⟨_,vs1'[n],SqL.of hq3,zD hlv⟩,λσ4 H4=>∃ G4 x4,Own X.K G0 H0 G4 [some (W.sh (.lst (ts.map D.int))),some (.sh (.lst (es.map Yi))),none,none,x4.map W.sh] σ4 H4/\Yz G G4/\σ4[2]?=some (some (.ref p))/\Tab G4 H0 H4 p ts ls ((es.take (n+1)).foldl (Xz ts) (ts.map λ_=>[])) /\
    (∀ xs∈(es.take (n+1)).foldl (Xz ts) (ts.map λ_=>[]),xs.length <= 2*(n+1)),
    λσ4 H4 ⟨G4,x4,b1,b2,b4,b5,b6⟩=>⟨es.length - (n+1),by omega,G4,x4,b1,b2,b4,b5,b6,hlt3,rfl⟩,λy H4 hy=>?_⟩
   obtain⟨rfl,hy⟩:=hy;have hy:=hy _ (SqL.of hq3);rw[zD hlv] at hy;cases hy;have hd:(es.map Yi)[n]?=some (Yi es[n]):=by rw[za,zD hlt3];rfl
   obtain⟨v,hv1,hv2⟩:=r5'.get hd;rw[zD hlv] at hv1;cases hv1;have hl3:σ3.length=5:=o3.len.symm;have o4:Own X.K G0 H0 G3 [some (W.sh (.lst (ts.map D.int))),some (.sh (.lst (es.map Yi))),none,none,some (.sh (Yi es[n]))] (σ3.set 4 (some vs1'[n])) H4:=o3.setSh (i:=4) (hv2.mono g3);have no4:Xq [some (W.sh (.lst (ts.map D.int))),some (.sh (.lst (es.map Yi))),none,none,some (.sh (Yi es[n]))]:=zCJ (x:=some (Yi es[n]));have s42:(σ3.set 4 (some vs1'[n]))[2]?=some (some (.ref p)):=by rw[zI (by decide)];exact s32
   obtain⟨in1,in2⟩:=cd2 es[n] (yU hlt3);refine qbt k2 k4 o4 no4 s42 T3 (hg0 _ es[n] rfl) (hg1 _ es[n] rfl) in1 (λxs hx=>by have:=b3 xs hx;omega) λG5 H5 o5 g5 T5=>?_;have b5:=q2h (2*n) ts _ es[n].1 es[n].2 b3;refine qbt k4' k2' o5 no4 s42 T5 (hg1 _ es[n] rfl) (hg0 _ es[n] rfl) in2 (λxs hx=>by have:=b5 xs hx;omega) λG6 H6 o6 g6 T6=>?_;have b6:=q2h (2*n+1) ts _ es[n].2 es[n].1 b5;have et:es.take (n+1)=es.take n++[es[n]]:=(wv hlt3).symm;refine⟨G6,some (Yi es[n]),o6,(g3.trans g5).trans g6,s42,?_,?_⟩
   ·rw[et,wo];exact T6
   ·rw[et,wo]
    intro xs hx;have:=b6 xs hx;omega
  ·have en3:n=es.length:=by omega
   subst en3;rw[ZB] at T3;refine .inl ⟨⟨_,SqL.of (o3.gh _ _ (g3 _ _ r4')),by rw[hl5];exact zJ _⟩,?_⟩;have no3:Xq [some (W.sh (.lst (ts.map D.int))),some (.sh (.lst (es.map Yi))),none,none,x4.map W.sh]:=zCJ;refine⟨p,_,s32,T3.dict,λob=>?_⟩;obtain⟨G',g',o',rp⟩:=T3.told o3 no3 ob;generalize upd H3 p (.frz ob _)=H4 at o' ⊢;refine⟨.ref p,s32,?_⟩;have oF:Own X.K G0 H0 G' [some (W.sh (.lst (ts.map D.int))),some (.sh (.lst (es.map Yi))),none,none,none] σ3 H4:=by
    refine⟨o'.ext,o'.len,λi d h=>?_,λi ds h=>absurd h (no.ow i ds),λi j ds es l h=>absurd h (no.ow i ds),λi ks ds h=>absurd h (no.od i ks ds),Xg.no no.pw⟩
    match i,h with
    | 0,h=>exact o'.sh 0 d h
    | 1,h=>exact o'.sh 1 d h
    | 2,h=>cases h
    | 3,h=>cases h
    | 4,h=>cases h
    | i+5,h=>simp at h
   exact kk G' σ3 H4 oF (g3.trans g') (.ref p) rp
end
theorem qfe{ω:WSt}{e:Int×Int}(h:ω[4]?=some (some (.sh (Yi e)))):dOf (Yn oIx (vOf (Yh 4)) (fC (.int 0))) ω=some (.int e.1):=by
 unfold dOf Yn vOf Yh fC;rw[h];rfl
theorem qfi{ω:WSt}{e:Int×Int}(h:ω[4]?=some (some (.sh (Yi e)))):dOf (Yn oIx (vOf (Yh 4)) (fC (.int 1))) ω=some (.int e.2):=by
 unfold dOf Yn vOf Yh fC;rw[h];rfl
noncomputable def zBv(i:Nat)(ω:WSt)(c d:Option D):Option (Out×WSt):=c.bind λc=>d.bind λd=>match c with
 | .int k=>some (.nx,ω.set i (some (.od [k] [d])))
 | _=>none
noncomputable def dsetS(i:Nat)(ω:WSt)(v c:Option D)(w:Option (Option W)):Option (Out×WSt):=v.bind λd=>c.bind λc=>match c,w with
 | .int k,some (some (.od ks ds))=>if ks.length < 1000000 then some (.nx,ω.set i (some (.od (X3 ks k) (putA ks ds k d)))) else none
 | _,_=>none
noncomputable def dgetR(o:Option (List Int×List D))(c:Option D):Option R:=o.bind λp=>c.bind λc=>match c with
 | .int k=>(Yw p.1 p.2 k).map R.sh
 | _=>none
noncomputable def dhasT(neg:Bool)(c:Option D)(o:Option (List Int×List D)):Option Bool:=c.bind λc=>o.bind λp=>match c with
 | .int k=>some (if neg then !(Yw p.1 p.2 k).isSome else (Yw p.1 p.2 k).isSome)
 | _=>none
noncomputable def zBq(o:Option (List Int×List D)):Option R:=o.bind λp=>if p.1.length < 64 then some (.fr ((Yt p.1).map D.int)) else none
noncomputable def pop0(i:Nat)(ω:WSt)(w:Option (Option W)):Option (D×WSt):=match w with
 | some (some (.ow ds))=>(ds[ds.length - 1]?).map λd=>(d,ω.set i (some (.ow ds.dropLast)))
 | _=>none
noncomputable def zCC(j i:Nat)(ω:WSt)(w:Option (Option W)):Option (Out×WSt):=(pop0 i ω w).map λp=>(.nx,p.2.set j (some (.sh p.1)))
section
variable {ω:WSt} {fk fv:FD} {i j:Nat} {ks:List Int} {ds:List D} {k:Int} {d:D} {neg:Bool}
theorem q81:zBL i ω=some (.nx,ω.set i (some (.od [] []))):=rfl
theorem q5d:zBO i fk fv ω=zBv i ω (fk ω) (fv ω):=rfl
theorem q9z:zBv i ω (some (.int k)) (some d)=some (.nx,ω.set i (some (.od [k] [d]))):=rfl
theorem q7Y:zAi i fk fv ω=dsetS i ω (fv ω) (fk ω) ω[i]?:=rfl
theorem q7m:zAA i fk ω=dgetR (WR ω[i]?) (fk ω):=rfl
theorem q9n:dgetR (some (ks,ds)) (some (.int k))=(Yw ks ds k).map R.sh:=rfl
theorem q9W:WR (some (some (.od ks ds)))=some (ks,ds):=rfl
theorem q9R:WR (some (some (.sh (.dic ks ds))))=some (ks,ds):=rfl
theorem q73:zAq neg i fk ω=dhasT neg (fk ω) (WR ω[i]?):=rfl
theorem q9N:dhasT true (some (.int k)) (some (ks,ds))=some (!(Yw ks ds k).isSome):=rfl
theorem q4Q:zBG i ω=zBq (WR ω[i]?):=rfl
theorem q5j:zBj j (zBf i) ω=zCC j i ω ω[i]?:=rfl
theorem qal:shrS i ω (some (some (.od ks ds)))=ω.set i (some (.sh (.dic ks ds))):=rfl
end
theorem q2o{i:Nat}{ω:WSt}{ks:List Int}{ds:List D}{k:Int}{d:D}(h:ks.length < 1000000):dsetS i ω (some d) (some (.int k)) (some (some (.od ks ds)))=some (.nx,ω.set i (some (.od (X3 ks k) (putA ks ds k d)))):=if_pos h
theorem qcs{ks:List Int}{ds:List D}(h:ks.length < 64):zBq (some (ks,ds))=some (.fr ((Yt ks).map D.int)):=if_pos h
theorem qet{j i:Nat}{ω:WSt}{ds:List D}{d:D}:zCC j i ω (some (some (.ow (ds++[d]))))=some (.nx,(ω.set i (some (.ow ds))).set j (some (.sh d))):=by
 unfold zCC pop0;have e1:(ds++[d])[(ds++[d]).length - 1]?=some d:=by
  rw[zC,zU,xP,zW (zJ _),wH];rfl
 have e2:(ds++[d]).dropLast=ds:=by simp
 show Option.map _ (((ds++[d])[(ds++[d]).length - 1]?).map _)=_;rw[e1,e2];rfl
section
variable {X:Cx} {o k e:Expr} {pos pos':Pos} {i:Nat} {fk fv:FD}
end
section
variable {X:Cx} {e:Expr} {pos pos':Pos} {i:Nat} {fe:FD}
end
section
open PySem.Spec PyProof.Rows
variable {X:Cx}
end
end Hk
namespace L2
open PySem PySem.Spec PyProof.Rows
end L2
namespace Hk
open PySem L2
section
variable {ω:WSt} {fk fv:FD} {fa:FA} {i j:Nat} {ds:List D} {a b c:Int} {d:D} {g:Int->Int->Int}
end
end Hk
namespace L2
open PySem PySem.Spec PyProof.Rows
noncomputable def Ite(K:zA)(a:Addr):It :=
 ⟨λi H=>∃ xs x,SqL K H a xs/\xs[i]?=some x,
  λi H x H'=>∃ t x1,H t=none/\x=.ref t/\H'=upd H t (.tup [.int i,x1])/\∀ xs,SqL K H a xs->xs[i]?=some x1,
  λi H=>∃ xs,SqL K H a xs/\xs[i]?=none⟩
theorem qaP{P:Program}{w:World}{K:zA}{elts:List Expr}{kx}{tpos:Pos}(a e it:Addr)(hne:e≠it)(hae:a≠e)(hai:a≠it) :
  Turn P w K (.Tuple elts kx tpos) (Ite K a) [e,it] e (λi h=>(∃ old,IsEnum h e it (i:Int) old)/\h.IsListIter it a i) where
 mem:=by simp
 obj:=λi h st c hc=>by
  obtain⟨⟨old,s1⟩,⟨o4,e4,c4,d4⟩⟩:=st;simp only[zF,zi,or_false] at hc;rcases hc with rfl|rfl
  ·exact⟨_,s1,λv y=>by cases (show Data.fields _=Data.cell v from y)⟩
  ·exact⟨_,e4,λv y=>by rw[d4] at y;cases y⟩
 keep:=λi h h' st k=>by
  obtain⟨⟨old,s1⟩,s4⟩:=st;exact⟨⟨old,k _ (by simp) _ s1⟩,s4.at λo e=>k _ (by simp) o e⟩
 item:=by
  intro X hP hw hK hc i pins s σ H E I hf st hg;subst hP hw hK;obtain⟨xs,x,hq,hx⟩:=hg;obtain⟨its,rv,p,hz⟩:=I.list hq;obtain⟨u,hu,ru⟩:=rv.get hx;obtain⟨⟨old,s1⟩,s4⟩:=st;have ex:∀ c∈[e,it],∃ o,s.heap.get? c=some o:=λc hc=>by
   simp only[zF,zi,or_false] at hc;rcases hc with rfl|rfl
   ·exact⟨_,s1⟩
   ·obtain⟨o,e,_⟩:=s4;exact⟨o,e⟩
  have nt:∀ c∈[e,it],c≠s.heap.objs.size:=λc hc=>by
   obtain⟨o,e⟩:=ex c hc;exact zt (zO e)
  refine wpAny_pyNext_enum_item s1 s4 p.isList (x:=u) (by simpa using hu) hne λh' a1 a2 a3 a4 hk=>?_;have hn:H s.heap.objs.size=none:=I.hok.fresh (zJ _);have I1:Inv X pins σ (upd H s.heap.objs.size (.tup [.int i,x])) { s with heap:=s.heap.push { cls:=.type "tuple", data:=.seq #[.int i s.toks,u] },toks:=s.toks+1 } :=
   I.laid (λb o e=>zE _ e) (zJ _) (show Y3 X.prog X.w _ _ _ (.tup [.int i,x]) from ⟨by show 2 <= sizeLine;decide,[.int i s.toks,u],.cons ⟨_,rfl⟩ (.cons ru .nil),⟨_,zR _ rfl,rfl,_,rfl⟩⟩)
  have hf':∀ c∈[e,it],X7 X pins (upd H s.heap.objs.size (.tup [.int i,x])) c:=λc hc=>by
   obtain⟨f0,f⟩:=hf c hc;exact⟨by rw[qc (nt c hc)];exact f0,f⟩
  have I2:Inv X pins σ (upd H s.heap.objs.size (.tup [.int i,x])) { s with heap:=h',toks:=s.toks+1 }:=I1.turnedL (λb o hb e=>by
   simp only[zF,zi,or_false,not_or] at hb
   by_cases q:b=s.heap.objs.size
   ·subst q
    rw[zR _ rfl] at e;cases e;exact a3
   ·have e':s.heap.get? b=some o:=by
     rcases zu b s.heap.objs.size with l|l
     ·obtain⟨z1,z2⟩:=wB.mp e
      refine wB.mpr ⟨?_,z2⟩;rw[<- z1];show s.heap.objs[b]?=(s.heap.objs.push _)[b]?;rw[Za,if_neg q]
     ·have:=zO e
      rw[yd] at this;exact absurd (by simp only[Addr] at *;omega) q
    exact hk b o hb.1 hb.2 e') hf'
  refine⟨_,rfl,wpAny_letOwnedTupleGo_enum a1 λh2 b1 sb=>?_⟩;have I3:Inv X pins σ (upd H s.heap.objs.size (.tup [.int i,x])) { s with heap:=h2,toks:=s.toks+1 }:=I2.turnedL (λb o hb e=>(sb.2 b (λq=>hb (by simp[q]))).trans e) hf';have hi:((i+1:Nat):Int)=(i:Int)+1:=by push_cast;rfl
  refine⟨.ref s.heap.objs.size,_,I3,rfl,⟨_,x,hn,rfl,rfl,λxs' q1=>by rw[I.list_inj q1 hq];exact hx⟩,⟨⟨u,by rw[hi];exact b1⟩,a2.extBut sb.extBut (Ne.symm hne)⟩,λc hc=>(hf' c hc).1⟩
 done:=by
  intro X hP hw hK hc i pins s σ H E I hf st hg;subst hP hw hK;obtain⟨xs,hq,hx⟩:=hg;obtain⟨its,rv,p,hz⟩:=I.list hq;obtain⟨⟨old,s1⟩,s4⟩:=st;have l1:=rv.length;refine wpAny_pyNext_enum_end (I.ok.hd hc) s1 s4 p.isList ?_ λh' hk=>⟨rfl,I.turnedL (t':=s.toks) (λb o hb e=>?_) hf⟩
  ·rw[xr] at hx;simp;omega
  ·simp only[zF,zi,or_false,not_or] at hb
   exact hk b o hb.2 e
 self:=λ_ _ _ _ _ st h=>by
  obtain⟨⟨old,s1⟩,s4⟩:=st;exact wpAny_pyIter_enum s1 h
noncomputable def iEnum(K:zA)(ta:TA):TI:=λσ H R=>ta σ H λvs H1=>∃ a xs,vs=[.ref a]/\SqL K H1 a xs/\R (Ite K a) H1
theorem q8H{X:Cx}{a:Expr}{ta:TA}{p pos tpos:Pos}{elts:List Expr}{kx}(hg:Gl X "enumerate")(hm:X.mg "enumerate" = none)(ha:PA X [a] ta)(hs:starEach [a] X.env=[(false,eval a X.env)]:=by rfl) :
  PI X (.Tuple elts kx tpos) (.Call (.Name "enumerate" p) [a] [] pos) (iEnum X.K ta):=by
 intro pins s σ H R I h;refine Call_ (q0l I hg hm PyProof.Rows.boot_enumerate (PyProof.Rows.callWith_type1 (thn (ha pos pins s σ H _ I h) λus s1 ⟨vs,H1,I1,r1,q1⟩=>?_) hs rfl));obtain⟨l,xs,e,hq,q⟩:=q1;subst e;cases r1 with
 | cons r rr =>
  cases rr;cases r;obtain⟨its,rv,p1,hz⟩:=I1.list hq;have hlt:l < s1.heap.objs.size:=by obtain⟨_,_,e,_⟩:=p1;exact zO e
  refine call_enumerate_list p1.isList λh' a1 a2 a3 hk=>?_;refine wpAny_pyIter_enum a1 ?_;refine⟨s1.heap.objs.size+1,[s1.heap.objs.size+1,s1.heap.objs.size],_,_,H1,rfl,I1.kept (t':=s1.toks) hk,qaP l _ _ (Nat.succ_ne_self _) (zt (yN hlt)) (zt hlt),⟨⟨_,a1⟩,a2⟩,λc hc=>?_,q⟩;have hle:s1.heap.objs.size <= c:=by
   simp only[zF,zi,or_false] at hc;simp only[Addr] at *;omega
  exact I1.fpOk hle (I1.hok.fresh hle)
end L2
namespace Hk
open PySem L2
noncomputable def WQ:Nat->List D->List D
 | i,a::as=>.tup [.int i,a]::WQ (i+1) as
 | _,[]=>[]
theorem q2V:∀ (i:Nat) (as:List D),(WQ i as).length=as.length
 | i,a::as=>by show (WQ (i+1) as).length+1=_;rw[q2V];rfl
 | i,[]=>rfl
theorem q5R:∀ (k:Nat) (as:List D) (i:Nat) (d:D),(WQ k as)[i]?=some d->∃ a,as[i]?=some a/\d=.tup [.int ((k+i:Nat):Int),a]
 | k,a::as,0,d,h=>by cases h;exact⟨a,rfl,rfl⟩
 | k,a::as,i+1,d,h=>by
  obtain⟨b,h1,h2⟩:=q5R (k+1) as i d h;exact⟨b,h1,by rw[h2];congr 4;omega⟩
 | k,[],i,d,h=>by cases h
theorem qb2{K:zA}{G:Hp}{a:Addr}{ds:List D}{vs:List V}(h1:G a=some (.lst vs))(h2:Yo K G ds vs):IterOf K (Ite K a) G (WQ 0 ds):=by
 have l1:=h2.len;refine⟨λH i s hi=>?_,λG2 H i x H' d s0 s1 hd hy=>?_,λH s=>⟨vs,SqL.of (s _ _ h1),?_⟩⟩
 ·rw[q2V] at hi
  exact⟨vs,vs[i]'(by omega),SqL.of (s _ _ h1),zD _⟩
 ·obtain⟨t,x1,ht,rfl,rfl,y⟩:=hy
  have e1:=y vs (SqL.of (s1 _ _ (s0 _ _ h1)));obtain⟨p,f1,rfl⟩:=q5R 0 ds i d hd;obtain⟨v,q1,q2⟩:=h2.get f1;rw[e1] at q1;cases q1;have x2:=Ext.lay s1 ht (.tup [.int i,x1]);exact⟨_,x2,⟨t,_,rfl,qd,Yo.cons (by show (.int i:V)=.int ((0+i:Nat):Int);rw[y8]) (Yo.cons (q2.mono (s0.trans x2.gg)) Yo.nil)⟩⟩
 ·rw[q2V];exact zn (by omega)
noncomputable def iEn(g:FA):FI:=λω=>(g ω).bind λds=>match ds with
 | [.lst a]=>some (WQ 0 a)
 | _=>none
theorem qdt{X:Cx}{a:Expr}{g:FA}{p pos tpos:Pos}{elts:List Expr}{kx}(hg:Gl X "enumerate")(hm:X.mg "enumerate" = none)(ha:XA X [a] g)(hs:starEach [a] X.env=[(false,eval a X.env)]:=by rfl) :
  XI X (.Tuple elts kx tpos) (.Call (.Name "enumerate" p) [a] [] pos) (iEn g):=by
 obtain⟨⟨t,h1,h2⟩,_⟩:=ha;refine⟨_,q8H hg hm h1 hs,λG0 H0 G ω σ H ds R o e k=>?_⟩;obtain⟨vs,q,e⟩:=bnd e;refine h2 G0 H0 G ω σ H vs _ o q λus G1 H1 x1 y1=>?_
 match vs,e with
 | [.lst as],e =>
  cases e;obtain⟨v1,r1,rfl,z1,z2⟩:=y1;cases (show r1=[] from z2);obtain⟨a1,ws1,rfl,f1,f2⟩:=z1;exact⟨a1,ws1,rfl,SqL.of (x1.gh _ _ f1),k _ G1 H1 x1 (qb2 f1 f2)⟩
noncomputable def enI(o:Option (List D)):Option (List D):=o.bind λds=>match ds with
 | [.lst a]=>some (WQ 0 a)
 | _=>none
theorem qaq{fa:FA}{ω:WSt}:iEn fa ω=enI (fa ω):=rfl
theorem qah{ds:List D}:enI (some [.lst ds])=some (WQ 0 ds):=rfl
section
open PyProof.Rows PySem.Spec
variable {prog:Program} {w:World} {A:Around} {E:Value->Shared->Prop} {s:Shared} {l:Addr} {xs:Array (Int×Tok)}
end
section
variable {X:Cx}
open PyProof.Rows PySem.Spec
end
end Hk
namespace Hk
open PySem PySem.Spec PyProof.Rows L2
section
variable {prog:Program} {w:World} {A:Around} {E:Value->Shared->Prop} {s:Shared}
end
end Hk
namespace L2
open PySem PySem.Spec PyProof.Rows Hk
end L2
namespace Hk
open PySem L2
end Hk
namespace L2
open PySem PySem.Spec PyProof.Rows
noncomputable def Itk(a:Addr)(ob:Obj)(kvs:List (Key×V)):It :=
 ⟨λi H=>H a=some (.frz ob (.dK kvs))/\i < kvs.length,λi H x H'=>H'=H/\∃ n v,kvs[i]?=some (Sum.inl n,v)/\x=.int n,λi H=>H a=some (.frz ob (.dK kvs))/\kvs.length <= i⟩
theorem qaY{X:Cx}{pins:List (Addr×Obj)}{σ:St}{H:Hp}{s:Shared}{a:Addr}{ob:Obj}{kvs:List (Key×V)}{es0:Array DictEntry}{ep:Nat}(I:Inv X pins σ H s)(h:H a=some (.frz ob (.dK kvs)))(hd:ob.data=.dict es0 ep) :
  (a == sysModules)=false/\∃ vs,KV kvs vs/\s.heap.DictAt (Yv X.prog X.w) a vs ep:=by
 obtain⟨e,_,lo,vs,r,o,es,ep',e',c1,c2,c3⟩:=(show Y3 X.prog X.w H s.heap a (.frz ob (.dK kvs)) from I.hok a _ h);refine⟨lo,vs,r,o,es,e',c1,?_,c3⟩;rw[e] at e';cases e';rw[hd] at c2;cases c2;exact hd
theorem qbD{P:Program}{w:World}{K:zA}{tg:Expr}{ob:Obj}{kvs:List (Key×V)}{es0:Array DictEntry}{ep:Nat}(a it:Addr)(hne:a≠it)(hd:ob.data=.dict es0 ep)(hk:∀ p∈kvs,∃ n:Int,p.1=(Sum.inl n:Key)) :
  Turn P w K tg (Itk a ob kvs) [it] it (λi h=>h.IsKeyIter it a i kvs.length ep) where
 mem:=by simp
 obj:=λi h st b hb=>by
  have e:b=it:=by simpa using hb
  subst e;obtain⟨o,e,c,d⟩:=st;exact⟨o,e,λv z=>by rw[d] at z;cases z⟩
 keep:=λi h h' st k=>st.at λo e=>k it (by simp) o e
 item:=by
  intro X hP hw hK hc i pins s σ H E I hf st hg;subst hP hw hK;obtain⟨hq,hi⟩:=hg;obtain⟨lo,vs,r,hm⟩:=qaY I hq hd;have hl:kvs.length=vs.length:=by have:=congrArg xX r.keys;simpa using this
  obtain⟨⟨k,v⟩,hx⟩:∃ p,kvs[i]?=some p:=⟨kvs[i],zD hi⟩;obtain⟨n,rfl⟩:=hk _ (z7 hx);obtain⟨⟨k',u⟩,hu⟩:∃ p,vs[i]?=some p:=⟨vs[i]'(by omega),zD _⟩;have ek:k'=(Sum.inl n:Key):=by
   have h1:(kvs.map (·.1))[i]?=some (Sum.inl n):=by rw[za,hx];rfl
   rw[r.keys,za,hu] at h1;exact zw h1
  subst ek;obtain⟨f0,f1,f2,f3,f4,f5⟩:=hf it (by simp);rw[hl] at st;refine wpAny_pyNext_dict_item st hm hu λkey h' hkey st' sb=>?_;have I1:Inv X pins σ H { s with heap:=h' }:=I.turned (t':=s.toks) (λb o hb e=>(sb.2 b hb).trans e) f0 f1 f3 f4 f5;obtain⟨t,rfl⟩:∃ t,key=.int n t:=by
   rcases qv (k:=(Sum.inl n:Key)) hkey with⟨i,t,e4,rfl⟩|⟨x,t,e4,_⟩
   ·cases e4;exact⟨t,rfl⟩
   ·cases e4
  obtain⟨o,e,c,d⟩:=id st';rw[<- hl] at st';exact⟨.int n t,rfl,q6t (s:={ s with heap:=h' }) e c d (by decide) ⟨.int n,H,I1,⟨t,rfl⟩,⟨rfl,n,v,hx,rfl⟩,st',λb hb=>(hf b hb).1⟩⟩
 done:=by
  intro X hP hw hK hc i pins s σ H E I hf st hg;subst hP hw hK;obtain⟨hq,hi⟩:=hg;obtain⟨lo,vs,r,hm⟩:=qaY I hq hd;have hl:kvs.length=vs.length:=by have:=congrArg xX r.keys;simpa using this
  obtain⟨f0,f1,f2,f3,f4,f5⟩:=hf it (by simp);rw[hl] at st;exact wpAny_pyNext_dict_end (I.ok.hd hc) st hm (zn (by omega)) λh' eb=>⟨rfl,I.turned (t':=s.toks) (λb o hb e=>eb b o hb e) f0 f1 f3 f4 f5⟩
 self:=λ_ _ _ _ _ st h=>wpAny_pyIter_keyiter st h
noncomputable def iKeys(tl:TE):TI:=λσ H R=>tl σ H λv H1=>∃ a ob kvs,v=.ref a/\H1 a=some (.frz ob (.dK kvs))/\(∀ p∈kvs,∃ n:Int,p.1=(Sum.inl n:Key))/\R (Itk a ob kvs) H1
theorem qeu{X:Cx}{tg l:Expr}{tl:TE}(hl:PE X l tl):PI X tg l (iKeys tl):=by
 intro pins s σ H R I h;refine thn (hl pins s σ H _ I h) λv s1 ⟨x,H1,I1,r1,q1⟩=>?_;obtain⟨a,ob,kvs,e,hq,hk,q⟩:=q1;subst e;cases r1;obtain⟨e0,_,lo,vs,r,o,es,ep,e',c1,c2,c3⟩:=(show Y3 X.prog X.w H1 s1.heap a (.frz ob (.dK kvs)) from I1.hok a _ hq);have hob:ob.data=.dict es ep:=by rw[e0] at e';cases e';exact c2
 have hm:s1.heap.DictAt (Yv X.prog X.w) a vs ep:=⟨o,es,e',c1,c2,c3⟩;have hlen:kvs.length=vs.length:=by have:=congrArg xX r.keys;simpa using this
 have hlt:a < s1.heap.objs.size:=zO e0;refine wpAny_pyIter_dict lo hm ?_;refine⟨s1.heap.objs.size,[s1.heap.objs.size],_,_,H1,rfl,I1.kept (t':=s1.toks) λb o e=>zE _ e,qbD a _ (zt hlt) hob hk,⟨_,zR _ rfl,rfl,by rw[hlen];rfl⟩,λb hb=>?_,q⟩;have e:b=s1.heap.objs.size:=by simpa using hb
 subst e;exact I1.fpOk (zJ _) (I1.hok.fresh (zJ _))
end L2
namespace Hk
open PySem L2
theorem q64:∀ {ks:List Int} {vs:List V} {i:Nat} {n:Int} {v:V},(kvsOf ks vs)[i]?=some (Sum.inl n,v)->ks[i]?=some n
 | [],_,_,_,_,h=>by cases h
 | _::_,[],_,_,_,h=>by cases h
 | k::ks,v::vs,0,n,u,h=>by cases h;rfl
 | k::ks,v::vs,i+1,n,u,h=>q64 (ks:=ks) (vs:=vs) h
theorem q66:∀ {ks:List Int} {vs:List V},∀ p∈kvsOf ks vs,∃ n:Int,p.1=(Sum.inl n:Key)
 | [],_,_,h=>by cases h
 | _::_,[],_,h=>by cases h
 | k::ks,v::vs,p,h=>by
  rcases zF.mp h with rfl|h
  ·exact⟨k,rfl⟩
  ·exact q66 p h
theorem qb3{K:zA}{G:Hp}{a:Addr}{ob:Obj}{ks:List Int}{vs:List V}(h1:G a=some (.frz ob (.dK (kvsOf ks vs))))(hl:ks.length=vs.length):IterOf K (Itk a ob (kvsOf ks vs)) G (ks.map D.int):=by
 have l1:=q1f hl;refine⟨λH i s hi=>⟨s _ _ h1,by rw[zB] at hi;omega⟩,λG2 H i x H' d s0 s1 hd hy=>?_,λH s=>⟨s _ _ h1,by rw[zB];omega⟩⟩;obtain⟨e,n,v,q1,q2⟩:=hy;subst e q2;have:=q64 q1;rw[za,this] at hd;cases hd;exact⟨G2,Ext.refl s1,rfl⟩
noncomputable def zBe:Option (Option W)->Option (List D)
 | some (some (.sh (.dic ks _)))=>some (ks.map D.int)
 | _=>none
noncomputable def iDk(i:Nat):FI:=λω=>zBe ω[i]?
theorem qdn{X:Cx}{tg o:Expr}{i:Nat}(ho:PE X o (XF i)):XI X tg o (iDk i):=by
 refine⟨_,qeu ho,λG0 H0 G ω σ H ds R ow e k=>?_⟩;unfold iDk zBe at e
 split at e
 ·rename_i ks ds' q
  cases e;obtain⟨v,h1,p,vs,rfl,⟨ob,h2⟩,h3,h4⟩:=ow.sh i _ q;exact⟨.ref p,h1,p,ob,_,rfl,ow.gh _ _ h2,q66,k _ G H (Ext.refl ow.gh) (qb3 h2 (by rw[h3];exact h4.len))⟩
 ·cases e
end Hk
namespace Hk
open PySem PySem.Spec L2 PyProof.Rows
section
variable {P:Program} {w:World} {H:Hp} {h:Heap} {a:Addr} {o:HO}
end
section
variable {X:Cx} {pins:List (Addr×Obj)} {σ:L2.St} {H:Hp} {s:Shared} {h':Heap}
end
section
variable {X:Cx} {E:XK}
end
noncomputable abbrev FX:=WSt->Option Str
noncomputable def yNo:FX:=λ_=>none
noncomputable def yRaise(x:Str):FX:=λ_=>some x
noncomputable def yCall(g:List D->Option Str)(ga:FA):FX:=λω=>(ga ω).bind g
noncomputable def yIf(c:FT)(g g':FX):FX:=λω=>(c ω).bind λb=>if b=true then g ω else g' ω
section
variable {X:Cx} {E:XK} {st:Stmt} {rest:List Stmt} {e:Expr} {es:List Expr} {pos:Pos} {g g':FX}
end
end Hk
namespace PySem
section
variable {M:Model} {A:Around} {E:Value->Shared->Prop} {nm q:Str} {C N:Addr} {bs bm:List Value} {hdct:Bool} {sn:List Str} {sub:List Value} {ab:Bool} {col:Option Bool} {dd:Option Addr} {k0 k1 k2 k3 k5:Option Value} {newId:String}
variable {nm' q':Str} {C' N':Addr} {bs' bm':List Value} {hdct':Bool} {sn':List Str} {sub':List Value} {ab':Bool} {col':Option Bool} {dd':Option Addr} {j0 j1 j2 j3 j5:Option Value} {newId':String}
end
end PySem
namespace Hk
open PySem PySem.Spec L2 PyProof.Rows
section
variable {X:Cx} {pins:List (Addr×Obj)} {σ:L2.St} {H:Hp} {s:Shared}
end
section
variable {X:Cx} {st:Stmt} {rest:List Stmt} {e:Expr} {es:List Expr} {pos:Pos} {g g':FX}
end
noncomputable def sTry(f:FS)(g:FX)(cs:List Str)(i:Nat)(fh:FS):FS:=λω=>match g ω with
 | some c=>if c∈cs then (fh (ω.set i (some (.sh (.exc c))))).map λp=>(p.1,p.2.set i none) else none
 | none=>f ω
section
variable {X:Cx} {pins:List (Addr×Obj)} {σ:L2.St} {H:Hp} {s:Shared}
end
section
variable {K:zA} {G0:Hp} {H0:Fr} {G:Hp} {ω:WSt} {σ:L2.St} {H:Hp}
end
section
variable {X:Cx}
end
end Hk
namespace PySem.W
open PySem PySem.Calls PyProof.Rows
open Builtin Builtin.ObjectAttr Builtin.Getset_descriptor
section
variable {prog:Program} {w:World} {A:Around} {E:Value->Shared->Prop} {K:Frag} {x C:Addr} {h:Heap} {g:Array GenState} {d:Drawn} {t:Nat} {os:OsState} {ob:Obj}
end
end PySem.W
namespace Hk
open PySem PySem.Spec L2 PyProof.Rows
noncomputable def fIsx(tab:List (Str×Bool))(f:FD):FE:=λω=>(f ω).bind λd=>match d with
 | .exc c=>(tab.lookup c).map λb=>.sh (.bl b)
 | _=>none
section
variable {X:Cx} {a:Expr} {f:FD}
end
section
variable {X:Cx} {E:XK} {st:Stmt} {rest:List Stmt} {g:FX}
end
noncomputable def tryS(o:Option Str)(f:FS)(cs:List Str)(i:Nat)(fh:FS)(ω:WSt):Option (Out×WSt):=match o with
 | some c=>if c∈cs then (fh (ω.set i (some (.sh (.exc c))))).map λp=>(p.1,p.2.set i none) else none
 | none=>f ω
noncomputable def goS(i:Nat)(o:Option (Out×WSt)):Option (Out×WSt):=o.map λp=>(p.1,p.2.set i none)
noncomputable def ifX(o:Option Bool)(g g':FX)(ω:WSt):Option Str:=o.bind λb=>if b=true then g ω else g' ω
noncomputable def callX(m:List D->Option Str)(o:Option (List D)):Option Str:=o.bind m
noncomputable def isxR(tab:List (Str×Bool))(o:Option D):Option R:=o.bind λd=>match d with
 | .exc c=>(tab.lookup c).map λb=>.sh (.bl b)
 | _=>none
noncomputable def dropS(o:Option R)(ω:WSt):Option (Out×WSt):=o.map λ_=>(.nx,ω)
section
variable {f fh:FS} {g g':FX} {cs:List Str} {i:Nat} {ω w:WSt} {c:Str} {ft:FT} {fa:FA} {ds:List D} {fd:FD} {fe:FE} {o:Out} {r:R}
theorem qfh:sTry f g cs i fh ω=tryS (g ω) f cs i fh ω:=rfl
theorem qd1:tryS none f cs i fh ω=f ω:=rfl
theorem qcu(h:c∈cs):tryS (some c) f cs i fh ω=goS i (fh (ω.set i (some (.sh (.exc c))))):=if_pos h
theorem qga:goS i (some (o,w))=some (o,w.set i none):=rfl
theorem qg5:yIf ft g g' ω=ifX (ft ω) g g' ω:=rfl
theorem qeA:ifX (some true) g g' ω=g ω:=rfl
theorem qeD:ifX (some false) g g' ω=g' ω:=rfl
theorem qgn:yNo ω=none:=rfl
theorem qce:yRaise c ω=some c:=rfl
theorem qdA{m}:yCall m fa ω=callX m (fa ω):=rfl
theorem e_xc{m}:callX m (some ds)=m ds:=rfl
theorem qg7{tab}:fIsx tab fd ω=isxR tab (fd ω):=rfl
theorem e_xi{tab}:isxR tab (some (.exc c))=(tab.lookup c).map λb=>.sh (.bl b):=rfl
theorem qdJ:zBd fe ω=dropS (fe ω) ω:=rfl
theorem e_xd:dropS (some r) ω=some (.nx,ω):=rfl
end
noncomputable def sTry0(f:FS)(g:FX)(cs:List Str)(fh:FS):FS:=λω=>match g ω with
 | some c=>if c∈cs then fh ω else none
 | none=>f ω
section
variable {X:Cx}
end
noncomputable def zCA(o:Option Str)(f:FS)(cs:List Str)(fh:FS)(ω:WSt):Option (Out×WSt):=match o with
 | some c=>if c∈cs then fh ω else none
 | none=>f ω
section
variable {f fh:FS} {g:FX} {cs:List Str} {ω:WSt} {c:Str}
theorem qgm:sTry0 f g cs fh ω=zCA (g ω) f cs fh ω:=rfl
theorem qdv:zCA none f cs fh ω=f ω:=rfl
theorem qev(h:c∈cs):zCA (some c) f cs fh ω=fh ω:=if_pos h
end
end Hk
namespace L2
open PySem PySem.Spec PyProof.Rows
section
variable {X:Cx} {pins:List (Addr×Obj)} {σ:St} {H:Hp} {s:Shared} {a:Addr} {A:Around} {E:Value->Shared->Prop} {kvs:List (Key×V)} {k:Key} {u r:Value} {z:V}
theorem qd5{Q:Value->Shared->Prop}(I:Inv X pins σ H s)(e:H a=some (.dK kvs))(hz:kvs.length < sizeLine)(ry:RelV (kV k) u)(rz:RelV z r)
  (h1:∀ v w' s',WM kvs k=some v->Inv X pins σ H s'->RelV v w'->Q w' s') (h2:WM kvs k=none->∀ s',Inv X pins σ (upd H a (.dK (putK kvs k z))) s'->Q r s') :
  wpAny (model X.prog X.w) A (call (.builtin "dict.setdefault") [.ref a,u,r]) Q E s:=by
 obtain⟨zl,hd,vs,rel,dd⟩:=q9x I.hok e;have rv:=rel.val k;refine call_meetsIn PySem.F.slot_dict_setdefault dd.typeIs PySem.F.entry_dict_setdefault (PySem.F.args_dict_setdefault_3 _ _ _) (kt_meets_setdefault (Yv X.prog X.w) a (q2D ry) hd r)
  ⟨vs,dd,by rw[<- rel.length];exact zl,λv hv=>?_,λhn h' dd' hs=>?_⟩
 ·rw[hv] at rv
  cases q:WM kvs k with
  | none=>rw[q] at rv;exact rv.elim
  | some v0=>rw[q] at rv;exact h1 v0 v _ q (I.tok _) rv
 ·rw[hn] at rv
  cases q:WM kvs k with
  | some v0=>rw[q] at rv;exact rv.elim
  | none =>
   refine h2 q _ ?_;have he:∃ q,h'.get? a=some q:=let ⟨q,_,_,hq,_⟩:=dd';⟨q,hq⟩
   have hl:(putK kvs k z).length <= sizeLine:=by rw[qc9 z q,zC,zU];exact hz
   exact q3z I (by rw[e];exact True.intro) hs he (q74 hl hd (rel.put k rz) dd')
end
noncomputable def tDSd(td ty tx:TE):TE:=λσ H Q=>td σ H λx H1=>∃ a,x=.ref a/\IsD H1 a/\ty σ H1 λy H2=>tx σ H2 λz H3=>∃ kvs k,H3 a=some (.dK kvs)/\y=kV k/\kvs.length < sizeLine /\
 (∀ v,WM kvs k=some v->Q v H3)/\(WM kvs k=none->Q z (upd H3 a (.dK (putK kvs k z))))
theorem qfo{X:Cx}{o e f:Expr}{apos cpos:Pos}{td ty tx:TE}(ho:PE X o td)(he:PE X e ty)(hf:PE X f tx)(m:M2 X o "setdefault" apos e f cpos):PE X (.Call (.Attribute o "setdefault" apos) [e,f] [] cpos) (tDSd td ty tx):=by
 intro pins s σ H Q I h;refine wpAny_Call_method m.base m.few m.line PySem.F.plainAttrs_dict PySem.F.slot_dict_setdefault PySem.F.type_dict_setdefault (thn (ho pins s σ H _ I h) λu s1 ⟨x,H1,I1,rx,a,ex,d,q1⟩=>?_);subst ex;obtain rfl:u=Value.ref a:=rx;obtain⟨t1,t2,_⟩:=qaM I1 d;refine⟨t1,t2,?_⟩;rw[m.trees];refine Calls.callWith_builtin rfl (Calls.evalArgs_plain (Calls.spliced_cons (thn (he pins s1 σ H1 _ I1 q1) λiv s2 ⟨y,H2,I2,ry,q2⟩ =>
  Calls.spliced_cons (thn (hf pins s2 σ H2 _ I2 q2) λfv s3 ⟨z,H3,I3,rz,kvs,k,ea,ey,hz,g1,g2⟩=>Calls.spliced_nil ?_))))
 subst ey;exact qd5 I3 ea hz ry rz (λv w' s4 hv I4 rw'=>⟨v,H3,I4,rw',g1 v hv⟩) λhn s4 I4=>⟨z,_,I4,rz,g2 hn⟩
end L2
namespace Hk
open PySem L2
theorem q0d{α:Type}:∀ {ks:List Int} {xs:List α} {k:Int},ks.length=xs.length->(Yw ks xs k).isSome=decide (k∈ks)
 | [],[],k,_=>by simp[Yw]
 | [],_::_,_,h=>by simp at h
 | _::_,[],_,h=>by simp at h
 | k'::ks,x::xs,k,h=>by
  show (if k'=k then some x else Yw ks xs k).isSome=_
  by_cases z:k'=k
  ·rw[if_pos z,decide_eq_true (by rw[z];exact zG)];rfl
  ·rw[if_neg z,q0d (by simpa using h)]
   have:(k∈k'::ks)↔k∈ks:=⟨λm=>(zF.mp m).resolve_left λe=>z e.symm,zH _⟩;rw[decide_eq_decide.mpr this]
theorem q6b{α:Type}{v:α}:∀ {ks:List Int} {xs:List α} {k:Int},ks.length=xs.length->k∉ks->Yw (ks++[k]) (xs++[v]) k=some v
 | [],[],k,_,_=>if_pos rfl
 | [],_::_,_,h,_=>by simp at h
 | _::_,[],_,h,_=>by simp at h
 | k'::ks,x::xs,k,h,hk=>by
  show (if k'=k then some x else Yw (ks++[k]) (xs++[v]) k)=some v;rw[if_neg (λz=>hk (by rw[z];exact zG))];exact q6b (by simpa using h) λm=>hk (zH _ m)
noncomputable def XQ(st:List Int×List (List Int))(n:Int)(a:Int):List Int×List (List Int) :=
 if a∈st.1 then (st.1,WK st.1 st.2 a n) else (st.1++[a],WK (st.1++[a]) (st.2++[[]]) a n)
noncomputable def byS(as:List (Int×Int)):Nat->List Int×List (List Int)
 | 0=>([],[])
 | n+1=>match as[n]? with
  | some a=>XQ (byS as n) n a.1
  | none=>byS as n
noncomputable def spT(K:zA):Sp:=λvs H Q _=>∃ (G:Hp) (as:List (Int×Int)),Yz G H/\Yo K G [.lst (as.map Yi)] vs/\as.length <= 9000 /\
 ∀ G' p ls H',Ext G H G' H'->Tab G' H H' p (byS as as.length).1 ls (byS as as.length).2->Q (.ref p) H'
theorem qd8(as:List (Int×Int)):∀ n:Nat,(byS as n).1.length <= n/\∀ xs∈(byS as n).2,xs.length <= n
 | 0=>⟨zJ _,λxs h=>by cases h⟩
 | n+1=>by
  obtain⟨h1,h2⟩:=qd8 as n;unfold byS;cases q:as[n]? with
  | none=>exact⟨by show (byS as n).1.length <= _;omega,λxs hx=>by have:=h2 xs hx;omega⟩
  | some a =>
   show (XQ (byS as n) n a.1).1.length <= _/\∀ xs∈(XQ (byS as n) n a.1).2,_;unfold XQ
   split
   ·exact⟨by show (byS as n).1.length <= _;omega,q2h n _ _ _ _ h2⟩
   ·refine⟨by show ((byS as n).1++[a.1]).length <= _;rw[zC,zU];omega,q2h n _ _ _ _ λxs hx=>?_⟩
    rcases zN.mp hx with y|y
    ·exact h2 xs y
    ·cases zT.mp y;exact zz _
section
variable {K:zA} {G0:Hp} {H0:Fr} {G:Hp} {ω:WSt} {σ:St} {H:Hp}
end
theorem noOw4{d0 d2 d3:Option D}:Xq [d0.map W.sh,none,d2.map W.sh,d3.map W.sh]:=by
 intro i w h
 match i,h with
 | 0,h=>cases d0 <;> cases h;exact⟨_,rfl⟩
 | 1,h=>cases h
 | 2,h=>cases d2 <;> cases h;exact⟨_,rfl⟩
 | 3,h=>cases d3 <;> cases h;exact⟨_,rfl⟩
 | i+4,h=>simp at h
section
variable {X:Cx}
theorem qel{ta:TE}{g0:FD}(k2:zAp X.K ta g0){G0:Hp}{H0:Fr}{G:Hp}{ω:WSt}{σ:St}{H:Hp}{p:Addr}{ks:List Int}{ls:List Addr}{xss:List (List Int)}{a n:Int}{Q:VK}(o:Own X.K G0 H0 G ω σ H)(no:Xq ω)(s1:σ[1]?=some (some (.ref p)))(s2:σ[2]?=some (some (.int n)))(T:Tab G H0 H p ks ls xss)
  (h0:g0 ω=some (.int a)) (hk:ks.length < 1000000) (hz:∀ xs∈xss,xs.length < 1000000)
  (h:∀ G' H' ls',Own X.K G0 H0 G' ω σ H'->Yz G G'->Tab G' H0 H' p (XQ (ks,xss) n a).1 ls' (XQ (ks,xss) n a).2->Q .non H') :
  tBM X.K "list" Xw (tDSd (XF 1) ta (zCQ W8)) (WN (XF 2) W8) σ H Q:=by
 have hlen:ks.length=(ls.map V.ref).length:=by rw[zB];exact T.len
 refine⟨.ref p,s1,p,rfl,.inl ⟨_,.inl T.dict⟩,k2 G0 H0 G ω σ H _ _ o h0 λu G1 H1 x1 y1=>?_⟩;cases (show u=.int a from y1);have o1:=o.keep x1;have T1:=T.keep x1;refine⟨by show 0 <= sizeLine;exact zz _,λq hq=>?_⟩;have hpq:p≠q:=λz=>by rw[<- z,T1.dict] at hq;cases hq
 have x2:=Ext.hide o1.gh hq (.lst []);have o2:=o1.keep x2;have T2:=T1.keep x2;have vv:WM (kvsOf ks (ls.map V.ref)) (Sum.inl a:Key)=Yw ks (ls.map V.ref) a:=qP hlen a;refine⟨kvsOf ks (ls.map V.ref),Sum.inl a,T2.dict,rfl,by rw[q1f hlen,sizeLine_eq];omega,λv hv=>?_,λhn=>?_⟩
 ·-- the key is there
  have ha:a∈ks:=by
   have:=q0d (ks:=ks) (xs:=ls.map V.ref) (k:=a) hlen;rw[vv] at hv;rw[hv] at this;exact of_decide_eq_true this.symm
  obtain⟨l,xs,n1,n2,n3,n4,n5,n6⟩:=T2.app n ha;rw[vv,n3] at hv;cases hv;refine⟨.inl ⟨rfl,_,SqL.of n5⟩,.int n,s2,l,_,.int n,rfl,rfl,n5,by rw[zB,sizeLine_eq];have:=hz xs n2;omega,?_⟩;rw[show xs.map V.int++[V.int n]=(xs++[n]).map V.int by rw[zY];rfl];refine h G1 _ ls (o2.free no (T2.gl l n1).1 (T2.gl l n1).2) x1.gg ?_;unfold XQ;rw[if_pos ha];exact n6
 ·have ha:a∉ks:=λha=>by
   have:=q0d (ks:=ks) (xs:=ls.map V.ref) (k:=a) hlen;rw[vv] at hn;rw[hn,decide_eq_true ha] at this;cases this
  obtain⟨H4,_,e4,T4⟩:=T1.put (l:=q) ha hq o1.gh o1.ext.hh hk;have ep:putK (kvsOf ks (ls.map V.ref)) (Sum.inl a) (.ref q)=kvsOf (ks++[a]) ((ls++[q]).map V.ref):=by
   rw[q2W hlen];unfold X3 putA;rw[if_neg ha,if_neg ha,zY];rfl
  rw[ep,<- e4];have gp:=T1.gp;have gq:G1 q=none:=o1.gh.free hq;have h0q:H0 q=none:=o1.ext.hh.free hq;have o4:Own X.K G0 H0 G1 ω σ H4:=by rw[e4];exact o2.free no T1.gp T1.hp
  obtain⟨l,xs,n1,n2,n3,n4,n5,n6⟩:=T4.app n (a:=a) (by simp);have hq4:H4 q=some (.lst []):=by rw[e4,qc (Ne.symm hpq)];exact qd
  have lq:l=q:=by
   have:Yw (ks++[a]) ((ls++[q]).map V.ref) a=some (.ref q):=by
    rw[zY];exact q6b hlen ha
   rw[this] at n3;cases n3;rfl
  subst lq;rw[hq4] at n5;have xe:xs=[]:=by
   cases xs with
   | nil=>rfl
   | cons y ys=>cases n5
  subst xe;refine⟨.inl ⟨rfl,_,SqL.of hq4⟩,.int n,s2,l,_,.int n,rfl,rfl,hq4,by show 0 < sizeLine;rw[sizeLine_eq];omega,?_⟩;refine h G1 _ (ls++[l]) (o4.free no gq h0q) x1.gg ?_;unfold XQ;rw[if_neg ha];exact n6
theorem qe5{x1 x2 x3:Str}{o0 o1 e0 e1 e2:Expr}{q1 q2 q3 q4 q5 q6 q9 q12 q15 a1 a2 c1 c2 ep ec tp:Pos}{kx}{g0:FD}(hp:PassesOwn (model X.prog X.w) X.A X.env X.xe)(hc:X.calm=true)(hN:X.N.Nodup)
  (i1:X.N[1]?=some x1) (i2:X.N[2]?=some x2) (i3:X.N[3]?=some x3) (l1:Loc X.env.scope x1) (l2:Loc X.env.scope x2) (l3:Loc X.env.scope x3)
  (f1:X.fn x1=true\/X.env.scope.names.lookup x1=some .local) (f2:X.fn x2=true\/X.env.scope.names.lookup x2=some .local) (f3:X.fn x3=true\/X.env.scope.names.lookup x3=some .local)
  (hge:Gl X "enumerate") (hme:X.mg "enumerate" = none) (h0:PE X o0 (XF 0)) (h1:PE X o1 (XF 1)) (h2:PE X e1 (XF 2)) (h3:PE X e2 (XF 1))
  (ha:XD X e0 g0) (hg0:∀ (ω:WSt) e,ω[3]?=some (some (.sh (Yi e)))->g0 ω=some (.int e.1)) (hl:X.N.length=4)
  (m2:M2 X o1 "setdefault" a1 e0 (.List [] q4) c1)
  (s1:swapsWith (.Dict [] [] q1) (some (.Name x1 q2)) q3.line X.env=pure false)
  (sE:starEach [o0] X.env=[(false,eval o0 X.env)]) (ab:attributeBase (.Call (.Attribute o1 "setdefault" a1) [e0,.List [] q4] [] c1) "append" X.env (eval (.Call (.Attribute o1 "setdefault" a1) [e0,.List [] q4] [] c1) X.env)=eval (.Call (.Attribute o1 "setdefault" a1) [e0,.List [] q4] [] c1) X.env)
  (w1:((backTo c2 (starEach [e1] X.env)).all (λx=>!x.1) && (backToKw c2 (keywordEach [] X.env)).all (λx=>x.1.isSome) && decide (([e1]:List Expr).length+([]:List Keyword).length+(if ([]:List Keyword).isEmpty then 0 else 1) < 30))=true)
  (z1:(a2.endLine == c2.line)=true) (t1:starEach [e1] X.env=(false,eval e1 X.env)::starEach [] X.env) (p1:(backTo c2 (starEach [] X.env)).any (·.1)=false)
  (v1:swapsWith (.Call (.Attribute (.Call (.Attribute o1 "setdefault" a1) [e0,.List [] q4] [] c1) "append" a2) [e1] [] c2) none q9.line X.env=pure false)
  (pg:∀ t,PGs X [.Name x2 q5,.Name x3 q6] t->PG X (.Tuple [.Name x2 q5,.Name x3 q6] kx tp) (gTup X.K 2 t))
  (y1:∀ x,foldedSetIterable (.Call (.Name "enumerate" ep) [o0] [] ec) X.env x=pure x) {vs:List V} {H:Hp} {Q:VK} {E:XK} (sp:spT X.K vs H Q E) :
  ∃ t,PSs X [.Assign [.Name x1 q2] (.Dict [] [] q1) q3,.For (.Tuple [.Name x2 q5,.Name x3 q6] kx tp) (.Call (.Name "enumerate" ep) [o0] [] ec) [.Expr (.Call (.Attribute (.Call (.Attribute o1 "setdefault" a1) [e0,.List [] q4] [] c1) "append" a2) [e1] [] c2) q9] [] q12,.Return (some e2) q15] t /\
   t { nx:=λ_ H'=>Q .non H',rt:=Q } (L2.start X.N vs) H:=by
 obtain⟨ta,k1,k2⟩:=ha;refine⟨_,qu (qT hN i1 l1 q46 s1 f1) (qu (q4A hp hc (q8H hge hme (qr h0 qo sE) sE) (pg _ (q3X (q2f hN i2 l2 f2) (q3X (q2f hN i3 l3 f3) q8D)))
  (q0f (q0B (q1Z PySem.F.plainAttrs_list PySem.F.slot_list_append PySem.F.type_list_append q0n (qfo h1 k1 (q1T qo) m2) (qr h2 qo t1) ab w1 z1 t1 p1) v1)) y1) (q0f (q3h h3))),?_⟩
 obtain⟨G,as,sg,rp,hlen,fin⟩:=sp;obtain⟨v0,rfl,A0,vs0,rfl,r1,r2⟩:=rp.one;have hl0:as.length=vs0.length:=by have:=r2.len;rw[zB] at this;exact this
 have hst:L2.start X.N [V.ref A0]=[some (.ref A0),none,none,none]:=by
  unfold L2.start;rw[hl];rfl
 rw[hst];intro p hp0;have no0:Xq [some (W.sh (.lst (as.map Yi))),none,none,none]:=noOw4 (d0:=some (.lst (as.map Yi))) (d2:=none) (d3:=none);have o0:Own X.K G (fr H) G [some (W.sh (.lst (as.map Yi))),none,none,none] [some (.ref A0),none,none,none] H:=by
  refine⟨Ext.refl sg,rfl,λi d h=>?_,λi ds h=>absurd h (no0.ow i ds),λi j ds es l h=>absurd h (no0.ow i ds),λi ks ds h=>absurd h (no0.od i ks ds),Xg.no no0.pw⟩
  match i,h with
  | 0,h=>cases h;exact⟨_,rfl,A0,vs0,rfl,r1,r2⟩
  | 1,h=>cases h
  | 2,h=>cases h
  | 3,h=>cases h
  | i+4,h=>simp at h
 have o1:Own X.K G (fr H) G [some (W.sh (.lst (as.map Yi))),none,none,none] [some (.ref A0),some (.ref p),none,none] (upd H p (.dK [])):=(o0.free no0 (sg.free hp0) hp0).other (i:=1) no0 λw z=>by cases z
 have T0:Tab G H (upd H p (.dK [])) p (byS as 0).1 [] (byS as 0).2:=⟨qd,sg.free hp0,hp0,rfl,rfl,λj l xs h=>(by simp at h),λl h=>(by cases h),xO⟩;refine⟨.ref A0,rfl,A0,vs0,rfl,SqL.of (o1.gh _ _ r1),λi m σ' H'=>∃ (G':Hp) (ls:List Addr) (y2 y3:Option D),Own X.K G (fr H) G' [some (W.sh (.lst (as.map Yi))),none,y2.map W.sh,y3.map W.sh] σ' H'/\Yz G G'/\σ'[1]?=some (some (.ref p))/\Tab G' H H' p (byS as i).1 ls (byS as i).2/\i <= as.length/\m=as.length - i,
  ⟨_,G,[],none,none,o1,Yz.refl _,rfl,T0,zz _,rfl⟩,?_⟩
 rintro i m σ' H' ⟨G',ls,y2,y3,o2,g2,s12,T2,hi,rfl⟩;have hq:=o2.gh _ _ (g2 _ _ r1)
 by_cases hlt:i < as.length
 ·refine .inr ⟨⟨vs0,vs0[i]'(by omega),SqL.of hq,zD _⟩,λσ3 H3=>∃ (G':Hp) (ls:List Addr) (y2 y3:Option D),Own X.K G (fr H) G' [some (W.sh (.lst (as.map Yi))),none,y2.map W.sh,y3.map W.sh] σ3 H3/\Yz G G'/\σ3[1]?=some (some (.ref p))/\Tab G' H H3 p (byS as (i+1)).1 ls (byS as (i+1)).2,
   λσ3 H3 ⟨G3,ls3,z2,z3,b1,b2,b3,b4⟩=>⟨as.length - (i+1),by omega,G3,ls3,z2,z3,b1,b2,b3,b4,hlt,rfl⟩,λx H3 hy=>?_⟩
  obtain⟨t,w1',ht,rfl,rfl,hy⟩:=hy;have hy:=hy _ (SqL.of hq);have x3:=Ext.hide o2.gh ht (.tup [.int i,w1']);have o3:=o2.keep x3;have T3:=T2.keep x3;refine⟨t,_,rfl,SqT.of qd,rfl,.int i,_,rfl,?_⟩;refine⟨w1',_,rfl,rfl,?_⟩;obtain⟨u,e1,e2⟩:=r2.get (i:=i) (d:=Yi as[i]) (by rw[za,zD hlt];rfl);rw[hy] at e1;cases e1;have o4:=(o3.setSh (i:=2) (d:=.int i) (v:=.int i) rfl).setSh (i:=3) (d:=Yi as[i]) (v:=w1') (e2.mono g2);have o4':Own X.K G (fr H) G' [some (W.sh (.lst (as.map Yi))),none,(some (D.int i)).map W.sh,(some (Yi as[i])).map W.sh] ((σ'.set 2 (some (.int i))).set 3 (some w1')) (upd H' t (.tup [.int i,w1'])):=o4;have hl4:σ'.length=4:=o2.len.symm;have bd:=qd8 as i;refine qel k2 o4' (noOw4 (d0:=some (.lst (as.map Yi))) (d2:=some _) (d3:=some _)) (by rw[zI (by decide),zI (by decide)];exact s12) (by rw[zI (by decide)];exact yW (by rw[hl4];decide)) T3 (hg0 _ as[i] rfl) (by omega) (λxs hx=>by have:=bd.2 xs hx;omega) λG5 H5 ls5 o5 g5 T5=>?_;have eb:byS as (i+1)=XQ (byS as i) i as[i].1:=by
   show (match as[i]? with|some a=>XQ (byS as i) i a.1|none=>byS as i)=_;rw[zD hlt]
  refine⟨G5,ls5,_,_,o5,g2.trans g5,by rw[zI (by decide),zI (by decide)];exact s12,?_⟩;rw[eb];exact T5
 ·have en:i=as.length:=by omega
  subst en;refine .inl ⟨⟨vs0,SqL.of hq,zn (by omega)⟩,.ref p,s12,fin G' p ls H' ?_ T2⟩;exact⟨g2,o2.ext.gh,o2.ext.hh,o2.ext.new⟩
end
noncomputable def Xv:List Int->List (List Int)->Int->List (List Int)
 | k::ks,x::xs,a=>if k=a then x.dropLast::xs else x::Xv ks xs a
 | _,xs,_=>xs
noncomputable def Xd(ks:List Int)(xss:List (List Int))(h:Int):List Int:=(Yw ks xss h).getD []
theorem q5r:∀ {ks:List Int} {ls:List Addr} {a:Int},ks.length=ls.length->a∈ks->∃ (j:Nat) (l:Addr),ls[j]?=some l/\Yw ks (ls.map V.ref) a=some (.ref l)/\∀ (xss:List (List Int)),xss.length=ls.length->∃ xs,xss[j]?=some xs/\Yw ks xss a=some xs/\Xv ks xss a=xss.set j xs.dropLast
 | [],_,_,_,h=>by simp at h
 | _::_,[],_,h,_=>by simp at h
 | k::ks,l::ls,a,h,ha=>by
  by_cases z:k=a
  ·refine⟨0,l,rfl,if_pos z,λxss hx=>?_⟩
   cases xss with
   | nil=>simp at hx
   | cons x xs=>exact⟨x,rfl,if_pos z,if_pos z⟩
  ·have ha':a∈ks:=(zF.mp ha).resolve_left λe=>z e.symm
   obtain⟨j,l',e2,e3,e4⟩:=q5r (ks:=ks) (ls:=ls) (by simpa using h) ha';refine⟨j+1,l',e2,?_,λxss hx=>?_⟩
   ·show (if k=a then _ else _)=_
    rw[if_neg z];exact e3
   ·cases xss with
    | nil=>simp at hx
    | cons x xs =>
     obtain⟨y,h1,h2,h3⟩:=e4 xs (by simpa using hx);refine⟨y,h1,?_,?_⟩
     ·show (if k=a then _ else _)=_
      rw[if_neg z];exact h2
     ·show (if k=a then _ else x::Xv ks xs a)=_
      rw[if_neg z,h3];rfl
theorem Tab.pop{G H0 H:Hp}{p:Addr}{ks:List Int}{ls:List Addr}{xss:List (List Int)}(T:Tab G H0 H p ks ls xss){a:Int}(ha:a∈ks) :
  ∃ (l:Addr) (xs:List Int),l∈ls/\Yw ks xss a=some xs/\Wi H p (.int a) (some (.ref l))/\H l=some (.lst (xs.map V.int))/\Tab G H0 (upd H l (.lst (xs.dropLast.map V.int))) p ks ls (Xv ks xss a):=by
 obtain⟨j,l,e2,e3,e4⟩:=q5r T.len ha;obtain⟨xs,e5,e7,e6⟩:=e4 xss T.len2.symm;have hl:l∈ls:=z7 e2;have hlp:p≠l:=λz=>T.pl (z▸hl);have g:=Wi.k (k:=(Sum.inl a:Key)) T.dict;rw[qP (by rw[zB];exact T.len),e3] at g;refine⟨l,xs,hl,e7,g,T.lst j l xs e2 e5,?_⟩;rw[e6];refine⟨by rw[qc hlp];exact T.dict,T.gp,T.hp,T.len,by rw[yT];exact T.len2,λi m ys h1 h2=>?_,T.gl,T.nd⟩;rcases qf h2 with⟨rfl,_,rfl⟩|⟨ne,h3⟩
 ·rw[e2] at h1
  cases h1;exact qd
 ·have hm:m≠l:=λz=>by
   subst z;obtain⟨i1,i2⟩:=zj.mp h1;obtain⟨j1,j2⟩:=zj.mp e2;exact ne ((wM T.nd).mp (j2.trans i2.symm))
  rw[qc hm];exact T.lst i m ys h1 h3
theorem Tab.beside{G H0 H:Hp}{p q:Addr}{ob:HO}{ks:List Int}{ls:List Addr}{xss:List (List Int)}(T:Tab G H0 H p ks ls xss)(h1:q≠p)(h2:q∉ls):Tab G H0 (upd H q ob) p ks ls xss :=
 ⟨by rw[qc (Ne.symm h1)];exact T.dict,T.gp,T.hp,T.len,T.len2,λj l xs e1 e2=>by
  have hn:l≠q:=λz=>h2 (by rw[<- z];exact z7 e1);rw[qc hn];exact T.lst j l xs e1 e2,T.gl,T.nd⟩
noncomputable def Xj(as:List (Int×Int))(ks:List Int):Nat->List (List Int)->List Int->List Int->Int->Option (List Int)
 | 0,_,_,_,_=>none
 | n+1,xss,T,B,h=>match (Xd ks xss h).getLast? with
  | some k=>if 0 <= k/\k < as.length/\T.length < 1000000 then Xj as ks n (Xv ks xss h) (T++[k]) B (as.getD k.toNat (0,0)).2 else none
  | none=>match T.getLast? with
   | some k=>if 0 <= k/\k < as.length/\B.length < 1000000 then Xj as ks n xss T.dropLast (B++[k]) (as.getD k.toNat (0,0)).1 else none
   | none=>some B.reverse
structure RfS (K:zA) (G0:Hp) (H0:Fr) (G:Hp) (s:Int) (as:List (Int×Int)) (p t b:Addr) (ks:List Int) (ls:List Addr) (xss:List (List Int)) (T B:List Int) (h:Int) (y:Option D) (σ:St) (H:Hp):Prop where
 o:Own K G0 H0 G [some (W.sh (.int s)),some (.sh (.lst (as.map Yi))),none,none,none,some (.sh (.int h)),y.map W.sh] σ H
 s2:σ[2]?=some (some (.ref p))
 s3:σ[3]?=some (some (.ref t))
 s4:σ[4]?=some (some (.ref b))
 s5:σ[5]?=some (some (.int h))
 tab:Tab G H0 H p ks ls xss
 ht:H t=some (.lst (T.map V.int))
 gt:G t=none
 ht0:H0 t=none
 hb:H b=some (.lst (B.map V.int))
 gb:G b=none
 hb0:H0 b=none
 tb:t≠b
 tl:t∉ls
 bl:b∉ls
theorem noOw7{d0 d1 d5 d6:Option D}:Xq [d0.map W.sh,d1.map W.sh,none,none,none,d5.map W.sh,d6.map W.sh]:=by
 intro i w h
 match i,h with
 | 0,h=>cases d0 <;> cases h;exact⟨_,rfl⟩
 | 1,h=>cases d1 <;> cases h;exact⟨_,rfl⟩
 | 2,h=>cases h
 | 3,h=>cases h
 | 4,h=>cases h
 | 5,h=>cases d5 <;> cases h;exact⟨_,rfl⟩
 | 6,h=>cases d6 <;> cases h;exact⟨_,rfl⟩
 | i+7,h=>simp at h
section
variable {K:zA} {G0:Hp} {H0:Fr} {G:Hp} {s:Int} {as:List (Int×Int)} {p t b:Addr} {ks:List Int} {ls:List Addr} {xss:List (List Int)} {T B:List Int} {h:Int} {y:Option D} {σ:St} {H:Hp}
theorem RfS.no(S:RfS K G0 H0 G s as p t b ks ls xss T B h y σ H):Xq [some (W.sh (.int s)),some (.sh (.lst (as.map Yi))),none,none,none,some (.sh (.int h)),y.map W.sh] :=
 noOw7 (d0:=some (.int s)) (d1:=some (.lst (as.map Yi))) (d5:=some (.int h)) (d6:=y)
theorem RfS.keep{G' H':Hp}(S:RfS K G0 H0 G s as p t b ks ls xss T B h y σ H)(x:Ext G H G' H'):RfS K G0 H0 G' s as p t b ks ls xss T B h y σ H' :=
 ⟨S.o.keep x,S.s2,S.s3,S.s4,S.s5,S.tab.keep x,x.hh _ _ S.ht,x.new t S.gt (by rw[S.ht];exact λz=>by cases z),S.ht0,x.hh _ _ S.hb,x.new b S.gb (by rw[S.hb];exact λz=>by cases z),S.hb0,S.tb,S.tl,S.bl⟩
theorem RfS.tp(S:RfS K G0 H0 G s as p t b ks ls xss T B h y σ H):t≠p/\b≠p:=by
 have h1:=S.ht;have h2:=S.hb;have h3:=S.tab.dict;refine⟨λz=>?_,λz=>?_⟩
 ·rw[z,h3] at h1;cases h1
 ·rw[z,h3] at h2;cases h2
theorem RfS.setT{T':List Int}(S:RfS K G0 H0 G s as p t b ks ls xss T B h y σ H):RfS K G0 H0 G s as p t b ks ls xss T' B h y σ (upd H t (.lst (T'.map V.int))) :=
 ⟨S.o.free S.no S.gt S.ht0,S.s2,S.s3,S.s4,S.s5,S.tab.beside S.tp.1 S.tl,qd,S.gt,S.ht0,by rw[qc (Ne.symm S.tb)];exact S.hb,S.gb,S.hb0,S.tb,S.tl,S.bl⟩
theorem RfS.setB{B':List Int}(S:RfS K G0 H0 G s as p t b ks ls xss T B h y σ H):RfS K G0 H0 G s as p t b ks ls xss T B' h y σ (upd H b (.lst (B'.map V.int))) :=
 ⟨S.o.free S.no S.gb S.hb0,S.s2,S.s3,S.s4,S.s5,S.tab.beside S.tp.2 S.bl,by rw[qc S.tb];exact S.ht,S.gt,S.ht0,qd,S.gb,S.hb0,S.tb,S.tl,S.bl⟩
theorem RfS.len(S:RfS K G0 H0 G s as p t b ks ls xss T B h y σ H):σ.length=7:=S.o.len.symm
theorem RfS.setN(S:RfS K G0 H0 G s as p t b ks ls xss T B h y σ H)(k:Int):RfS K G0 H0 G s as p t b ks ls xss T B h (some (.int k)) (σ.set 6 (some (.int k))) H :=
 ⟨S.o.setSh (i:=6) (d:=.int k) (v:=.int k) rfl,by rw[zI (by decide)];exact S.s2,by rw[zI (by decide)];exact S.s3,by rw[zI (by decide)];exact S.s4,by rw[zI (by decide)];exact S.s5,S.tab,S.ht,S.gt,S.ht0,S.hb,S.gb,S.hb0,S.tb,S.tl,S.bl⟩
theorem RfS.setH(S:RfS K G0 H0 G s as p t b ks ls xss T B h y σ H)(k:Int):RfS K G0 H0 G s as p t b ks ls xss T B k y (σ.set 5 (some (.int k))) H :=
 ⟨S.o.setSh (i:=5) (d:=.int k) (v:=.int k) rfl,by rw[zI (by decide)];exact S.s2,by rw[zI (by decide)];exact S.s3,by rw[zI (by decide)];exact S.s4,yW (by rw[S.len];decide),S.tab,S.ht,S.gt,S.ht0,S.hb,S.gb,S.hb0,S.tb,S.tl,S.bl⟩
theorem RfS.popW(S:RfS K G0 H0 G s as p t b ks ls xss T B h y σ H){l:Addr}{H':HO}(hl:l∈ls){xss':List (List Int)}(T':Tab G H0 (upd H l H') p ks ls xss'):RfS K G0 H0 G s as p t b ks ls xss' T B h y σ (upd H l H') :=
 have n1:t≠l:=λz=>S.tl (by rw[z];exact hl);have n2:b≠l:=λz=>S.bl (by rw[z];exact hl)
 ⟨S.o.free S.no (S.tab.gl l hl).1 (S.tab.gl l hl).2,S.s2,S.s3,S.s4,S.s5,T',by rw[qc n1];exact S.ht,S.gt,S.ht0,by rw[qc n2];exact S.hb,S.gb,S.hb0,S.tb,S.tl,S.bl⟩
theorem qbc(S:RfS K G0 H0 G s as p t b ks ls xss T B h y σ H){Q:Bool->Hp->Prop}(q:∀ H',RfS K G0 H0 G s as p t b ks ls xss T B h y σ H'->Q (!(Xd ks xss h).isEmpty) H') :
  (zA3 (XF 2) (XF 5) (zCQ W8)) σ H λx H'=>∃ k,TruV K x H' k/\Q k H':=by
 refine⟨.ref p,S.s2,p,rfl,.inl ⟨_,.inl S.tab.dict⟩,.int h,S.s5,by show 0 <= sizeLine;exact zz _,λr hr=>?_⟩;have S1:=S.keep (Ext.hide S.o.gh hr (.lst []));have hlen:ks.length=(ls.map V.ref).length:=by rw[zB];exact S.tab.len
 have g:=Wi.k (k:=(Sum.inl h:Key)) S1.tab.dict;rw[qP hlen] at g;refine⟨_,g,?_⟩
 by_cases hk:h∈ks
 ·obtain⟨l,xs,e1,e2,e3,e4,_⟩:=S1.tab.pop hk
  have ev:Yw ks (ls.map V.ref) h=some (.ref l):=by
   obtain⟨j,l',f2,f3,f4⟩:=q5r S.tab.len hk;obtain⟨xs',f5,f7,f6⟩:=f4 xss S.tab.len2.symm;have g2:=Wi.k (k:=(Sum.inl h:Key)) S1.tab.dict;rw[qP hlen,f3] at g2;rcases e3 with⟨kvs,k,d1,d2,d3⟩|⟨kvs,k,b,d1,d2,_⟩
   ·rcases d1 with d1|⟨ob,d1⟩
    ·rw[S1.tab.dict] at d1
     cases d1;cases k with
     | inl i=>cases d2;rw[qP hlen] at d3;exact d3.symm
     | inr x=>cases d2
    ·rw[S1.tab.dict] at d1;cases d1
   ·cases d2
  rw[ev];refine⟨!xs.isEmpty,?_,?_⟩
  ·refine .inl ⟨_,SqL.of e4,?_⟩
   rw[List.isEmpty_map]
  ·have:Xd ks xss h=xs:=by unfold Xd;rw[e2];rfl
   rw[<- this];exact q _ S1
 ·have ev:Yw ks (ls.map V.ref) h=none:=by
   have:=q0d (ks:=ks) (xs:=ls.map V.ref) (k:=h) hlen;rw[decide_eq_false hk] at this;cases z:Yw ks (ls.map V.ref) h with
   | none=>rfl
   | some v=>rw[z] at this;cases this
  have ev2:Xd ks xss h=[]:=by
   have:=q0d (ks:=ks) (xs:=xss) (k:=h) (by rw[S.tab.len];exact S.tab.len2);rw[decide_eq_false hk] at this;unfold Xd;cases z:Yw ks xss h with
   | none=>rfl
   | some v=>rw[z] at this;cases this
  rw[ev];refine⟨false,?_,by have:=q _ S1;rw[ev2] at this;exact this⟩;exact .inl ⟨_,SqL.of qd,rfl⟩
end
noncomputable def trT(K:zA)(t:TE):TT:=λσ H Q=>t σ H λx H'=>∃ k,TruV K x H' k/\Q k H'
noncomputable def zCI:TE:=zA3 (XF 2) (XF 5) (zCQ W8)
noncomputable def zAr(K:zA)(td:TE):TS:=zAn (zAV (tBM0 K "list" rPop (zCG (XF 2) (XF 5))) (Xr 6)) (zAn (zA9 (tBM K "list" Xw (XF 3) (WN (XF 6) W8))) (zAV td (Xr 5)))
noncomputable def zAs(K:zA)(td:TE):TS:=zAn (zAV (tBM0 K "list" rPop (XF 3)) (Xr 6)) (zAn (zA9 (tBM K "list" Xw (XF 4) (WN (XF 6) W8))) (zAV td (Xr 5)))
section
variable {K:zA} {G0:Hp} {H0:Fr} {G:Hp} {s:Int} {as:List (Int×Int)} {p t b:Addr} {ks:List Int} {ls:List Addr} {xss:List (List Int)} {T B:List Int} {h:Int} {y:Option D} {σ:St} {H:Hp}
theorem q5P{xs:List Int}{k:Int}(e:xs.getLast?=some k):(xs.map V.int)[(xs.map V.int).length - 1]?=some (.int k)/\(xs.map V.int).dropLast=xs.dropLast.map V.int:=by
 rw[List.getLast?_eq_getElem?] at e;refine⟨by rw[zB,za,e];rfl,by rw[List.map_dropLast]⟩
theorem RfS.s6(S:RfS K G0 H0 G s as p t b ks ls xss T B h y σ H)(k:Int):(σ.set 6 (some (.int k)))[6]?=some (some (.int k)):=yW (by rw[S.len];decide)
theorem qdl{td:TE}{f:FD}(hd:zAp K td f)(hf:∀ (ω:WSt) (k:Int),ω[1]?=some (some (.sh (.lst (as.map Yi))))->ω[6]?=some (some (.sh (.int k)))->0 <= k->k < as.length->f ω=some (.int (as.getD k.toNat (0,0)).2))
  (S:RfS K G0 H0 G s as p t b ks ls xss T B h y σ H) {k:Int} (e:(Xd ks xss h).getLast?=some k) (k0:0 <= k) (k1:k < as.length) (hT:T.length < 1000000) {D0:Ends}
  (q:∀ G' σ' H',RfS K G0 H0 G' s as p t b ks ls (Xv ks xss h) (T++[k]) B (as.getD k.toNat (0,0)).2 (some (.int k)) σ' H'->D0.nx σ' H'):zAr K td D0 σ H:=by
 have hk:h∈ks:=by
  have:=q0d (ks:=ks) (xs:=xss) (k:=h) (by rw[S.tab.len];exact S.tab.len2);unfold Xd at e;cases z:Yw ks xss h with
  | none=>rw[z] at e;cases e
  | some v=>rw[z] at this;exact of_decide_eq_true this.symm
 obtain⟨l,xs,e1,e2,e3,e4,e5⟩:=S.tab.pop hk;have ex:xs.getLast?=some k:=by unfold Xd at e;rw[e2] at e;exact e
 obtain⟨m1,m2⟩:=q5P ex;refine⟨.ref p,S.s2,.int h,S.s5,p,.ref l,rfl,e3,.inl ⟨rfl,_,SqL.of e4⟩,l,_,.int k,rfl,rfl,e4,m1,?_⟩;rw[m2];have S1:=(S.popW e1 e5).setN k;show zAn (zA9 (tBM K "list" Xw (XF 3) (WN (XF 6) W8))) (zAV td (Xr 5)) D0 (σ.set 6 (some (.int k))) _;refine⟨.ref t,S1.s3,.inl ⟨rfl,_,SqL.of S1.ht⟩,.int k,S.s6 k,t,_,.int k,rfl,rfl,S1.ht,by rw[zB,sizeLine_eq];omega,?_⟩;rw[show T.map V.int++[V.int k]=(T++[k]).map V.int by rw[zY];rfl];have S2:=S1.setT (T':=T++[k]);show td _ _ _;refine hd G0 H0 G _ _ _ _ _ S2.o (hf _ k rfl rfl k0 k1) λu G1 H1 x1 y1=>?_;cases (show u=.int _ from y1);exact q G1 _ H1 ((S2.keep x1).setH _)
theorem qdG{td:TE}{f:FD}(hd:zAp K td f)(hf:∀ (ω:WSt) (k:Int),ω[1]?=some (some (.sh (.lst (as.map Yi))))->ω[6]?=some (some (.sh (.int k)))->0 <= k->k < as.length->f ω=some (.int (as.getD k.toNat (0,0)).1))
  (S:RfS K G0 H0 G s as p t b ks ls xss T B h y σ H) {k:Int} (e:T.getLast?=some k) (k0:0 <= k) (k1:k < as.length) (hB:B.length < 1000000) {D0:Ends}
  (q:∀ G' σ' H',RfS K G0 H0 G' s as p t b ks ls xss T.dropLast (B++[k]) (as.getD k.toNat (0,0)).1 (some (.int k)) σ' H'->D0.nx σ' H'):zAs K td D0 σ H:=by
 obtain⟨m1,m2⟩:=q5P e;refine⟨.ref t,S.s3,.inl ⟨rfl,_,SqL.of S.ht⟩,t,_,.int k,rfl,rfl,S.ht,m1,?_⟩;rw[m2];have S1:=(S.setT (T':=T.dropLast)).setN k;show zAn (zA9 (tBM K "list" Xw (XF 4) (WN (XF 6) W8))) (zAV td (Xr 5)) D0 (σ.set 6 (some (.int k))) _;refine⟨.ref b,S1.s4,.inl ⟨rfl,_,SqL.of S1.hb⟩,.int k,S.s6 k,b,_,.int k,rfl,rfl,S1.hb,by rw[zB,sizeLine_eq];omega,?_⟩;rw[show B.map V.int++[V.int k]=(B++[k]).map V.int by rw[zY];rfl];have S2:=S1.setB (B':=B++[k]);show td _ _ _;refine hd G0 H0 G _ _ _ _ _ S2.o (hf _ k rfl rfl k0 k1) λu G1 H1 x1 y1=>?_;cases (show u=.int _ from y1);exact q G1 _ H1 ((S2.keep x1).setH _)
end
noncomputable def tRF(K:zA)(E:XK)(td1 td0:TE):TS :=
 zAn (zAV (tCall (spT K) [] E (WN (XF 1) W8)) (Xr 2)) (zAn (zAV (zCQ W8) (Xr 3)) (zAn (zAV (zCQ W8) (Xr 4)) (zAn (zAV (XF 0) (Xr 5))
  (zAn (zBI (tOr (trT K (XF 3)) (trT K zCI)) (tIfS (trT K zCI) (zAr K td1) (zAs K td0))) (tRet (tCB rLR (WN (XF 4) W8)))))))
noncomputable def WS(s:Int)(as:List (Int×Int)):Option (List Int):=if as.length <= 9000 then Xj as (byS as as.length).1 100000 (byS as as.length).2 [] [] s else none
noncomputable def mRF:List D->Option O
 | [.int s,.lst ds]=>(pairsOf ds).bind λas=>(WS s as).map λrow=>.fr (row.map D.int)
 | _=>none
theorem qg2{K:zA}{E E':XK}{td1 td0:TE}{f1 f0:FD}(h1:zAp K td1 f1)(h0:zAp K td0 f0)
  (hf1:∀ (as:List (Int×Int)) (ω:WSt) (k:Int),ω[1]?=some (some (.sh (.lst (as.map Yi))))->ω[6]?=some (some (.sh (.int k)))->0 <= k->k < as.length->f1 ω=some (.int (as.getD k.toNat (0,0)).2))
  (hf0:∀ (as:List (Int×Int)) (ω:WSt) (k:Int),ω[1]?=some (some (.sh (.lst (as.map Yi))))->ω[6]?=some (some (.sh (.int k)))->0 <= k->k < as.length->f0 ω=some (.int (as.getD k.toNat (0,0)).1))
  {N:List Str} (hN:N.length=7) {vs:List V} {H:Hp} {Q:VK} (sp:spD K 2 mRF vs H Q E'):tRF K E td1 td0 { nx:=λ_ H'=>Q .non H',rt:=Q } (L2.start N vs) H:=by
 obtain⟨G,ds,r,e,hl,sg,rp,fin⟩:=sp
 match ds,e with
 | [.int s,.lst ds],e =>
  obtain⟨as,ea,e⟩:=bnd e;obtain⟨row,er,e⟩:=mpd e;subst e;have hds:=q2A ea;subst hds;clear ea;unfold WS at er
  by_cases hlen:as.length <= 9000
  case neg=>rw[if_neg hlen] at er;cases er
  rw[if_pos hlen] at er;obtain⟨v0,v1,rfl,r0,r1⟩:=rp.two;cases (show v0=.int s from r0);have hst:L2.start N [V.int s,v1]=[some (.int s),some v1,none,none,none,none,none]:=by
   unfold L2.start;rw[hN];rfl
  rw[hst];have no0:Xq [some (W.sh (.int s)),some (.sh (.lst (as.map Yi))),none,none,none,none,none]:=noOw7 (d0:=some (.int s)) (d1:=some (.lst (as.map Yi))) (d5:=none) (d6:=none);have o0:Own K G (fr H) G [some (W.sh (.int s)),some (.sh (.lst (as.map Yi))),none,none,none,none,none] [some (.int s),some v1,none,none,none,none,none] H:=by
   refine⟨Ext.refl sg,rfl,λi d h=>?_,λi ds h=>absurd h (no0.ow i ds),λi j ds es l h=>absurd h (no0.ow i ds),λi ks ds h=>absurd h (no0.od i ks ds),Xg.no no0.pw⟩
   match i,h with
   | 0,h=>cases h;exact⟨_,rfl,rfl⟩
   | 1,h=>cases h;exact⟨_,rfl,r1⟩
   | 2,h=>cases h
   | 3,h=>cases h
   | 4,h=>cases h
   | 5,h=>cases h
   | 6,h=>cases h
   | i+7,h=>simp at h
  refine⟨v1,rfl,G,as,sg,Yo.cons r1 Yo.nil,hlen,λG1 p ls H1 x1 T1=>?_⟩;have o1:=(o0.keep x1).other (i:=2) (v:=some (.ref p)) no0 λw z=>by cases z
  refine⟨by show 0 <= sizeLine;exact zz _,λt ht=>?_⟩;have x2:=Ext.hide o1.gh ht (.lst []);have o2:=(o1.keep x2).other (i:=3) (v:=some (.ref t)) no0 λw z=>by cases z
  have T2:=T1.keep x2;refine⟨by show 0 <= sizeLine;exact zz _,λb hb=>?_⟩;have x3:=Ext.hide o2.gh hb (.lst []);have o3:=(o2.keep x3).other (i:=4) (v:=some (.ref b)) no0 λw z=>by cases z
  have T3:=T2.keep x3;have tb:t≠b:=λz=>by rw[<- z,qd] at hb;cases hb
  have tl:t∉ls:=λz=>by
   obtain⟨xs,w⟩:=T1.inn z;rw[ht] at w;cases w
  have bl:b∉ls:=λz=>by
   obtain⟨xs,w⟩:=T2.inn z;rw[hb] at w;cases w
  have o4:=o3.setSh (i:=5) (d:=.int s) (v:=.int s) rfl;have S0:RfS K G (fr H) G1 s as p t b (byS as as.length).1 ls (byS as as.length).2 [] [] s none [some (.int s),some v1,some (.ref p),some (.ref t),some (.ref b),some (.int s),none] (upd (upd H1 t (.lst [])) b (.lst [])) :=
   ⟨o4,rfl,rfl,rfl,rfl,T3,by rw[qc tb];exact qd,o1.gh.free ht,o1.ext.hh.free ht,qd,o2.gh.free hb,o2.ext.hh.free hb,tb,tl,bl⟩
  refine⟨.int s,rfl,?_⟩;generalize (byS as as.length).1=ks at S0 er;generalize (byS as as.length).2=xss at S0 er;refine⟨λm σ' H'=>∃ G' xss T B h y,RfS K G (fr H) G' s as p t b ks ls xss T B h y σ' H'/\Xj as ks m xss T B h=some row,⟨100000,G1,xss,[],[],s,none,S0,er⟩,?_⟩;rintro m σ' H' ⟨G',xss,T,B,h,y,S,run⟩;cases m with
  | zero=>cases run
  | succ n =>
   have body:∀ Hx,RfS K G (fr H) G' s as p t b ks ls xss T B h y σ' Hx->(T≠[]\/Xd ks xss h≠[])->∀ D0:Ends,∃ NN:St->Hp->Prop,(∀ σ2 H2,NN σ2 H2->∃ m',m' < n+1/\∃ G' xss T B h y,RfS K G (fr H) G' s as p t b ks ls xss T B h y σ2 H2/\Xj as ks m' xss T B h=some row)/\tIfS (trT K zCI) (zAr K td1) (zAs K td0) { D0 with nx:=NN,ct:=NN,bk:=D0.nx } σ' Hx:=by
    intro Hx Sx hne D0;refine⟨λσ2 H2=>∃ G' xss T B h y,RfS K G (fr H) G' s as p t b ks ls xss T B h y σ2 H2/\Xj as ks n xss T B h=some row,λσ2 H2 z=>⟨n,yY n,z⟩,?_⟩;refine qbc Sx λHy Sy=>?_;unfold Xj at run;cases eg:(Xd ks xss h).getLast? with
    | some k =>
     rw[eg] at run;have run:(if 0 <= k/\k < as.length/\T.length < 1000000 then Xj as ks n (Xv ks xss h) (T++[k]) B (as.getD k.toNat (0,0)).2 else none)=some row:=run;have hne:(Xd ks xss h).isEmpty=false:=by
      cases z:Xd ks xss h with
      | nil=>rw[z] at eg;cases eg
      | cons a r=>rfl
     rw[hne];show (if (!false)=true then _ else _);rw[if_pos (show (!false)=true from rfl)]
     by_cases c:0 <= k/\k < as.length/\T.length < 1000000
     ·rw[if_pos c] at run
      exact qdl h1 (hf1 as) Sy eg c.1 c.2.1 c.2.2 λG2 σ2 H2 S2=>⟨G2,_,_,_,_,_,S2,run⟩
     ·rw[if_neg c] at run;cases run
    | none =>
     rw[eg] at run;have hem:Xd ks xss h=[]:=xt.mp eg;rw[hem];show (if (!true)=true then _ else _);rw[if_neg (by decide)];cases et:T.getLast? with
     | none=>exact absurd (xt.mp et) (hne.resolve_right λz=>z hem)
     | some k =>
      have run:(match T.getLast? with
       | some k=>if 0 <= k/\k < as.length/\B.length < 1000000 then Xj as ks n xss T.dropLast (B++[k]) (as.getD k.toNat (0,0)).1 else none
       | none=>some B.reverse)=some row:=run
      rw[et] at run;have run:(if 0 <= k/\k < as.length/\B.length < 1000000 then Xj as ks n xss T.dropLast (B++[k]) (as.getD k.toNat (0,0)).1 else none)=some row:=run
      by_cases c:0 <= k/\k < as.length/\B.length < 1000000
      ·rw[if_pos c] at run
       exact qdG h0 (hf0 as) Sy et c.1 c.2.1 c.2.2 λG2 σ2 H2 S2=>⟨G2,_,_,_,_,_,S2,run⟩
      ·rw[if_neg c] at run;cases run
   refine⟨.ref t,S.s3,!(T.map V.int).isEmpty,.inl ⟨_,SqL.of S.ht,rfl⟩,?_⟩;cases T with
   | cons a r =>
    show (if (!false)=true then _ else _);rw[if_pos (show (!false)=true from rfl)];show (if true=true then _ else _);rw[if_pos rfl];exact body H' S (.inl (by simp)) _
   | nil =>
    show (if (!true)=true then _ else _);rw[if_neg (by decide)];refine qbc S λHx Sx=>?_;cases eg:Xd ks xss h with
    | cons a r =>
     show (if (!false)=true then _ else _);rw[if_pos (show (!false)=true from rfl)];exact body Hx Sx (.inr (by rw[eg];simp)) _
    | nil =>
     show (if (!true)=true then _ else _);rw[if_neg (by decide)];have rw0:row=B.reverse:=by
      unfold Xj at run;rw[eg] at run;have run:some B.reverse=some row:=run;exact(zw run).symm
     subst rw0;refine⟨.ref b,Sx.s4,b,_,rfl,Sx.hb,λSa hS=>?_⟩;have x9:=Ext.hide Sx.o.gh hS (.lst (B.map V.int).reverse);have o9:=Sx.o.keep x9;refine fin (.ref Sa) G' _ o9.ext ⟨Sa,_,rfl,Sx.o.ext.hh.free hS,Sx.o.gh.free hS,qd,?_⟩;rw[<- YH];exact Yo.ints _
theorem qfC{ω:WSt}{e:Int×Int}(h:ω[3]?=some (some (.sh (Yi e)))):dOf (Yn oIx (vOf (Yh 3)) (fC (.int 0))) ω=some (.int e.1):=by
 unfold dOf Yn vOf Yh fC;rw[h];rfl
theorem q6s{as:List (Int×Int)}{k:Int}(k0:0 <= k)(k1:k < as.length):atI (as.map Yi) k=some (Yi (as.getD k.toNat (0,0))):=by
 rw[q0k k0 (by rw[zB];exact k1)];have hk:k.toNat < as.length:=by omega
 rw[xK,zS,zD hk];rfl
theorem qeK{as:List (Int×Int)}{ω:WSt}{k:Int}(h1:ω[1]?=some (some (.sh (.lst (as.map Yi)))))(h6:ω[6]?=some (some (.sh (.int k))))(k0:0 <= k)(k1:k < as.length) :
  dOf (Yn oIx (vOf (Yn oIx (vOf (Yh 1)) (vOf (Yh 6)))) (fC (.int 1))) ω=some (.int (as.getD k.toNat (0,0)).2):=by
 have e:=q6s (as:=as) k0 k1;show dR (op2 oIx (vR (op2 oIx (vR (zB0 ω[1]?)) (vR (zB0 ω[6]?)))) (some (.int 1)))=_;rw[h1,h6];show dR (op2 oIx (vR ((atI (as.map Yi) k).map R.sh)) (some (.int 1)))=_;rw[e];rfl
theorem qft{as:List (Int×Int)}{ω:WSt}{k:Int}(h1:ω[1]?=some (some (.sh (.lst (as.map Yi)))))(h6:ω[6]?=some (some (.sh (.int k))))(k0:0 <= k)(k1:k < as.length) :
  dOf (Yn oIx (vOf (Yn oIx (vOf (Yh 1)) (vOf (Yh 6)))) (fC (.int 0))) ω=some (.int (as.getD k.toNat (0,0)).1):=by
 have e:=q6s (as:=as) k0 k1;show dR (op2 oIx (vR (op2 oIx (vR (zB0 ω[1]?)) (vR (zB0 ω[6]?)))) (some (.int 0)))=_;rw[h1,h6];show dR (op2 oIx (vR ((atI (as.map Yi) k).map R.sh)) (some (.int 0)))=_;rw[e];rfl
theorem qfN{X:Cx}{e1 e0:Expr}{E E':XK}{f1 f0:FD}(h1:XD X e1 f1)(h0:XD X e0 f0)
  (hf1:∀ (as:List (Int×Int)) (ω:WSt) (k:Int),ω[1]?=some (some (.sh (.lst (as.map Yi))))->ω[6]?=some (some (.sh (.int k)))->0 <= k->k < as.length->f1 ω=some (.int (as.getD k.toNat (0,0)).2))
  (hf0:∀ (as:List (Int×Int)) (ω:WSt) (k:Int),ω[1]?=some (some (.sh (.lst (as.map Yi))))->ω[6]?=some (some (.sh (.int k)))->0 <= k->k < as.length->f0 ω=some (.int (as.getD k.toNat (0,0)).1))
  {N:List Str} (hN:N.length=7) {vs:List V} {H:Hp} {Q:VK} (sp:spD X.K 2 mRF vs H Q E') {sts:List Stmt} (hb:∀ {td1 td0:TE},PE X e1 td1->PE X e0 td0->PSs X sts (tRF X.K E td1 td0)) :
  ∃ t,PSs X sts t/\t { nx:=λ_ H'=>Q .non H',rt:=Q } (L2.start N vs) H:=by
 obtain⟨td1,p1,q1⟩:=h1;obtain⟨td0,p0,q0⟩:=h0;exact⟨_,hb p1 p0,qg2 q1 q0 hf1 hf0 hN sp⟩
abbrev Cal(P:Program)(w:World)(K:zA)(mg:Str->Option Value)(base:Heap)(k:Nat)(f:Addr)(d:FuncData)(x:Str)(ps:List Str)(n:Nat)(m:List D->Option O):Prop :=
 FnOk P w K mg base CX0 k f d ps (spD K n m)/\mg x=some (.ref f)/\xk K (.ref f)=true/\Binds K d ps []
section
variable {X:Cx} {x:Str} {pos:Pos}
theorem xc{e:Expr}{es:List Expr}{k k0:Nat}{f:Addr}{fd:FuncData}{ps:List Str}{m:List D->Option O}{p:Pos}{g:FA}(c:Cal X.prog X.w X.K X.mg X.base k f fd x ps (e::es).length m)(hr:Room k0 X.A)(ha:XA X (e::es) g)
  (hk:k <= k0:=by decide) (hg:Gl X x:=by exact rfl) (hdb:(x == ("__debug__" : Str))=false:=by decide) (he:starEach (e::es) X.env=(false,eval e X.env)::starEach es X.env:=by rfl) (hpl:(backTo pos (starEach es X.env)).any (·.1)=false:=by rfl) :
  XE X (.Call (.Name x p) (e::es) [] pos) (Yu m g):=zB8 c.1 (hr.mono hk) hg c.2.1 c.2.2.1 c.2.2.2 pass0 ha hdb he hpl
theorem vE(i:Nat)(hN:X.N[i]?=some x:=by rfl)(hv:Vis X.env.scope x:=by first|exact Or.inl rfl|exact Or.inr (Or.inl rfl)|exact Or.inr (Or.inr rfl))(hd:(x == ("__debug__" : Str))=false:=by decide)(hcd:(x == ("__classdict__" : Str))=false:=by decide):XE X (.Name x pos) (Yh i):=zAv i (pv i hN hv hd hcd)
theorem vV(i:Nat)(hN:X.N[i]?=some x:=by rfl)(hv:Vis X.env.scope x:=by first|exact Or.inl rfl|exact Or.inr (Or.inl rfl)|exact Or.inr (Or.inr rfl))(hd:(x == ("__debug__" : Str))=false:=by decide)(hcd:(x == ("__classdict__" : Str))=false:=by decide):XV X (.Name x pos) (vOf (Yh i)):=XE.toV (zAv i (pv i hN hv hd hcd))
theorem vD(i:Nat)(hN:X.N[i]?=some x:=by rfl)(hv:Vis X.env.scope x:=by first|exact Or.inl rfl|exact Or.inr (Or.inl rfl)|exact Or.inr (Or.inr rfl))(hd:(x == ("__debug__" : Str))=false:=by decide)(hcd:(x == ("__classdict__" : Str))=false:=by decide):XD X (.Name x pos) (dOf (Yh i)):=XE.toD (zAv i (pv i hN hv hd hcd))
end
def Fd(K:zA)(x:Str)(st:Stmt)(f:Addr):Prop:=yO K mainGlobals x=some (some (.ref f))/\∃ fd,Fun K x x st f fd
section
variable {P:Program} {w:World} {K:zA} {mg:Str->Option Value} {base h:Heap} {x:Str} {st:Stmt} {f:Addr} {fd:FuncData}
theorem qgq{oc:Value}{od an:Option Addr}{osl:Array (Option Value)}{kV doc pm cdv ct:Value}(a:yO K mainGlobals x=some (some (.ref f)))
  (l:K.lookup f=some ⟨oc,od,.func (xY x x (Xm st) (Xb st) (Yj st) .none kV doc pm an cdv ct),osl⟩) (c:wU K cdv x=true) (k:xk K (.ref f)=true):Fd K x st f:=⟨a,_,qf4 l c k⟩
theorem ql(P:Program)(w:World)(base:Heap)(X:K.In h)(G:h.Ns mainGlobals mg){x:Str}{st:Stmt}{f:Addr}{fd:FuncData}{k n:Nat}{ps:List Str}{m:List D->Option O}(D:Fd K x st f)(F:Fun K x x st f fd)(o:FnOk P w K mg base CX0 k f fd ps (spD K n m))
  (b:∀ (kV doc pm:Value) (an:Option Addr) (cdv ct:Value) (us:List Value),us.length=ps.length->bindArgs (xY x x (Xm st) (Xb st) (Yj st) .none kV doc pm an cdv ct) ⟨us,[]⟩=pure (ps.zip us)):Cal P w K mg base k f fd x ps n m :=
 ⟨o,wq X G D.1,F.kp,F.binds b⟩
end
end Hk
namespace Hk
open PySem PyProof.Rows
noncomputable def kcl(c:Int)(l:List Keyed):List Keyed:=l.filter λp=>numOf p.1 == c
def zAW(l m:List Keyed):Prop:=∀ c,kcl c l=kcl c m
theorem q0g(c:Int)(a b:List Keyed):kcl c (a++b)=kcl c a++kcl c b:=wX ..
theorem q3w(c:Int)(a:List Keyed):kcl c a.reverse=(kcl c a).reverse:=List.filter_reverse ..
theorem q4r{c:Int}{l:List Keyed}(h:∀ p∈l,numOf p.1≠c):kcl c l=[]:=ZK.mpr λp hp=>by simpa using h p hp
theorem q2l{xs:Array Keyed}{i:Nat}{p:Keyed}(h:xs.toList[i]?=some p):K xs i=numOf p.1:=by
 unfold K;rw[<- zZ,h]
theorem q91{α:Type}{l:List α}{i j:Nat}{p:α}(h:p∈(l.take j).drop i):∃ n,i <= n/\n < j/\l[n]?=some p:=by
 obtain⟨m,hm⟩:=yz.mp h;rw[xQ,xS] at hm
 split at hm
 ·exact⟨i+m,by omega,by assumption,hm⟩
 ·cases hm
theorem cut3{α:Type}(l:List α){i j:Nat}(h:i <= j):l.take i++((l.take j).drop i++l.drop j)=l:=by
 have:l.take i=(l.take j).take i:=by rw[wJ,wR h]
 rw[this,<- zK,z0,z0]
theorem q27{xs:Array Keyed}{i j:Nat}(hij:i <= j)(hj:j <= xs.size):(mirror xs i j ((j - i) / 2)).toList=xs.toList.take i++(((xs.toList.take j).drop i).reverse++xs.toList.drop j):=by
 apply yt;intro k;rw[zZ,getElem?_mirror_all hj];have hl:xs.toList.length=xs.size:=zM;rcases zu k i with h1|h1
 ·rw[if_neg (by omega),zc (by rw[zd];omega),xS,if_pos h1,zZ]
 ·rw[zW (by rw[zd];omega),zd,show min i xs.toList.length=i by omega]
  have ld:((xs.toList.take j).drop i).length=j - i:=by rw[yE,zd];omega
  rcases zu k j with h2|h2
  ·rw[if_pos ⟨h1,h2⟩,zc (by rw[xH,ld];omega),List.getElem?_reverse (by rw[ld];omega),ld,xQ,xS,if_pos (by omega),zZ]
   congr 1;omega
  ·rw[if_neg (by omega),zW (by rw[xH,ld];omega),xH,ld,xQ,zZ]
   congr 1;omega
theorem q8f{xs:Array Keyed}{j l:Nat}(hs:j < xs.size)(hl:l <= j):(bubble xs j (j - l)).toList=xs.toList.take l++(xs[j]::((xs.toList.take j).drop l++xs.toList.drop (j+1))):=by
 apply yt;intro k;rw[zZ,getElem?_bubble hs _ (by omega),show j - (j - l)=l by omega];have hn:xs.toList.length=xs.size:=zM;rcases zu k l with h1|h1
 ·rw[if_neg (by omega),if_neg (by omega),zc (by rw[zd];omega),xS,if_pos h1,zZ]
 ·rw[zW (by rw[zd];omega),zd,show min l xs.toList.length=l by omega]
  rcases Zw h1 with h2|h2
  ·subst h2
   rw[if_pos rfl,wH,xF,getElem?_pos xs j hs]
  ·rw[if_neg (by omega)]
   obtain⟨m,hm⟩:∃ m,k - l=m+1:=⟨k - l - 1,by omega⟩;rw[hm,yq];have ld:((xs.toList.take j).drop l).length=j - l:=by rw[yE,zd];omega
   rcases zu m (j - l) with h3|h3
   ·rw[if_pos (by omega),zc (by rw[ld];exact h3),xQ,xS,if_pos (by omega),zZ]
    congr 1;omega
   ·rw[if_neg (by omega),zW (by rw[ld];exact h3),ld,xQ,zZ]
    congr 1;omega
theorem q8z{xs:Array Keyed}{j l:Nat}(hs:j < xs.size)(hl:l <= j)(h:∀ i,l <= i->i < j->K xs j < K xs i):zAW (bubble xs j (j - l)).toList xs.toList:=by
 intro c;have hx:xs.toList[j]?=some xs[j]:=by rw[zZ,getElem?_pos xs j hs]
 have e:xs.toList=xs.toList.take l++((xs.toList.take j).drop l++(xs[j]::xs.toList.drop (j+1))):=by
  have d:xs.toList.drop j=xs[j]::xs.toList.drop (j+1):=by
   rw[yx (by rw[zM];exact hs),Array.getElem_toList]
  rw[<- d,cut3 _ hl]
 rw[q8f hs hl,q0g];have e2:kcl c xs.toList=kcl c (xs.toList.take l)++(kcl c ((xs.toList.take j).drop l)++kcl c (xs[j]::xs.toList.drop (j+1))):=by
  conv=>lhs;rw[e]
  rw[q0g,q0g]
 rw[e2]
 congr 1
 show kcl c ([xs[j]]++((xs.toList.take j).drop l++xs.toList.drop (j+1)))=_++kcl c ([xs[j]]++xs.toList.drop (j+1));rw[q0g,q0g,q0g]
 by_cases z:numOf xs[j].1=c
 ·have no:kcl c ((xs.toList.take j).drop l)=[]:=q4r λp hp=>by
   obtain⟨n,n1,n2,n3⟩:=q91 hp;have k1:=q2l n3;have k2:=q2l hx;have:=h n n1 n2;omega
  rw[no,yF,yF]
 ·have no:kcl c [xs[j]]=[]:=q4r λp hp=>by cases zT.mp hp;exact z
  rw[no,yF,yF]
structure DInv (a₀:Array Keyed) (xs:Array Keyed) (x neq:Nat):Prop where
 le:neq+1 <= x
 ni:NonInc xs x
 eq:∀ i,x - (neq+1) <= i->i < x->K xs i=K xs (x - 1)
 lt:0 < x - (neq+1)->K xs (x - (neq+1)) < K xs (x - (neq+1) - 1)
 cl:∀ c,kcl c (xs.toList.take (x - (neq+1)))=(kcl c (a₀.toList.take (x - (neq+1)))).reverse
 dr:xs.toList.drop (x - (neq+1))=a₀.toList.drop (x - (neq+1))
theorem DInv.flip{a₀ xs:Array Keyed}{x neq:Nat}(D:DInv a₀ xs x neq)(hx:x <= xs.size)(hz:xs.size=a₀.size) :
  (∀ c,kcl c ((mirror xs (x - (neq+1)) x ((x - (x - (neq+1))) / 2)).toList.take x)=(kcl c (a₀.toList.take x)).reverse)/\(mirror xs (x - (neq+1)) x ((x - (x - (neq+1))) / 2)).toList.drop x=a₀.toList.drop x:=by
 have hb:x - (neq+1) <= x:=Nat.sub_le _ _;have hle:=D.le;have hbx:x - (neq+1) < x:=by omega
 have lt:=D.lt;have eq:=D.eq;have ni:=D.ni;have cl:=D.cl;have dr:=D.dr;generalize x - (neq+1)=b at hb hbx lt eq cl dr;have hn:xs.toList.length=xs.size:=zM;have hn0:a₀.toList.length=a₀.size:=zM;have run:(xs.toList.take x).drop b=(a₀.toList.take x).drop b:=by
  rw[wY,wY,dr]
 have lrun:((xs.toList.take x).drop b).length=x - b:=by rw[yE,zd];omega
 rw[q27 hb hx];have l1:(xs.toList.take b++((xs.toList.take x).drop b).reverse).length=x:=by
  rw[zC,xH,lrun,zd];omega
 rw[<- zK];refine⟨λc=>?_,?_⟩
 ·rw[YN l1,q0g,q3w,run]
  have e0:a₀.toList.take x=a₀.toList.take b++(a₀.toList.take x).drop b:=by
   have:a₀.toList.take b=(a₀.toList.take x).take b:=by rw[wJ,wR hb]
   rw[this,z0]
  have e9:kcl c (a₀.toList.take x)=kcl c (a₀.toList.take b)++kcl c ((a₀.toList.take x).drop b):=(congrArg (kcl c) e0).trans (q0g c _ _);rw[e9,xI,<- cl c]
  by_cases z:c=K xs (x - 1)
  ·have no:kcl c (xs.toList.take b)=[]:=q4r λp hp=>by
    obtain⟨m,hm⟩:=yz.mp hp;rw[xS] at hm
    split at hm
    ·rename_i hmb
     have k1:=q2l hm;have k2:=lt (by omega);have k3:=ni m (b - 1) (by omega) (by omega);have k4:K xs b=K xs (x - 1):=eq b (zJ _) hbx;omega
    ·cases hm
   rw[no,yF,zr]
  ·have no:kcl c ((a₀.toList.take x).drop b)=[]:=q4r λp hp=>by
    rw[<- run] at hp;obtain⟨n,n1,n2,n3⟩:=q91 hp;have k1:=q2l n3;have k2:=eq n n1 n2;intro y;exact z (by omega)
   rw[no,List.reverse_nil,zr,yF]
 ·rw[YO l1]
  have e1:xs.toList.drop x=(xs.toList.drop b).drop (x - b):=by rw[wZ];congr 1;omega
  have e2:a₀.toList.drop x=(a₀.toList.drop b).drop (x - b):=by rw[wZ];congr 1;omega
  rw[e1,e2,dr]
section
variable {prog:Program} {w:World} {A:Around} {E:Value->Shared->Prop} {s:Shared} {a₀:Array Keyed}
theorem q3p{xs ys:Array Keyed}{x:Nat}(h:NonInc xs x)(e:∀ k,K ys k=K xs k)(hl:x=0\/K xs x <= K xs (x - 1)):NonInc ys (x+1):=by
 intro i j hij hj;rw[e,e];rcases zu j x with y|y
 ·exact h i j hij y
 ·obtain rfl:j=x:=by omega
  rcases Zw hij with z|z
  ·rw[z];exact yD _
  ·rcases hl with hl|hl
   ·omega
   ·exact yP hl (h i (j - 1) (by omega) (by omega))
theorem q8x{st:SortSt}{n nrem:Nat}{Q:DescSt->SortSt->Prop}(h0:IntKeys a₀)(hn:nrem <= a₀.size)(h1:1 <= n)(hnn:n <= nrem)(hB:SBase a₀ st)(hD:DInv a₀ (arrOf st) n 0)
  (h:∀ m neq st',SBase a₀ st'->n <= m->m <= nrem->DInv a₀ (arrOf st') m neq->Q (none,m,neq) st'):wpS (model prog w) A E s (descLoop n nrem) Q st:=by
 unfold descLoop;refine wpS_forRange (I:=λx c st'=>∃ neq,c=(none,x,neq)/\SBase a₀ st'/\DInv a₀ (arrOf st') x neq) ?turn ?done ⟨0,rfl,hB,hD⟩
 case done =>
  rintro c st' ⟨neq,rfl,b1,b2⟩;rw[Nat.max_eq_right hnn] at b2 ⊢;exact h nrem neq st' b1 hnn (zJ _) b2
 case turn =>
  rintro x c st' hx1 hx2 ⟨neq,rfl,b1,D⟩
  dsimp only
  have hsz:(arrOf st').size=a₀.size:=b1.size;have hle:=D.le;refine wpS_bind (wpS_ltK b1 h0 (by omega) (by omega) ?_)
  by_cases less:K (arrOf st') x < K (arrOf st') (x - 1)
  ·rw[decide_eq_true less]
   simp only[if_true];obtain⟨f1,f2⟩:=D.flip (by omega) hsz;have ke:=K_mirror_equal (xs:=arrOf st') (i:=x - (neq+1)) (j:=x) (by omega) D.eq;have next:DInv a₀ (mirror (arrOf st') (x - (neq+1)) x ((x - (x - (neq+1))) / 2)) (x+1) 0:=by
    refine⟨by omega,q3p D.ni ke (.inr (yg less)),λi i1 i2=>?_,λ_=>?_,?_,?_⟩
    ·congr 1;omega
    ·show K _ x < K _ (x - 1)
     rw[ke,ke];exact less
    ·exact f1
    ·exact f2
   by_cases hq:neq > 0
   ·rw[if_pos hq]
    exact wpS_bind (wpS_reverse (wpS_pure ⟨0,rfl,b1.setArr (mirror_perm _ _ _ _),next⟩))
   ·rw[if_neg hq]
    have hq0:neq=0:=by omega
    subst hq0;have e:mirror (arrOf st') (x - (0+1)) x ((x - (x - (0+1))) / 2)=arrOf st':=by
     have:(x - (x - (0+1))) / 2=0:=by omega
     rw[this];rfl
    rw[e] at next
    exact wpS_pure ⟨0,rfl,b1,next⟩
  ·rw[decide_eq_false less]
   simp only[zy,if_false];refine wpS_bind (wpS_ltK b1 h0 (by omega) (by omega) ?_)
   by_cases more:K (arrOf st') (x - 1) < K (arrOf st') x
   ·rw[decide_eq_true more]
    simp only[if_true];exact wpS_pure (h x neq st' b1 hx1 (by omega) D)
   ·rw[decide_eq_false more]
    simp only[zy,if_false];have ex:K (arrOf st') x=K (arrOf st') (x - 1):=by omega
    have eb:x+1 - (neq+1+1)=x - (neq+1):=by omega
    refine wpS_pure ⟨neq+1,rfl,b1,by omega,q3p D.ni (λ_=>rfl) (.inr (by omega)),λi i1 i2=>?_,?_,?_,?_⟩
    ·rw[eb] at i1
     rw[show x+1 - 1=x by omega,ex];rcases zu i x with y|y
     ·exact D.eq i i1 y
     ·obtain rfl:i=x:=by omega
      exact ex
    ·rw[eb];exact D.lt
    ·rw[eb];exact D.cl
    ·rw[eb];exact D.dr
theorem q8W{st:SortSt}{n nrem:Nat}{Q:Option Nat->SortSt->Prop}(h0:IntKeys a₀)(hn:nrem <= a₀.size)(h1:1 <= n)(hnn:n <= nrem)(hB:SBase a₀ st)(hs:NonInc (arrOf st) n)
  (hc:∀ c,kcl c ((arrOf st).toList.take n)=(kcl c (a₀.toList.take n)).reverse) (hd:(arrOf st).toList.drop n=a₀.toList.drop n)
  (h:∀ m st',SBase a₀ st'->1 <= m->m <= nrem->SortedTo (arrOf st') m->zAW (arrOf st').toList a₀.toList->Q (some m) st'):wpS (model prog w) A E s (tail3 n nrem) Q st:=by
 unfold tail3;have hsz:n <= (arrOf st).size:=by rw[hB.size];omega
 refine wpS_bind (wpS_reverse ?_);have b1:SBase a₀ (setArr st (mirror (arrOf st) 0 n ((n - 0) / 2))):=hB.setArr (mirror_perm _ _ _ _);have stb:zAW (mirror (arrOf st) 0 n ((n - 0) / 2)).toList a₀.toList:=λc=>by
  rw[q27 (zz _) hsz,YV,yF,wb,q0g,q3w,hc c,xB,hd,<- q0g,z0]
 refine wpS_bind (wpS_ascLoop h0 hn h1 hnn b1 (λi j hij hj=>?_) λm m1 m2 m3 _=>wpS_pure (h m _ b1 (by omega) m2 m3 stb));show K (mirror (arrOf st) 0 n ((n - 0) / 2)) i <= K (mirror (arrOf st) 0 n ((n - 0) / 2)) j;rw[K_mirror hsz,K_mirror hsz,if_pos (by omega),if_pos (by omega)];exact hs _ _ (by omega) (by omega)
theorem q3E{st:SortSt}{n nrem:Nat}{Q:Option Nat->SortSt->Prop}(h0:IntKeys a₀)(hn:nrem <= a₀.size)(hnn:n+1 <= nrem)(hB:SBase a₀ st)(hD:DInv a₀ (arrOf st) (n+1) 0)
  (h:∀ m st',SBase a₀ st'->1 <= m->m <= nrem->SortedTo (arrOf st') m->zAW (arrOf st').toList a₀.toList->Q (some m) st'):wpS (model prog w) A E s (descPart n nrem) Q st:=by
 unfold descPart;refine wpS_bind (wpS_lift (wpAny_rule ⟨rfl,?_⟩));refine wpS_bind (q8x h0 hn (by omega) hnn hB hD λm neq st' b1 m1 m2 D=>?_)
 dsimp only
 have hsz:(arrOf st').size=a₀.size:=b1.size;have hle:=D.le;obtain⟨f1,f2⟩:=D.flip (by omega) hsz;have ke:=K_mirror_equal (xs:=arrOf st') (i:=m - (neq+1)) (j:=m) (by omega) D.eq
 by_cases hq:neq > 0
 ·rw[if_pos hq]
  refine wpS_bind (wpS_reverse (q8W h0 hn (by omega) m2 (b1.setArr (mirror_perm _ _ _ _)) (λi j hij hj=>?_) f1 f2 h));show K (mirror (arrOf st') _ _ _) j <= K (mirror (arrOf st') _ _ _) i;rw[ke,ke];exact D.ni i j hij hj
 ·rw[if_neg hq]
  have hq0:neq=0:=by omega
  subst hq0;have e:mirror (arrOf st') (m - (0+1)) m ((m - (m - (0+1))) / 2)=arrOf st':=by
   have:(m - (m - (0+1))) / 2=0:=by omega
   rw[this];rfl
  rw[e] at f1 f2;exact q8W h0 hn (by omega) m2 b1 D.ni f1 f2 h
theorem q8s{st:SortSt}{nrem:Nat}{Q:Option Nat->SortSt->Prop}(h0:IntKeys a₀)(hn:nrem <= a₀.size)(h1:1 <= nrem)(hB:SBase a₀ st)(hA:arrOf st=a₀)
  (h:∀ m st',SBase a₀ st'->1 <= m->m <= nrem->SortedTo (arrOf st') m->zAW (arrOf st').toList a₀.toList->Q (some m) st'):wpS (model prog w) A E s (countRun' 0 nrem) Q st:=by
 rw[countRun0_eq];refine wpS_bind (wpS_ascLoop h0 hn (zJ 1) h1 hB (λi j hij hj=>by obtain rfl:i=j:=(by omega);exact yD _) λn n1 n2 n3 n4=>?_)
 dsimp only
 have same:zAW (arrOf st).toList a₀.toList:=λc=>by rw[hA]
 by_cases e1:n=nrem
 ·rw[if_pos (by simpa using e1)]
  exact wpS_pure (h n st hB n1 n2 n3 same)
 ·rw[if_neg (by simpa using e1)]
  have lt:=n4.resolve_left e1
  by_cases e2:n > 1
  ·rw[if_pos e2]
   refine wpS_bind (wpS_ltK hB h0 (by omega) (by omega) ?_)
   by_cases rose:K (arrOf st) 0 < K (arrOf st) (n - 1)
   ·rw[decide_eq_true rose]
    simp only[if_true];exact wpS_pure (h n st hB n1 n2 n3 same)
   ·rw[decide_eq_false rose]
    simp only[zy,if_false];have hsz:n <= (arrOf st).size:=by rw[hB.size];omega
    have all:∀ k,0 <= k->k < n->K (arrOf st) k=K (arrOf st) (n - 1):=λk _ hk=>by
     have a1:=n3 0 k (by omega) hk;have a2:=n3 k (n - 1) (by omega) (by omega);omega
    have ke:=K_mirror_equal (xs:=arrOf st) (i:=0) (j:=n) hsz all;refine wpS_bind (wpS_reverse (q3E h0 hn (by omega) (hB.setArr (mirror_perm _ _ _ _)) ?_ h));show DInv a₀ (mirror (arrOf st) 0 n ((n - 0) / 2)) (n+1) 0;have ml:=q27 (zz n) hsz;rw[YV,yF,wb] at ml;have ll:(((arrOf st).toList.take n).reverse).length=n:=by rw[xH,zd,zM];omega
    have ni:NonInc (arrOf st) n:=λi j hij hj=>by rw[all i (by omega) (by omega),all j (by omega) hj];exact yD _
    refine⟨by omega,q3p ni ke (.inr (yg lt)),λi i1 i2=>?_,λ_=>?_,λc=>?_,?_⟩
    ·congr 1;omega
    ·show K _ n < K _ (n - 1)
     rw[ke,ke];exact lt
    ·show kcl c ((mirror (arrOf st) 0 n ((n - 0) / 2)).toList.take n)=(kcl c (a₀.toList.take n)).reverse
     rw[ml,YN ll,q3w,hA]
    ·show (mirror (arrOf st) 0 n ((n - 0) / 2)).toList.drop n=a₀.toList.drop n
     rw[ml,YO ll,hA]
  ·rw[if_neg e2]
   obtain rfl:n=1:=by omega
   refine q3E h0 hn (by omega) hB ?_ h;have ni:NonInc (arrOf st) 1:=λi j hij hj=>by obtain rfl:i=j:=(by omega);exact yD _
   refine⟨by omega,q3p ni (λ_=>rfl) (.inr (yg lt)),λi i1 i2=>?_,λ_=>lt,λc=>?_,?_⟩
   ·congr 1;omega
   ·show kcl c ((arrOf st).toList.take 1)=(kcl c (a₀.toList.take 1)).reverse
    rw[hA,<- q3w];cases a₀.toList with
    | nil=>rfl
    | cons p r=>rfl
   ·rw[hA]
theorem qaI{st:SortSt}{n ok:Nat}{Q:Bool->SortSt->Prop}(h0:IntKeys a₀)(hn:n <= a₀.size)(hok:ok <= n)(hB:SBase a₀ st)(hs:SortedTo (arrOf st) ok)(hS:zAW (arrOf st).toList a₀.toList)
  (h:∀ st',SBase a₀ st'->SortedTo (arrOf st') n->zAW (arrOf st').toList a₀.toList->Q true st'):wpS (model prog w) A E s (binarySort' 0 n ok) Q st:=by
 rw[binarySort'_eq];simp only[y8];refine wpS_bind (wpS_mono (wpS_forRange (I:=λj c st'=>c=(none,())/\SBase a₀ st'/\SortedTo (arrOf st') (min j n)/\zAW (arrOf st').toList a₀.toList)
  (Q:=λc st'=>c=(none,())/\SBase a₀ st'/\SortedTo (arrOf st') n/\zAW (arrOf st').toList a₀.toList) ?turn ?done ?first) λc st' z=>?_)
 case first =>
  refine⟨rfl,hB,λi j hij hj=>?_,hS⟩
  by_cases y:ok=0
  ·obtain rfl:i=j:=by omega
   exact yD _
  ·exact hs i j hij (by omega)
 case done =>
  rintro c st' ⟨hc,b1,b2,b3⟩;rw[show min (max (max ok 1) n) n=n by omega] at b2;exact⟨hc,b1,b2,b3⟩
 case turn =>
  rintro j c st' j1 j2 ⟨rfl,b1,b2,b3⟩;rw[show min j n=j by omega] at b2;have hj:j < a₀.size:=by omega
  have hjs:j < (arrOf st').size:=by rw[b1.size];exact hj
  refine wpS_bind (wpS_mono (wpS_forRange (I:=λx c st2=>st2=st'/\∃ l r,c=(none,l,r)/\l <= r/\r <= j/\r - l <= j - x/\(∀ i,i < l->K (arrOf st') i <= K (arrOf st') j)/\∀ i,r <= i->i < j->K (arrOf st') j < K (arrOf st') i)
   (Q:=λc st2=>st2=st'/\∃ l r,c=(none,l,r)/\l <= j/\(∀ i,i < l->K (arrOf st') i <= K (arrOf st') j)/\∀ i,l <= i->i < j->K (arrOf st') j < K (arrOf st') i) ?half ?found ?all) λc st2 z=>?_)
  case all=>exact⟨rfl,0,j,rfl,zz _,zJ _,by omega,λi y=>by omega,λi y1 y2=>by omega⟩
  case found =>
   rintro c st2 ⟨rfl,l,r,rfl,c1,c2,c3,c4,c5⟩;obtain rfl:l=r:=by omega
   exact⟨rfl,l,l,rfl,c2,c4,c5⟩
  case half =>
   rintro x c st2 _ hx ⟨rfl,l,r,rfl,c1,c2,c3,c4,c5⟩
   dsimp only
   by_cases y:l >= r
   ·rw[if_pos y]
    obtain rfl:l=r:=by omega
    exact wpS_pure ⟨rfl,l,l,rfl,c2,c4,c5⟩
   ·rw[if_neg y]
    refine wpS_bind (wpS_ltK b1 h0 hj (by omega) ?_)
    by_cases less:K (arrOf st2) j < K (arrOf st2) ((l+r) / 2)
    ·rw[decide_eq_true less]
     simp only[if_true];refine wpS_pure ⟨rfl,l,(l+r) / 2,rfl,by omega,by omega,by omega,c4,λi i1 i2=>?_⟩;exact Int.lt_of_lt_of_le less (b2 _ _ i1 i2)
    ·rw[decide_eq_false less]
     simp only[zy,if_false];refine wpS_pure ⟨rfl,(l+r) / 2+1,r,rfl,by omega,by omega,by omega,λi i1=>?_,c5⟩;have:=b2 i ((l+r) / 2) (by omega) (by omega);omega
  obtain⟨rfl,l,r,rfl,c1,c2,c3⟩:=z;show wpS _ _ _ _ (do moveDown' j l;pure (ForInStep.yield (none,()))) _ _;rw[moveDown'_eq];refine wpS_bind (wpS_modify (wpS_pure ⟨rfl,b1.setArr (bubble_perm _ _ _),?_,?_⟩))
  ·rw[show min (j+1) n=j+1 by omega]
   intro i k hik hk;show K (bubble (arrOf st2) j (j - l)) i <= K (bubble (arrOf st2) j (j - l)) k;rw[K_bubble hjs (by omega),K_bubble hjs (by omega),show j - (j - l)=l by omega]
   repeat' split
   all_goals first
    | (exfalso;omega)
    | exact yD _
    | exact c2 _ (by omega)
    | exact yg (c3 _ (by omega) (by omega))
    | exact b2 _ _ (by omega) (by omega)
  ·intro c
   rw[<- b3 c];exact q8z hjs c1 c3 c
 obtain⟨rfl,b1,b2,b3⟩:=z;exact wpS_pure (h st' b1 b2 b3)
def zBr(a₀:Array Keyed)(st:SortSt):Prop:=SDone a₀ st/\zAW (arrOf st).toList a₀.toList
theorem q8w{st:SortSt}{Q:Unit->SortSt->Prop}(h0:IntKeys a₀)(hB:SBase a₀ st)(hA:arrOf st=a₀)(h2:2 <= a₀.size)(h64:a₀.size < 64)
  (h:∀ st',(arrOf st').Perm a₀->failedOf st'=none->SortedTo (arrOf st') a₀.size->zAW (arrOf st').toList a₀.toList->Q () st'):wpS (model prog w) A E s sortRuns' Q st:=by
 rw[sortRuns'_eq];refine wpS_bind (wpS_get ?_)
 dsimp only
 have mr:minRun' a₀.size a₀.size 0=a₀.size:=by
  cases e:a₀.size with
  | zero=>omega
  | succ f=>rw[minRun'_succ,if_pos (by omega)]
 simp only[hB.size,mr];refine wpS_bind (wpS_mono (wpS_forRange (I:=λx c st'=>(x=0/\c=(none,0)/\st'=st)\/(1 <= x/\c=(none,a₀.size)/\zBr a₀ st')) (Q:=λc st'=>c=(none,a₀.size)/\zBr a₀ st') ?turn ?done (.inl ⟨rfl,rfl,rfl⟩)) λc st' z=>?_)
 case done =>
  rintro c st' (⟨y,_,_⟩|⟨_,y1,y2⟩)
  ·omega
  ·exact⟨y1,y2⟩
 case turn =>
  rintro x c st' _ hx (⟨rfl,rfl,rfl⟩|⟨x1,rfl,D⟩)
  ·dsimp only
   rw[if_neg (by omega)];simp only[Nat.sub_zero,Nat.min_self,y8];refine wpS_bind (q8s h0 (zJ _) (by omega) hB hA λm st2 b1 m1 m2 m3 m4=>?_)
   dsimp only
   by_cases y:m < a₀.size
   ·rw[if_pos y]
    refine wpS_bind (wpS_lift (wpAny_rule ⟨rfl,?_⟩));refine wpS_bind (qaI h0 (zJ _) m2 b1 m3 m4 λst3 d1 d2 d3=>?_);simp only[ww,zy,if_false];refine wpS_bind (wpS_get ?_);have nb:(pendingOf st3).back?=none:=by rw[d1.pend];rfl
    rw[nb]
    dsimp only
    exact wpS_bind (wpS_modify (wpS_pure (.inr ⟨by omega,rfl,d1.done d2,d3⟩)))
   ·rw[if_neg y]
    obtain rfl:m=a₀.size:=by omega
    refine wpS_bind (wpS_get ?_);have nb:(pendingOf st2).back?=none:=by rw[b1.pend];rfl
    rw[nb]
    dsimp only
    exact wpS_bind (wpS_modify (wpS_pure (.inr ⟨by omega,rfl,b1.done m3,m4⟩)))
  ·dsimp only
   rw[if_pos (zJ _)];exact wpS_pure ⟨rfl,D⟩
 obtain⟨rfl,D⟩:=z
 dsimp only
 refine wpS_bind (wpS_mono (wpS_forRange (I:=λ_ c st2=>st2=st'/\c=(none,())) (Q:=λc st2=>st2=st'/\c=(none,())) (λx c st2 _ _ y=>?_) (λ_ _ y=>y) ⟨rfl,rfl⟩) λc st2 y=>?_)
 ·obtain⟨rfl,rfl⟩:=y
  refine wpS_bind (wpS_get ?_);rw[if_pos (by rw[D.1.2.2.1];exact zJ 1)];exact wpS_pure ⟨rfl,rfl⟩
 ·obtain⟨rfl,rfl⟩:=y
  exact wpS_pure (h _ D.1.1 D.1.2.1 D.1.2.2.2 D.2)
end
section
variable {α β:Type}
noncomputable def Wl(f:α->Int)(x:α):List α->List α
 | []=>[x]
 | y::r=>if f x <= f y then x::y::r else y::Wl f x r
noncomputable def Yx(f:α->Int)(l:List α):List α:=l.foldr (Wl f) []
noncomputable def clK(f:α->Int)(c:Int)(l:List α):List α:=l.filter λx=>f x == c
theorem q2X{f:α->Int}{x:α}:∀ {l:List α},(Wl f x l).Perm (x::l)
 | []=>.refl _
 | y::r=>by
  unfold Wl
  split
  ·exact .refl _
  ·exact(q2X.cons y).trans (.swap x y r)
theorem q0a{f:α->Int}:∀ {l:List α},(Yx f l).Perm l
 | []=>.refl _
 | y::r=>q2X.trans ((q0a (l:=r)).cons y)
theorem q5O(f:α->Int)(l:List α):(Yx f l).length=l.length:=q0a.length_eq
theorem q9e{f:α->Int}{x:α}:∀ {l:List α},l.Pairwise (λa b=>f a <= f b)->(Wl f x l).Pairwise (λa b=>f a <= f b)
 | [],_=>ZA _ _
 | y::r,h=>by
  obtain⟨h1,h2⟩:=zb.mp h;unfold Wl
  split
  ·rename_i z
   refine zb.mpr ⟨λa ha=>?_,h⟩;rcases zF.mp ha with rfl|ha
   ·exact z
   ·exact yP z (h1 a ha)
  ·rename_i z
   refine zb.mpr ⟨λa ha=>?_,q9e h2⟩;rcases zF.mp (q2X.mem_iff.mp ha) with rfl|ha
   ·omega
   ·exact h1 a ha
theorem q43{f:α->Int}:∀ {l:List α},(Yx f l).Pairwise (λa b=>f a <= f b)
 | []=>.nil
 | y::r=>q9e (q43 (l:=r))
theorem q9h{f:α->Int}{x:α}(c:Int):∀ {l:List α},l.Pairwise (λa b=>f a <= f b)->clK f c (Wl f x l)=clK f c (x::l)
 | [],_=>rfl
 | y::r,h=>by
  obtain⟨h1,h2⟩:=zb.mp h;unfold Wl
  split
  ·rfl
  ·rename_i z
   have ih:=q9h (x:=x) c h2;unfold clK at ih ⊢;rw[yJ,ih,yJ,yJ,yJ]
   by_cases a:f x=c
   ·have:¬f y=c:=by omega
    simp[a,this]
   ·simp[a]
theorem q6X{f:α->Int}(c:Int):∀ {l:List α},clK f c (Yx f l)=clK f c l
 | []=>rfl
 | y::r=>by
  show clK f c (Wl f y (Yx f r))=_;rw[q9h c q43];unfold clK;rw[yJ,yJ];have ih:=q6X (f:=f) c (l:=r);unfold clK at ih;rw[ih]
theorem q1D{f:α->Int}{a:α}{l:List α}:clK f (f a) (a::l)=a::clK f (f a) l:=by
 unfold clK;rw[yJ,if_pos (by simp)]
theorem q8O{f:α->Int}:∀ {l m:List α},l.Pairwise (λa b=>f a <= f b)->m.Pairwise (λa b=>f a <= f b)->(∀ c,clK f c l=clK f c m)->l=m
 | [],m,_,_,h=>by
  cases m with
  | nil=>rfl
  | cons b m=>have:=h (f b);rw[q1D] at this;cases this
 | a::l,m,h1,h2,h=>by
  cases m with
  | nil=>have:=h (f a);rw[q1D] at this;cases this
  | cons b m =>
   obtain⟨p1,p2⟩:=zb.mp h1;obtain⟨q1,q2⟩:=zb.mp h2;have x1:a∈b::m:=by
    have:a∈clK f (f a) (b::m):=by rw[<- h,q1D];exact zG
    exact(yv.mp this).1
   have x2:b∈a::l:=by
    have:b∈clK f (f b) (a::l):=by rw[h,q1D];exact zG
    exact(yv.mp this).1
   have e:f a=f b:=by
    rcases zF.mp x1 with y|y
    ·rw[y]
    ·rcases zF.mp x2 with z|z
     ·rw[z]
     ·have:=q1 a y;have:=p1 b z;omega
   have hab:=h (f a);rw[q1D] at hab;rw[e,q1D] at hab;obtain⟨rfl,_⟩:=Zg hab;refine congrArg (a::·) (q8O p2 q2 λc=>?_);have hc:=h c;unfold clK at hc ⊢;rw[yJ,yJ] at hc
   by_cases z:(f a == c)=true
   ·rw[if_pos z,if_pos z] at hc;exact(Zg hc).2
   ·rw[if_neg z,if_neg z] at hc;exact hc
theorem q82{f:β->Int}{g:α->β}{x:α}:∀ {l:List α},Wl f (g x) (l.map g)=(Wl (λa=>f (g a)) x l).map g
 | []=>rfl
 | y::r=>by
  show (if f (g x) <= f (g y) then _ else _)=(if f (g x) <= f (g y) then _ else _:List α).map g
  split
  ·rfl
  ·rw[q82];rfl
theorem q1k{f:β->Int}{g:α->β}:∀ {l:List α},Yx f (l.map g)=(Yx (λa=>f (g a)) l).map g
 | []=>rfl
 | y::r=>by
  show Wl f (g y) (Yx f (r.map g))=(Wl _ y (Yx _ r)).map g;rw[q1k,q82]
end
theorem qeB{a₀ xs:Array Keyed}(hp:xs.Perm a₀)(hs:SortedTo xs a₀.size)(hS:zAW xs.toList a₀.toList):xs.toList=Yx (λp=>numOf p.1) a₀.toList:=by
 have hn:xs.size=a₀.size:=hp.size_eq;refine q8O (f:=λp:Keyed=>numOf p.1) (yL.mpr λi j hi hj hij=>?_) q43 λc=>(hS c).trans (q6X c).symm;have e1:=q2l (xs:=xs) (i:=i) (zD hi);have e2:=q2l (xs:=xs) (i:=j) (zD hj);rw[<- e1,<- e2];exact hs i j (by omega) (by rw[zM] at hj;omega)
end Hk
namespace Hk
open PySem PySem.Spec PyProof.Rows L2
section
variable {X:Cx} {pins:List (Addr×Obj)} {σ:L2.St} {H:Hp} {s:Shared}
theorem qb4{h':Heap}{a:Addr}{ys:List V}{its:List Value}{n t':Nat}(I:Inv X pins σ H s)(fa:X7 X pins H a)(k:∀ b o,b≠a->s.heap.get? b=some o->h'.get? b=some o)
  (new:h'.get? a=some { cls:=.type "list", data:=.seq its.toArray n }) (hv:Y2 ys its) (hz:ys.length <= sizeLine):Inv X pins σ (upd H a (.lst ys)) { s with heap:=h',toks:=t' }:=by
 obtain⟨f0,f1,f2,f3,f4,f5⟩:=fa;have I1:=I.turned (h':=h') (t':=t') (it:=a) k f0 f1 f3 f4 f5;have na:∀ {b:Addr} {u:HO},H b=some u->b≠a:=λq z=>by rw[z,f0] at q;cases q
 refine Inv.step (s:={ s with heap:=h',toks:=t' }) (H':=upd H a (.lst ys)) (h':=h') (g':=s.gens) (d':=s.drawn) (t':=t') (ch:=[a]) I1 (λb hb=>?_) (λb o _ _ _ e _=>e) (λb o _ _ _ e _=>⟨o.slots,e⟩)
  (λb o hc e n=>by rw[qc (by simpa using hc)];exact n) (λb o _ e=>⟨o,e⟩) (λb xs q=>by rw[qc (na q)];exact q) (λb o u q=>by rw[qc (na q)];exact q)
  (λb ps q=>⟨#[],by rw[qc (na q),q];simp⟩) (λ_ hm=>hm) (λb u q=>?_) I1.bare
 ·cases zT.mp hb
  exact⟨f3,f1,f4,f5⟩
 ·by_cases z:b=a
  ·subst z
   rw[qd] at q;cases q;exact⟨hz,its,n,hv,new⟩
  ·rw[qc z] at q
   exact(I1.hok b u q).stay (λ_ _ _ q=>q) (λc q=>by rw[qc (na q)];exact q) (λc xs q=>by rw[qc (na q)];exact q)
theorem qes{k:Nat}{f:Addr}{fd:FuncData}{ps:List Str}{sp:Sp}{E:XK}{Q:VK}{us:List Value}{vs:List V}{E':Value->Shared->Prop}(F:FnOk X.prog X.w X.K X.mg X.base CX0 k f fd ps sp)(hr:Room (k+2) X.A)(hb:Binds X.K fd ps [])
  (I:Inv X pins σ H s) (r:Y2 vs us) (h:sp vs H Q E):wpAny (model X.prog X.w) X.A.in1.in1 (call (.ref f) us) (EP X pins σ Q) E' s:=by
 have hl:(us++[]).length=ps.length:=by rw[zr,<- r.length];exact F.len _ _ _ _ h
 have b:=hb s us I.kIn hl;rw[zr] at b;refine wpAny_call (codeAny_mono (F.run X.A.in1.in1 X.stack s H ⟨us,[]⟩ us vs Q E hr.in1.in1 I.env0.in1.in1 b r h) λr s' hq=>?_);cases r with
 | error e=>exact False.elim hq
 | ok fl =>
  cases fl with
  | ret u=>exact I.after hq
  | next=>exact False.elim hq
  | brk=>exact False.elim hq
  | cont=>exact False.elim hq
end
theorem q28{α:Type}{f g:α->Int}:∀ {l:List α},(∀ x∈l,f x=g x)->Yx f l=Yx g l
 | [],_=>rfl
 | y::r,h=>by
  show Wl f y (Yx f r)=Wl g y (Yx g r);rw[q28 λx hx=>h x (zH _ hx)];have:∀ {l:List α},(∀ x∈l,f x=g x)->Wl f y l=Wl g y l:=λ{l} hl=>by
   induction l with
   | nil=>rfl
   | cons z r ih =>
    unfold Wl;rw[h y zG,hl z zG,ih λx hx=>hl x (zH _ hx)]
  exact this λx hx=>h x (zH _ (q0a.mem_iff.mp hx))
theorem q7t{α:Type}{f:α->V}{g:α->Value}:∀ {l:List α},(∀ t∈l,RelV (f t) (g t))->Y2 (l.map f) (l.map g)
 | [],_=>.nil
 | t::r,h=>.cons (h t zG) (q7t λx hx=>h x (zH _ hx))
theorem q5J:∀ {xs:List V} {vs:List Value} {i:Nat} {v:Value},Y2 xs vs->vs[i]?=some v->∃ x,xs[i]?=some x/\RelV x v
 | _,_,i,v,.nil,h=>by simp at h
 | _,_,0,v,.cons r _,h=>by simp at h;subst h;exact⟨_,rfl,r⟩
 | _,_,i+1,v,.cons _ r,h=>by
  obtain⟨x,a,b⟩:=q5J (i:=i) r (by simpa using h);exact⟨x,by simpa using a,b⟩
theorem q7K:∀ {vs:List Value} {ns:List Int} {i:Nat} {v:Value},IntsAre vs ns->vs[i]?=some v->ns[i]?=some (numOf v)
 | _,_,i,v,.nil,h=>by simp at h
 | _,_,0,v,.cons _ _ _,h=>by simp at h;subst h;rfl
 | _,_,i+1,v,.cons _ _ r,h=>by
  have:=q7K (i:=i) r (by simpa using h);simpa using this
theorem q8j{xs:List V}{vs ks:List Value}{ds:List D}{kf:D->Int}(rv:Y2 xs vs)(hd:ds.length=xs.length)(hk:IntsAre ks (ds.map kf)):Y2 ((Yx (λz:D×V=>kf z.1) (ds.zip xs)).map (·.2)) ((Yx (λp:Value×Value=>numOf p.1) (ks.zip vs)).map (·.2)):=by
 have l1:=rv.length;have l2:=hk.length;rw[zB] at l2
 let L:=(ds.zip xs).zip (ks.zip vs)
 have e1:ds.zip xs=L.map Prod.fst:=by
  rw[YI];rw[xV,xV];omega
 have e2:ks.zip vs=L.map Prod.snd:=by
  rw[List.map_snd_zip];rw[xV,xV];omega
 have mem:∀ t∈L,kf t.1.1=numOf t.2.1/\RelV t.1.2 t.2.2:=λt ht=>by
  obtain⟨i,hi⟩:=yz.mp ht;obtain⟨a1,a2⟩:=yy.mp hi;obtain⟨b1,b2⟩:=yy.mp a1;obtain⟨c1,c2⟩:=yy.mp a2;obtain⟨x,g1,g2⟩:=q5J rv c2;rw[b2] at g1;cases g1;have g3:=q7K hk c1;rw[za,b1] at g3;exact⟨zw g3,g2⟩
 rw[e1,e2,q1k,q1k,yR,yR,q28 λt ht=>(mem t ht).1];exact q7t λt ht=>(mem t (q0a.mem_iff.mp ht)).2
section
variable {X:Cx} {pins:List (Addr×Obj)} {σ:L2.St} {G H:Hp} {s:Shared} {a kS:Addr} {xs:List V} {vs:List Value} {ds:List D} {kf:D->Int}
noncomputable def apart(pins:List (Addr×Obj))(a kS:Addr)(e1:Nat)(ks:Array Value)(e:Nat):List (Addr×Obj):=pins++[(kS,seqObj "list" ks e),(a,seqObj "list" #[] e1)]
theorem q4b(I:Inv X (apart pins a kS e1 ks e) σ H s):s.heap.get? kS=some (seqObj "list" ks e)/\H kS=none:=by
 have:=I.pin (kS,seqObj "list" ks e) (zQ _ (zQ _ zG));exact⟨this.1,this.2.1⟩
theorem q5w(I:Inv X (apart pins a kS e1 ks e) σ H s):s.heap.get? a=some (seqObj "list" #[] e1)/\H a=none:=by
 have:=I.pin (a,seqObj "list" #[] e1) (zQ _ (zQ _ (zH _ zG)));exact⟨this.1,this.2.1⟩
theorem q5T(I:Inv X (apart pins a kS e1 ks e) σ H s):Inv X pins σ H s:=I.unpinned
theorem q7M{e1 e:Nat}{ks:Array Value}(I:Inv X pins σ H s)(fk:X7 X pins H kS)(fa:X7 X pins H a)(hk:s.heap.get? kS=some (seqObj "list" ks e))(ha:s.heap.get? a=some (seqObj "list" #[] e1)):Inv X (apart pins a kS e1 ks e) σ H s :=
 I.pins_of λp hp=>by
  rcases zN.mp hp with z|z
  ·exact I.pin p (zQ _ z)
  ·rcases zF.mp z with rfl|z
   ·exact⟨hk,fk.1,fk.2.1,fk.2.2.1,λv h=>by cases h⟩
   ·cases zT.mp z
    exact⟨ha,fa.1,fa.2.1,fa.2.2.1,λv h=>by cases h⟩
theorem q5v{h:Heap}{b:Addr}{ys:Array Value}{n:Nat}(q:h.get? b=some (seqObj "list" ys n))(f:Array Value->Array Value):∃ n',(h.update b (Obj.mapSeq f)).get? b=some (seqObj "list" (f ys) n'):=⟨_,get?_update_seq q f⟩
theorem q3q{H':Hp}{b:Addr}(h:X7 X pins H b)(n:H' b=none):X7 X pins H' b:=⟨n,h.2⟩
theorem q6K{st:SortSt}{ks:Array Value}{e e1:Nat}{P:PySem.Fin->Shared->Prop}{E:Value->Shared->Prop}{A:Around}(I:Inv X (apart pins a kS e1 ks e) σ H s)(ne:kS≠a)(fk:X7 X pins H kS)(fa:X7 X pins H a)(rv:Y2 xs vs)(hd:ds.length=xs.length)(hk:IntsAre ks.toList (ds.map kf))(h64:vs.length < 64)
  (ho:(arrOf st).toList=Yx (λp:Keyed=>numOf p.1) (ks.toList.zip vs)) (hf:failedOf st=none) (h:∀ s',Inv X pins σ (upd H a (.lst ((Yx (λz:D×V=>kf z.1) (ds.zip xs)).map (·.2)))) s'->P (.done (.ret .none)) s') :
  wpAny (model X.prog X.w) A (ksk_tail a false e1 (.ref kS) st) P E s:=by
 obtain⟨qk,hk0⟩:=q4b I;obtain⟨qa,ha0⟩:=q5w I;have I0:=q5T I;have lk:ks.toList.length=vs.length:=by have:=hk.length;have:=rv.length;rw[zB] at *;omega
 have lo:((arrOf st).map (·.2)).size=vs.length:=by
  rw[YW,<- zM,ho,q5O,xV];omega
 have qa1:(s.heap.update kS (Obj.mapSeq λ_=>(#[]:Array Value))).get? a=some (seqObj "list" #[] e1):=(zk _ _ ne).trans qa;obtain⟨c2,qa2⟩:=q5v qa1 (λ_=>(arrOf st).map (·.2));have sv:=q8j rv hd hk;have el:((arrOf st).map (·.2)).toList=(Yx (λp:Value×Value=>numOf p.1) (ks.toList.zip vs)).map (·.2):=by rw[Array.toList_map,ho]
 unfold ksk_tail
 try dsimp only
 refine wpAny_bind (listUpdate_at qk rfl (wpAny_bind (wpAny_letGo (wpAny_bind (seqEpoch_at qa1 rfl ?_)))) (by rw[<- zM,lk,sizeLine_eq];omega) (zz _));refine wpAny_bind (listUpdate_at qa1 rfl ?_ (zz _) (by show ((arrOf st).map (·.2)).size <= _;rw[lo,sizeLine_eq];omega));rw[hf];simp only[bne_self_eq_false,zy,if_false];refine wpAny_pure (h _ ?_);have I1:=I0.turned (h':=s.heap.update kS (Obj.mapSeq λ_=>(#[]:Array Value))) (t':=s.toks) (it:=kS) (λb o hb q=>(zk _ _ (Ne.symm hb)).trans q) fk.1 fk.2.1 fk.2.2.2.1 fk.2.2.2.2.1 fk.2.2.2.2.2;refine qb4 (s:={ s with heap:=s.heap.update kS (Obj.mapSeq λ_=>(#[]:Array Value)) }) (its:=((arrOf st).map (·.2)).toList) (n:=c2) (t':=s.toks) I1 fa (λb o hb q=>(zk _ _ (Ne.symm hb)).trans q) ?_ (by rw[el];exact sv) ?_
 ·rw[xb];exact qa2
 ·rw[sv.length,<- el,zM,lo,sizeLine_eq];omega
theorem qdp{ks:Array Value}{e e1:Nat}{P:PySem.Fin->Shared->Prop}{E:Value->Shared->Prop}{A:Around}(I:Inv X (apart pins a kS e1 ks e) σ H s)(ne:kS≠a)(fk:X7 X pins H kS)(fa:X7 X pins H a)(rv:Y2 xs vs)(hd:ds.length=xs.length)(hk:IntsAre ks.toList (ds.map kf))(h64:vs.length < 64)
  (h:∀ s',Inv X pins σ (upd H a (.lst ((Yx (λz:D×V=>kf z.1) (ds.zip xs)).map (·.2)))) s'->P (.done (.ret .none)) s') :
  wpAny (model X.prog X.w) A (ksk_end a false vs.toArray e1 (.ref kS) ks) P E s:=by
 have lk:ks.size=vs.length:=by rw[<- zM];have:=hk.length;have:=rv.length;rw[zB] at *;omega
 have lz:(ks.zip vs.toArray).size=vs.length:=by rw[Array.size_zip,lk,zP,Nat.min_self]
 have ez:(ks.zip vs.toArray).toList=ks.toList.zip vs:=ksk_zip ks vs;unfold ksk_end
 try dsimp only
 rw[if_neg (by decide)]
 by_cases h2:vs.toArray.size < 2
 ·rw[if_pos h2,if_pos h2]
  refine wpAny_bind (wpAny_pure ?_);rw[StateT.run_pure];refine wpAny_bind (wpAny_pure (q6K (st:=SortSt.mk' general' (ks.zip vs.toArray) #[] 7 none) I ne fk fa rv hd hk h64 ?_ rfl h));show (ks.zip vs.toArray).toList=_;rw[ez];rw[zP] at h2;have l2:(ks.toList.zip vs).length < 2:=by rw[xV];omega
  match ks.toList.zip vs,l2 with
  | [],_=>rfl
  | [_],_=>rfl
  | _::_::_,l2=>simp at l2;omega
 ·rw[if_neg h2,if_neg h2]
  rw[zP] at h2;rw[ksk_kind hk (by rw[lk];omega)];refine wpAny_bind (wpAny_pure (wpAny_bind (wpAny_mono (q8w (a₀:=ks.zip vs.toArray) (st:=SortSt.mk' oneType' (ks.zip vs.toArray) #[] 7 none)
   (Q:=λ_ st'=>(arrOf st').Perm (ks.zip vs.toArray)/\failedOf st'=none/\SortedTo (arrOf st') (ks.zip vs.toArray).size/\zAW (arrOf st').toList (ks.zip vs.toArray).toList)
   (ksk_intKeys hk) ⟨ZR _,rfl,rfl,rfl⟩ rfl (by rw[lz];omega) (by rw[lz];exact h64) λst' b1 b2 b3 b4=>⟨b1,b2,b3,b4⟩) ?_ λ_ _ z=>z)))
  rintro⟨⟨⟩,st'⟩ s' ⟨rfl,b1,b2,b3,b4⟩
  try dsimp only
  refine q6K I ne fk fa rv hd hk h64 ?_ b2 h;rw[qeB b1 b3 b4,ez]
theorem qcU{k:Nat}{f:Addr}{fd:FuncData}{ps:List Str}{m:List D->Option O}{e1:Nat}{P:PySem.Fin->Shared->Prop}{E:Value->Shared->Prop}(F:FnOk X.prog X.w X.K X.mg X.base CX0 k f fd ps (spD X.K 1 m))(hr:Room (k+2) X.A)(hb:Binds X.K fd ps [])
  (I:Inv X (apart pins a kS e1 #[] 0) σ H s) (ne:kS≠a) (fk:X7 X pins H kS) (fa:X7 X pins H a) (sg:Yz G H) (rp:Yo X.K G ds xs) (rv:Y2 xs vs) (h64:vs.length < 64) (hm:∀ d∈ds,m [d]=some (.sh (.int (kf d))))
  (h:∀ G' H' s',Ext G H G' H'->H' a=none->Inv X pins σ (upd H' a (.lst ((Yx (λz:D×V=>kf z.1) (ds.zip xs)).map (·.2)))) s'->P (.done (.ret .none)) s') :
  wpAny (model X.prog X.w) X.A.in1.in1 (ksk_rest a (.ref f) false vs.toArray e1 (.ref kS)) P E s:=by
 have ld:ds.length=xs.length:=rp.len;have lv:xs.length=vs.length:=rv.length;unfold ksk_rest;refine wpAny_bind (wpAny_rule ?_);rw[List.forIn_toArray];refine wpAny_bind (ksk_fold (λi s'=>∃ G' H' ks e,Inv X (apart pins a kS e1 ks e) σ H' s'/\Ext G H G' H'/\IntsAre ks.toList ((ds.map kf).take i)) vs 0 s
  ⟨G,H,#[],0,I,Ext.refl sg,by simpa using IntsAre.nil⟩ ?turn ?done)
 case turn =>
  rintro j x s' hx ⟨G',H',ks,e,I',x',hk⟩;simp only[y8] at hk ⊢;have hj:j < vs.length:=(zj.mp hx).1;obtain⟨y,hy,ry⟩:=q5J rv hx;have hdj:ds[j]?=some ds[j]:=zD (by omega);obtain⟨y',hy',rd⟩:=rp.get hdj;rw[hy] at hy';cases hy';have lks:ks.size <= vs.length:=by
   have:=hk.length;rw[zM,zd] at this;omega
  refine wpAny_bind (wpAny_attempt (wpAny_mono (qes (Q:=λv H2=>v=.int (kf ds[j])/\∃ G2,Ext G H G2 H2) (E:=λ_ _ _=>False) (E':=λ_ _=>False) F hr hb I' (.cons ry .nil) ?_) (λu s2 he=>?_) λ_ _ z=>False.elim z))
  ·exact⟨G',[ds[j]],_,hm _ (yU (by omega)),rfl,x'.gh,Yo.cons (rd.mono x'.gg) Yo.nil,λv G2 H2 x2 y2=>⟨y2,G2,x'.trans x2⟩⟩
  ·obtain⟨v,H2,I2,rvu,rfl,G2,x2⟩:=he
   obtain⟨t2,rfl⟩:∃ t,u=.int (kf ds[j]) t:=by
    obtain⟨t,z⟩:=rvu;exact⟨t,z⟩
   try dsimp only
   obtain⟨qk,hk0⟩:=q4b I2;obtain⟨qa,ha0⟩:=q5w I2;obtain⟨c2,qk2⟩:=q5v qk (·.push (.int (kf ds[j]) t2));have fk2:=q3q fk hk0;refine wpAny_bind (listUpdate_at qk rfl (wpAny_pure ⟨rfl,G2,H2,ks.push (.int (kf ds[j]) t2),c2,?_,x2,?_⟩) (by rw[sizeLine_eq];omega) (by rw[ZP,sizeLine_eq];omega))
   ·have I3:=(q5T I2).turned (h':=s2.heap.update kS (Obj.mapSeq (·.push (.int (kf ds[j]) t2)))) (t':=s2.toks) (it:=kS) (λb o hb q=>(zk _ _ (Ne.symm hb)).trans q) fk2.1 fk2.2.1 fk2.2.2.2.1 fk2.2.2.2.2.1 fk2.2.2.2.2.2
    exact q7M I3 fk2 (q3q fa ha0) qk2 ((zk _ _ ne).trans qa)
   ·have ek:(ds.map kf).take (j+1)=(ds.map kf).take j++[kf ds[j]]:=by
     rw[List.take_add_one,za,hdj];rfl
    have ea:(ks.push (Value.int (kf ds[j]) t2)).toList=ks.toList++[Value.int (kf ds[j]) t2]:=by simp
    rw[ea,ek];exact ksk_snoc hk
 case done =>
  rintro s' ⟨G',H',ks,e,I',x',hk⟩;rw[yf (by rw[zB];omega)] at hk;obtain⟨qk,hk0⟩:=q4b I';obtain⟨qa,ha0⟩:=q5w I'
  try dsimp only
  exact wpAny_bind (listItems_at qk rfl (qdp I' ne (q3q fk hk0) (q3q fa ha0) rv ld hk h64 λs2 I2=>h G' H' s2 x' ha0 I2))
end
section
variable {X:Cx} {pins:List (Addr×Obj)} {σ:L2.St} {G H:Hp} {s:Shared} {a:Addr} {xs:List V} {vs:List Value} {ds:List D} {kf:D->Int} {k:Nat} {f:Addr} {fd:FuncData} {ps:List Str} {m:List D->Option O}
theorem qcj{n:Nat}{P:PySem.Fin->Shared->Prop}{E:Value->Shared->Prop}(F:FnOk X.prog X.w X.K X.mg X.base CX0 k f fd ps (spD X.K 1 m))(hr:Room (k+2) X.A)(hb:Binds X.K fd ps [])
  (I:Inv X pins σ H s) (fa:X7 X pins H a) (qa:s.heap.get? a=some (seqObj "list" vs.toArray n)) (sg:Yz G H) (rp:Yo X.K G ds xs) (rv:Y2 xs vs) (h64:vs.length < 64) (hm:∀ d∈ds,m [d]=some (.sh (.int (kf d))))
  (h:∀ G' H' s',Ext G H G' H'->H' a=none->Inv X pins σ (upd H' a (.lst ((Yx (λz:D×V=>kf z.1) (ds.zip xs)).map (·.2)))) s'->P (.done (.ret .none)) s') :
  wpAny (model X.prog X.w) X.A.in1.in1 (ksk_tree a (.ref f) false) P E s:=by
 obtain⟨e1,qa1⟩:=q5v qa (λ_=>(#[]:Array Value));have la:a < s.heap.objs.size:=zO qa;have I3:=I.turned (h':=s.heap.update a (Obj.mapSeq λ_=>(#[]:Array Value))) (t':=s.toks) (it:=a) (λb o hb q=>(zk _ _ (Ne.symm hb)).trans q) fa.1 fa.2.1 fa.2.2.2.1 fa.2.2.2.2.1 fa.2.2.2.2.2;have I4:=I3.kept (h':=(s.heap.update a (Obj.mapSeq λ_=>(#[]:Array Value))).push (seqObj "tuple" vs.toArray 0)) (t':=s.toks) λb u q=>zE _ q;have fk:=I4.fpOk (zJ _) (I4.hok.fresh (zJ _));have I5:=I4.kept (h':=((s.heap.update a (Obj.mapSeq λ_=>(#[]:Array Value))).push (seqObj "tuple" vs.toArray 0)).push (seqObj "list" #[] 0)) (t':=s.toks) λb u q=>zE _ q;have qa5:(((s.heap.update a (Obj.mapSeq λ_=>(#[]:Array Value))).push (seqObj "tuple" vs.toArray 0)).push (seqObj "list" #[] 0)).get? a=some (seqObj "list" #[] e1):=zE _ (zE _ qa1);have hn:((s.heap.update a (Obj.mapSeq λ_=>(#[]:Array Value))).push (seqObj "tuple" vs.toArray 0)).objs.size=s.heap.objs.size+1:=by rw[size_push',xJ]
 have I6:=q7M (e:=0) (ks:=#[]) I5 fk fa (zR _ rfl) qa5;have z64:vs.toArray.size <= sizeLine:=by rw[zP,sizeLine_eq];omega
 unfold ksk_tree;refine wpAny_bind (listItems_at qa rfl (wpAny_bind (listUpdate_at qa rfl (wpAny_bind (seqEpoch_at qa1 rfl (wpAny_bind (wpAny_newTuple (wpAny_bind (wpAny_newList (wpAny_holding ?_) (zz _))) (by simpa using z64))))) z64 (zz _))));exact qcU F hr hb I6 (by rw[hn];exact xp (yN la)) fk fa sg rp rv h64 hm h
theorem q9p{p:Addr}{Q:VK}{E:Value->Shared->Prop}(F:FnOk X.prog X.w X.K X.mg X.base CX0 k f fd ps (spD X.K 1 m))(hr:Room (k+2) X.A)(hb:Binds X.K fd ps [])
  (I:Inv X pins σ H s) (hp:H p=some (.lst xs)) (sg:Yz G H) (rp:Yo X.K G ds xs) (h64:xs.length < 64) (hm:∀ d∈ds,m [d]=some (.sh (.int (kf d))))
  (q:∀ G' H' l,Ext G H G' H'->H' l=none->H l=none->Q (.ref l) (upd H' l (.lst ((Yx (λz:D×V=>kf z.1) (ds.zip xs)).map (·.2))))) :
  wpAny (model X.prog X.w) X.A (call (.builtin "sorted") [.ref p] [(Str.ofString "key", .ref f)]) (EP X pins σ Q) E s:=by
 obtain⟨vs,n0,rv,e0,_⟩:=I.lst hp;have lv:xs.length=vs.length:=rv.length;have z64:vs.length <= sizeLine:=by rw[sizeLine_eq];omega
 have hn:((s.heap.push (seqObj "list" #[] 0)).update s.heap.objs.size (Obj.mapSeq (·++vs.toArray))).objs.size=s.heap.objs.size+1:=by rw[xJ,size_push']
 have keep:∀ b o,s.heap.get? b=some o->(((s.heap.push (seqObj "list" #[] 0)).update s.heap.objs.size (Obj.mapSeq (·++vs.toArray))).push (seqObj "list" vs.toArray 0)).get? b=some o:=λb o z=>by
  have lt:b < s.heap.objs.size:=zO z;exact zE _ ((zk _ _ (xp lt)).trans (zE _ z))
 have I2:=I.kept (t':=s.toks) keep;have fa:X7 X pins H (s.heap.objs.size+1):=I.fpOk (xA _) (I.hok.fresh (xA _));have qa:(((s.heap.push (seqObj "list" #[] 0)).update s.heap.objs.size (Obj.mapSeq (·++vs.toArray))).push (seqObj "list" vs.toArray 0)).get? (s.heap.objs.size+1)=some (seqObj "list" vs.toArray 0):=by
  rw[<- hn];exact zR _ rfl
 refine call_function_entry_kw kind_sorted plain_sorted entry_sorted (ksk_s1 _ _) ?_;unfold Builtin.«sorted»;apply wpAny_bind (m:=checkCount "sorted" 1 1 _);apply wpAny_pure;refine wpAny_bind (collect_list ⟨_,e0,rfl,n0,rfl⟩ (wpAny_bind (wpAny_newList ?_ z64)) z64);show wpAny _ _ _ _ _ { s with heap:=((s.heap.push (seqObj "list" #[] 0)).update s.heap.objs.size (Obj.mapSeq (·++vs.toArray))).push (seqObj "list" vs.toArray 0) };rw[hn];refine wpAny_bind (wpAny_holding (wpAny_call_entry_kw slot_list_sort ⟨_,qa,rfl⟩ entry_list_sort ?go (ksk_l1 _ _)))
 case go =>
  show wpAny (model X.prog X.w) X.A.in1.in1 (Builtin.«list.sort» ⟨[.ref (s.heap.objs.size+1)],[(Str.ofString "key", .ref f)]⟩) _ _ _;rw[ksk_t1];refine qcj F hr hb I2 fa qa sg rp rv (by omega) hm λG' H' s' x' hn' I'=>⟨_,rfl,?_⟩;exact wpAny_pure ⟨_,rfl,.ref _,_,I',rfl,q G' H' _ x' hn' fa.1⟩
theorem q7i{K:zA}{G:Hp}:∀ {l:List (D×V)},(∀ t∈l,Rep K G t.1 t.2)->Yo K G (l.map (·.1)) (l.map (·.2))
 | [],_=>rfl
 | t::r,h=>Yo.cons (h t zG) (q7i λx hx=>h x (zH _ hx))
theorem qai{K:zA}{G:Hp}{ds:List D}{xs:List V}{kf:D->Int}(h:Yo K G ds xs):Yo K G (Yx kf ds) ((Yx (λz:D×V=>kf z.1) (ds.zip xs)).map (·.2)):=by
 have l:=h.len;have e:ds=(ds.zip xs).map Prod.fst:=by rw[YI];omega
 have mem:∀ t∈ds.zip xs,Rep K G t.1 t.2:=λt ht=>by
  obtain⟨i,hi⟩:=yz.mp ht;obtain⟨a1,a2⟩:=yy.mp hi;obtain⟨v,b1,b2⟩:=h.get a1;rw[a2] at b1;cases b1;exact b2
 have e2:Yx kf ds=(Yx (λz:D×V=>kf z.1) (ds.zip xs)).map (·.1):=by
  conv=>lhs;rw[e]
  rw[q1k]
 rw[e2];exact q7i λt ht=>mem t (q0a.mem_iff.mp ht)
noncomputable def zBP(m:List D->Option O)(d:D):Int:=match m [d] with
 | some (.sh (.int k))=>k
 | _=>0
noncomputable def keyOk(m:List D->Option O)(d:D):Bool:=match m [d] with
 | some (.sh (.int _))=>true
 | _=>false
theorem qcq{m:List D->Option O}{d:D}(h:keyOk m d=true):m [d]=some (.sh (.int (zBP m d))):=by
 unfold keyOk at h;unfold zBP
 split at h
 ·rename_i k e;rw[e]
 ·cases h
noncomputable def tSortK(K:zA)(m:List D->Option O)(te:TE):TE:=λσ H Q=>te σ H λv H1=>∃ p xs G ds,v=.ref p/\H1 p=some (.lst xs)/\Yz G H1/\Yo K G ds xs/\xs.length < 64/\(∀ d∈ds,keyOk m d=true) /\
 ∀ G' H' l,Ext G H1 G' H'->H' l=none->H1 l=none->Q (.ref l) (upd H' l (.lst ((Yx (λz:D×V=>zBP m z.1) (ds.zip xs)).map (·.2))))
def askK(K:zA)(m:List D->Option O)(Q:VK):V->Hp->Prop:=λv H1=>∃ p xs G ds,v=.ref p/\H1 p=some (.lst xs)/\Yz G H1/\Yo K G ds xs/\xs.length < 64/\(∀ d∈ds,keyOk m d=true) /\
 ∀ G' H' l,Ext G H1 G' H'->H' l=none->H1 l=none->Q (.ref l) (upd H' l (.lst ((Yx (λz:D×V=>zBP m z.1) (ds.zip xs)).map (·.2))))
def one1(R:V->Hp->Prop):List V->Hp->Prop:=λus H1=>match us with
 | [v]=>R v H1
 | _=>False
theorem qdq{R:V->Hp->Prop}{us:List V}{H1:Hp}(h:one1 R us H1):∃ v,us=[v]/\R v H1:=by
 unfold one1 at h
 split at h
 ·exact⟨_,rfl,h⟩
 ·exact h.elim
theorem qc4{e:Expr}{te:TE}{x:Str}{p p2 p3 pos:Pos}{k0:Nat}(c:Cal X.prog X.w X.K X.mg X.base k f fd x ps 1 m)(hr:Room k0 X.A)(hg:Gl X "sorted")(hm:X.mg "sorted" = none)(hx:Gl X x)(he:PE X e te)(hk:k+2 <= k0)
  (hd:(x == ("__debug__" : Str))=false:=by decide) (hs:starEach [e] X.env=(false,eval e X.env)::starEach [] X.env:=by rfl)
  (h1:backTo pos (starEach [e] X.env)=(false,eval e X.env)::backTo pos (starEach [] X.env):=by rfl) (h2:(backTo pos (starEach [e] X.env)).any (·.1)=false:=by rfl)
  (h3:(backToKw pos (keywordEach [⟨some (Str.ofString "key"),.Name x p2,p3⟩] X.env)).all (·.1.isSome)=true:=by rfl) (h4:(backToKw pos (keywordEach [⟨some (Str.ofString "key"),.Name x p2,p3⟩] X.env)).any (·.1.isNone)=false:=by rfl)
  (h5:(backToKw pos (keywordEach [⟨some (Str.ofString "key"),.Name x p2,p3⟩] X.env)).filterMap (·.1)=[Str.ofString "key"]:=by rfl) :
  PE X (.Call (.Name "sorted" p) [e] [⟨some (Str.ofString "key"),.Name x p2,p3⟩] pos) (tSortK X.K m te):=by
 intro pins s σ H Q I h;refine wpAny_Call_Name_kw (q0l I hg hm q1i ?_ (by decide) (by decide));refine callWith_kw (thn (qr he qo hs pos pins s σ H (one1 (askK X.K m Q)) I h) λus s1 ⟨ws,H1,I1,r1,q1⟩=>?_) h1 h2 h3 h4;obtain⟨v,rfl,p,xs,G,ds,rfl,b1,b2,b3,b4,b5,b6⟩:=qdq q1;obtain⟨u,rfl,ru⟩:=vals1 r1;cases ru;refine thn (qeI (kpos:=p3) (nm:=some (Str.ofString "key")) (qeC (v:=.ref f) hx c.2.1 rfl hd) qfP pos pins s1 σ H1 (λzs H2=>zs=[.ref f]/\H2=H1) I1 ⟨rfl,rfl⟩) λzs s2 ⟨ys,H2,I2,rz,e1,e2⟩=>?_;subst e1;subst e2;obtain⟨u,rfl,ru⟩:=vals1 rz;cases ru;rw[h5];exact q9p c.1 (hr.mono hk) c.2.2.2 I2 b1 b2 b3 b4 (λd hd=>qcq (b5 d hd)) b6
end
noncomputable def zBu(m:List D->Option O):D->Option R
 | .lst ds=>if ds.length < 64/\ds.all (keyOk m)=true then some (.fr (Yx (zBP m) ds)) else none
 | _=>none
noncomputable def zBC(m:List D->Option O)(f:FD):FE:=λω=>(f ω).bind (zBu m)
theorem qcl{X:Cx}{k:Nat}{f:Addr}{fd:FuncData}{ps:List Str}{m:List D->Option O}{e:Expr}{fe:FD}{x:Str}{p p2 p3 pos:Pos}{k0:Nat}(c:Cal X.prog X.w X.K X.mg X.base k f fd x ps 1 m)(hr:Room k0 X.A)(hm:X.mg "sorted" = none)(he:XV X e fe)
  (hg:Gl X "sorted" := by exact rfl) (hx:Gl X x:=by exact rfl) (hk:k+2 <= k0:=by decide)
  (hd:(x == ("__debug__" : Str))=false:=by decide) (hs:starEach [e] X.env=(false,eval e X.env)::starEach [] X.env:=by rfl)
  (h1:backTo pos (starEach [e] X.env)=(false,eval e X.env)::backTo pos (starEach [] X.env):=by rfl) (h2:(backTo pos (starEach [e] X.env)).any (·.1)=false:=by rfl)
  (h3:(backToKw pos (keywordEach [⟨some (Str.ofString "key"),.Name x p2,p3⟩] X.env)).all (·.1.isSome)=true:=by rfl) (h4:(backToKw pos (keywordEach [⟨some (Str.ofString "key"),.Name x p2,p3⟩] X.env)).any (·.1.isNone)=false:=by rfl)
  (h5:(backToKw pos (keywordEach [⟨some (Str.ofString "key"),.Name x p2,p3⟩] X.env)).filterMap (·.1)=[Str.ofString "key"]:=by rfl) :
  XE X (.Call (.Name "sorted" p) [e] [⟨some (Str.ofString "key"),.Name x p2,p3⟩] pos) (zBC m fe):=by
 obtain⟨t,g1,g2⟩:=he;refine⟨_,qc4 c hr hg hm hx g1 hk hd hs h1 h2 h3 h4 h5,λG0 H0 G ω σ H r Q o er kk=>?_⟩;obtain⟨d,q,er⟩:=bnd er;refine g2 G0 H0 G ω σ H d _ o q λv G1 H1 x1 y1=>?_;cases d with
 | lst ds =>
  have er':(if ds.length < 64/\ds.all (keyOk m)=true then some (R.fr (Yx (zBP m) ds)) else none)=some r:=er
  by_cases z:ds.length < 64/\ds.all (keyOk m)=true
  ·rw[if_pos z] at er'
   cases er';obtain⟨p,vs,rfl,w1,w2⟩:=y1.lst x1.gh;refine⟨p,vs,G1,ds,rfl,w1,x1.gh,w2,by rw[<- w2.len];exact z.1,xq.mp z.2,λG2 H2 l x2 n2 n1=>?_⟩;have x3:=Ext.hide x2.gh n2 (.lst ((Yx (λz:D×V=>zBP m z.1) (ds.zip vs)).map (·.2)));exact kk _ G2 _ ((x1.trans x2).trans x3) ⟨l,_,rfl,x1.hh.free n1,x2.gh.free n2,qd,qai (w2.mono x2.gg)⟩
  ·rw[if_neg z] at er';cases er'
 | _=>cases er
end Hk
namespace Hk
open PySem L2
noncomputable def skR(m:List D->Option O)(o:Option D):Option R:=o.bind (zBu m)
section
variable {m:List D->Option O} {f:FD} {ω:WSt} {d:D} {i:Nat} {ks:List Int} {ds:List D}
theorem q4N:zBC m f ω=skR m (f ω):=rfl
theorem q7r:iDk i ω=zBe ω[i]?:=rfl
theorem q7Z:zBe (some (some (.sh (.dic ks ds))))=some (ks.map D.int):=rfl
theorem qgc(h:ds.length < 64)(h':∀ d∈ds,keyOk m d=true):skR m (some (.lst ds))=some (.fr (Yx (zBP m) ds)):=if_pos ⟨h,xq.mpr h'⟩
end
end Hk
namespace Hk
open PySem PySem.Spec PyProof.Rows PySem.MeetsSeq PySem.SeqAt L2
noncomputable def zA8(x:D)(ys:List D):Bool:=ys.any λy=>eqD y x
theorem q51(x:D):∀ ys:List D,(D.pys ys).any (λy=>PyData.eqv y x.py)=zA8 x ys
 | []=>rfl
 | y::ys=>by show (PyData.eqv y.py x.py || (D.pys ys).any _)=_;rw[q51 x ys];rfl
noncomputable def rInS(K:zA)(neg:Bool):R2:=λx y H Q=>∃ d ds,Rep K H d x/\Rep K H (.lst ds) y/\shp d=true/\shp (.lst ds)=true/\Q (.bl (if neg then !zA8 d ds else zA8 d ds)) H
noncomputable def zBS(neg:Bool):D->D->Option R
 | x,.lst ys=>if shp x && shp (.lst ys) then some (.sh (.bl (if neg then !zA8 x ys else zA8 x ys))) else none
 | _,_=>none
section
variable {X:Cx} {a b:Expr} {pos:Pos} {f g:FD}
theorem q76{A:Around}{d:D}{ds:List D}(h:shp (.lst ds)=true)(hu:A.units+64 < cLine):A.units+1+min (PyData.depthAll (D.pys ds)) d.py.depth < cLine:=by
 have h1:PyData.depthAll (D.pys ds)+1 <= 64:=depth_of_shaped (d:=.list (D.pys ds)) h;have h2:=wQ (PyData.depthAll (D.pys ds)) d.py.depth;omega
theorem qeV(hu:X.A.units+64 < cLine):OpR X (compareOp .In) (rInS X.K false):=by
 intro pins s σ H x y v u Q I rx ry h;obtain⟨d,ds,h1,h2,h3,h4,q⟩:=h;obtain⟨as,ra⟩:=Y8 I (canLay_of_shaped h3) h1 rx;obtain⟨bs,rb⟩:=Y8 I (canLay_of_shaped h4) h2 ry;refine in_list_reads (xs:=D.pys ds) rb ra (show PyData.canLayAll0 (D.pys ds)=true from canLay_of_shaped (d:=.list (D.pys ds)) h4) (canLay_of_shaped h3) (q76 h4 hu) ⟨.bl _,H,I,?_,q⟩;rw[q51];rfl
theorem qbA(hu:X.A.units+64 < cLine):OpR X (compareOp .NotIn) (rInS X.K true):=by
 intro pins s σ H x y v u Q I rx ry h;obtain⟨d,ds,h1,h2,h3,h4,q⟩:=h;obtain⟨as,ra⟩:=Y8 I (canLay_of_shaped h3) h1 rx;obtain⟨bs,rb⟩:=Y8 I (canLay_of_shaped h4) h2 ry;refine notIn_list_reads (xs:=D.pys ds) rb ra (show PyData.canLayAll0 (D.pys ds)=true from canLay_of_shaped (d:=.list (D.pys ds)) h4) (canLay_of_shaped h3) (q76 h4 hu) ⟨.bl _,H,I,?_,q⟩;rw[q51];rfl
theorem q92{K:zA}{neg:Bool}:OpV K (rInS K neg) (zBS neg):=by
 intro G H x y d v u Q s e hx hy k;cases y with
 | lst ys =>
  unfold zBS at e
  dsimp only at e
  by_cases z:(shp x && shp (.lst ys))=true
  ·rw[if_pos z] at e
   cases e;rw[yI] at z;exact⟨x,ys,hx.rep s,hy.rep s,z.1,z.2,k _ G H (Ext.refl s) rfl⟩
  ·rw[if_neg z] at e;cases e
 | _=>cases e
theorem q5N(hu:X.A.units+64 < cLine)(ha:XV X a f)(hb:XV X b g)(hm:behindInMarks .NotIn b=false:=by with_unfolding_all rfl):XT X (.Compare a [.NotIn] [b] pos) (tOf (Yn (zBS true) f g)):=q2m (qbA hu) q92 ha hb hm
end
section
variable {X:Cx} {pos:Pos} {o e:Expr} {apos cpos:Pos} {i:Nat} {fd:FD}
end
end Hk
namespace Hk
open PySem L2
noncomputable def zBD:D->D->Option R
 | .lst xs,.int k=>if (0 <= k/\k <= 1000)/\xs.length <= 1000 then some (.fr (zh k.toNat xs).flatten) else none
 | _,_=>none
theorem Yo.rep{K:zA}{H:Hp}{ds:List D}{vs:List V}(h:Yo K H ds vs):∀ n:Nat,Yo K H (zh n ds).flatten (zh n vs).flatten
 | 0=>rfl
 | n+1=>by
  rw[yA,yA,yC,yC];exact h.app (h.rep n)
theorem qdW{K:zA}:OpV K rRep zBD:=by
 intro G H x y d v u Q s e hx hy k
 match x,y,e with
 | .lst xs,.int n,e =>
  unfold zBD at e
  dsimp only at e
  by_cases z:(0 <= n/\n <= 1000)/\xs.length <= 1000
  ·rw[if_pos z] at e
   cases e;obtain⟨a,vs,rfl,h1,h2⟩:=hx.lst s;cases hy.int;have hz:vs.length*n.toNat <= sizeLine:=by
    rw[<- h2.len];have:=Nat.mul_le_mul z.2 (show n.toNat <= 1000 by omega);rw[sizeLine_eq];omega
   refine⟨a,n,vs,rfl,rfl,h1,by omega,by omega,hz,λp hp=>?_⟩;exact k _ G _ (Ext.hide s hp _) ⟨p,_,rfl,hp,s.free hp,qd,h2.rep _⟩
  ·rw[if_neg z] at e;cases e
section
variable {X:Cx} {a b:Expr} {pos:Pos} {f g:FD}
theorem qfS(ha:XV X a f)(hb:XV X b g):XE X (.BinOp a .Mult b pos) (Yn zBD f g):=q1E qf0 qdW ha hb
end
theorem qat{ds:List D}{k:Int}(h0:0 <= k)(h1:k <= 1000)(h2:ds.length <= 1000):zBD (.lst ds) (.int k)=some (.fr (zh k.toNat ds).flatten):=if_pos ⟨⟨h0,h1⟩,h2⟩
section
variable {X:Cx} {a b:Expr} {pos:Pos} {f g:FD}
theorem qfK(hu:X.A.units+64 < cLine)(ha:XV X a f)(hb:XV X b g)(hm:behindInMarks .In b=false:=by with_unfolding_all rfl):XE X (.Compare a [.In] [b] pos) (Yn (zBS false) f g):=q6F (qeV hu) q92 ha hb hm
end
def rIdx:V->List V->Hp->VK->Prop:=λx vs H Q=>∃ (l:Addr) (ns:List Int) (k:Int) (j:Nat),x=.ref l/\vs=[.int k]/\H l=some (.lst (ns.map V.int))/\zBX k ns=some j/\Q (.int (j:Int)) H
theorem qcm{X:Cx}:MtM X "list.index" rIdx:=by
 intro pins s σ H x vs v us Q I rx rv h;obtain⟨l,ns,k,j,rfl,rfl,hH,hj,q⟩:=h;cases rx;obtain⟨u,rfl,ru⟩:=rv.one;obtain⟨t,rfl⟩:=ru;obtain⟨z,its,n,r,hl,e⟩:=I.lstM hH;obtain⟨e1,e2⟩:=q8E (k:=k) r;rw[hj] at e2;obtain⟨a,b,c⟩:=PySem.W.kf_at_spec e2;refine call_meets F.slot_list_index ⟨_,e,rfl⟩ F.entry_list_index (F.args_list_index_2 _ _)
  (MeetsSeq.list_index l its.toArray n (.int k t) (PyProof.Rows.isInt k) (λy hy=>PySem.W.kf_eq e1 y (by simpa using hy)) j (by simpa using a) (by have:=WW;omega) (by simpa using b) (λi hi hlt=>(by simpa using c i (by simpa using hi) hlt))) ⟨e,?_⟩
 exact⟨.int (j:Int),H,I.tok _,⟨_,rfl⟩,q⟩
noncomputable def idxD:D->D->Option R
 | .lst ds,.int k=>(intsOf ds).bind λns=>(zBX k ns).map λ(j:Nat)=>.sh (.int (j:Int))
 | _,_=>none
noncomputable def fIdx(f g:FD):FE:=λω=>(f ω).bind λd=>(g ω).bind λc=>idxD d c
section
variable {X:Cx} {o e:Expr} {apos cpos:Pos} {f g:FD}
theorem qcn(ho:XV X o f)(he:XD X e g)(hbase:attributeBase o "index" X.env (eval o X.env)=eval o X.env:=by rfl)
  (hfew:((backTo cpos (starEach [e] X.env)).all (λx=>!x.1) && (backToKw cpos (keywordEach [] X.env)).all (λx=>x.1.isSome)
   && decide (([e]:List Expr).length+([]:List Keyword).length+(if ([]:List Keyword).isEmpty then 0 else 1) < 30))=true:=by rfl)
  (hline:(apos.endLine == cpos.line)=true:=by rfl) (hs:starEach [e] X.env=(false,eval e X.env)::starEach [] X.env:=by rfl) (hplain:(backTo cpos (starEach [] X.env)).any (·.1)=false:=by rfl) :
  XE X (.Call (.Attribute o "index" apos) [e] [] cpos) (fIdx f g):=by
 obtain⟨t,h1,h2⟩:=ho;obtain⟨u,h3,h4⟩:=he;refine⟨_,q1Z PySem.F.plainAttrs_list PySem.F.slot_list_index PySem.F.type_list_index qcm h1 (qr h3 qo hs) hbase hfew hline hs hplain,λG0 H0 G ω σ H r Q ow e kk=>?_⟩;obtain⟨d,q1,e⟩:=bnd e;obtain⟨c,q2,e⟩:=bnd e;obtain⟨ds,k,rfl,rfl,e⟩:∃ ds k,d=.lst ds/\c=.int k/\((intsOf ds).bind λns=>(zBX k ns).map λ(j:Nat)=>R.sh (.int (j:Int)))=some r:=by
  cases d with
  | lst ds =>
   cases c with
   | int k=>exact⟨ds,k,rfl,rfl,e⟩
   | _=>cases e
  | _=>cases e
 obtain⟨ns,q3,e⟩:=bnd e;obtain⟨j,q4,e⟩:=mpd e;subst e;have hds:=q0G q3;subst hds;refine h2 G0 H0 G ω σ H _ _ ow q1 λv G1 H1 x1 y1=>?_;obtain⟨p,vs,rfl,g1,g2⟩:=y1.lst x1.gh;have hv:=g2.of_ints;subst hv;refine⟨.inl ⟨rfl,_,SqL.of g1⟩,h4 G0 H0 G1 ω σ H1 _ _ (ow.keep x1) q2 λw G2 H2 x2 y2=>?_⟩;cases (show w=.int k from y2);exact⟨p,ns,k,j,rfl,rfl,x2.hh _ _ g1,q4,kk _ G2 H2 (x1.trans x2) rfl⟩
end
end Hk
namespace So
open PySem PyProof.Rows
noncomputable def zCB:Bool->Keyed->Array Keyed->Nat->Nat->Nat->StateT SortSt Sem (Option Nat):=sortPriv% PySem.Builtin.gallop
noncomputable def bey(left:Bool)(k:Int)(arr:Array Keyed)(i:Nat):Bool:=if left=true then decide (K arr i < k) else !decide (k < K arr i)
section
variable {prog:Program} {w:World} {A:Around} {E:Value->Shared->Prop} {s:Shared}
theorem q7z{arr:Array Keyed}(h0:IntKeys arr){i:Nat}(hi:i < arr.size):∃ p t q,arr[i]?=some p/\p=(Value.int (K arr i) t,q):=by
 have hm:arr[i]∈arr.toList:=by simp
 obtain⟨n,t,hn⟩:=h0 _ hm;have e:arr[i]?=some arr[i]:=getElem?_pos _ i hi;have e2:arr[i]=(Value.int n t,arr[i].2):=Prod.ext hn rfl;refine⟨_,t,arr[i].2,e,?_⟩;unfold K;rw[e,e2];rfl
theorem zAN{st:SortSt}{a b:Int}{t u:Tok}{p q:Value}{Q:Option Bool->SortSt->Prop}(hk:kindOf st=oneType')(h:Q (some (decide (a < b))) st):wpS (model prog w) A E s (lt' (.int a t,p) (.int b u,q)) Q st:=by
 rw[lt'_eq];refine wpS_bind (wpS_get ?_);rw[hk,keyLt'_oneType];refine wpS_bind (wpS_lift (wpAny_attempt (oneLt_int ⟨rfl,?_⟩)));exact wpS_pure h
theorem Yq{st:SortSt}{arr:Array Keyed}{i:Nat}{p:Keyed}{Q:Keyed->SortSt->Prop}(h:arr[i]?=some p)(hq:Q p st):wpS (model prog w) A E s (elem' arr i) Q st:=by
 rw[elem'_eq,h];exact wpS_pure hq
theorem WI{st:SortSt}{left:Bool}{k:Int}{t:Tok}{q:Value}{arr:Array Keyed}{i:Nat}{Q:Option Bool->SortSt->Prop}(h0:IntKeys arr)(hi:i < arr.size)(hk:kindOf st=oneType')(h:Q (some (bey left k arr i)) st) :
  wpS (model prog w) A E s (do let x <- elem' arr i;if left=true then lt' x (.int k t,q) else do let l <- lt' (.int k t,q) x;pure (Option.map (λx=>!x) l)) Q st:=by
 obtain⟨p,u,r,e1,rfl⟩:=q7z h0 hi;refine wpS_bind (Yq e1 ?_);cases left with
 | true=>exact zAN hk h
 | false=>exact wpS_bind (zAN hk (wpS_pure h))
theorem XJ{left:Bool}{k:Int}{arr:Array Keyed}{i j:Nat}(h:K arr i <= K arr j)(hj:bey left k arr j=true):bey left k arr i=true:=by
 unfold bey at *;cases left with
 | true=>simp only[if_true,decide_eq_true_eq] at *;omega
 | false=>simp only[zy,if_false,Z5,decide_eq_false_iff_not] at *;omega
theorem XC{left:Bool}{k:Int}{t:Tok}{q:Value}{arr:Array Keyed}{base n hint:Nat}{st:SortSt}{Q:Option Nat->SortSt->Prop}(h0:IntKeys arr)(hk:kindOf st=oneType')(hsz:base+n <= arr.size)(hh:hint < n)
  (hs:∀ i j,i <= j->j < n->K arr (base+i) <= K arr (base+j))
  (h:∀ m,m <= n->(∀ i,i < m->bey left k arr (base+i)=true)->(∀ i,m <= i->i < n->bey left k arr (base+i)=false)->Q (some m) st):wpS (model prog w) A E s (zCB left (.int k t,q) arr base n hint) Q st:=by
 refine wpS_bind (WI (k:=k) h0 (by omega) hk ?_)
 dsimp only
 cases hr:bey left k arr (base+hint) with
 | true =>
  rw[if_pos rfl];refine wpS_bind (wpS_mono (wpS_forRange (I:=λx c st'=>st'=st/\∃ lo of,c=(none,lo,of)/\hint+lo < n/\bey left k arr (base+(hint+lo))=true/\lo < of/\x+1 <= of) (Q:=λc st'=>st'=st/\∃ lo of,c=(none,lo,of)/\hint+lo < n/\bey left k arr (base+(hint+lo))=true/\lo < of/\(of >= n - hint\/bey left k arr (base+(hint+of))=false)) ?_ ?_ ⟨rfl,0,1,rfl,by omega,hr,by omega,by omega⟩) ?_)
  ·rintro x c st' _ hx ⟨rfl,lo,of,rfl,b1,b2,b3,b4⟩
   dsimp only
   by_cases z:of >= n - hint
   ·rw[if_pos z]
    exact wpS_pure ⟨rfl,lo,of,rfl,b1,b2,b3,.inl z⟩
   ·rw[if_neg z]
    refine wpS_bind (WI (k:=k) h0 (by omega) hk ?_)
    dsimp only
    cases hb:bey left k arr (base+(hint+of)) with
    | true =>
     rw[if_neg (by decide)];exact wpS_pure ⟨rfl,of,2*of+1,rfl,by omega,hb,by omega,by omega⟩
    | false =>
     rw[if_pos (by decide)];exact wpS_pure ⟨rfl,lo,of,rfl,b1,b2,b3,.inr hb⟩
  ·rintro c st' ⟨rfl,lo,of,rfl,b1,b2,b3,b4⟩
   exact⟨rfl,lo,of,rfl,b1,b2,b3,.inl (by omega)⟩
  ·rintro c st' ⟨rfl,lo,of,rfl,b1,b2,b3,b4⟩
   dsimp only
   refine wpS_bind (wpS_mono (Q:=λc st2=>st2=st'/\∃ lo hi,c=(none,lo,hi)/\lo <= hi/\hi <= n/\hi - lo <= 0/\(∀ i,i < lo->bey left k arr (base+i)=true)/\(∀ i,hi <= i->i < n->bey left k arr (base+i)=false)) ?_ ?_)
   ·refine wpS_forRange (I:=λx c st2=>st2=st'/\∃ lo hi,c=(none,lo,hi)/\lo <= hi/\hi <= n/\hi - lo <= n - x/\(∀ i,i < lo->bey left k arr (base+i)=true)/\(∀ i,hi <= i->i < n->bey left k arr (base+i)=false)) ?_ ?_ ?_
    ·rintro x c st2 _ hx ⟨e2,lo,hi,rfl,b1,b2,b3,b4,b5⟩
     subst e2
     dsimp only
     by_cases z:lo >= hi
     ·rw[if_pos z]
      exact wpS_pure ⟨rfl,lo,hi,rfl,by omega,b2,by omega,b4,b5⟩
     ·rw[if_neg z]
      refine wpS_bind (WI (k:=k) h0 (by omega) hk ?_)
      dsimp only
      cases hb:bey left k arr (base+(lo+(hi - lo) / 2)) with
      | true =>
       rw[if_pos rfl];refine wpS_pure ⟨rfl,_,_,rfl,by omega,b2,by omega,λi hi'=>?_,b5⟩;exact XJ (hs _ _ (show i <= lo+(hi - lo) / 2 by omega) (by omega)) hb
      | false =>
       rw[if_neg (by decide)];refine wpS_pure ⟨rfl,_,_,rfl,by omega,by omega,by omega,b4,λi hi' hin=>?_⟩;cases hc:bey left k arr (base+i) with
       | false=>rfl
       | true=>rw[XJ (hs _ _ hi' hin) hc] at hb;cases hb
    ·rintro c st2 ⟨e2,lo,hi,rfl,b1,b2,b3,b4,b5⟩
     exact⟨e2,lo,hi,rfl,b1,b2,by omega,b4,b5⟩
    refine⟨rfl,_,_,rfl,by omega,by omega,by omega,λi hi=>?_,λi hi hin=>?_⟩
    ·exact XJ (hs _ _ (by omega) b1) b2
    ·rcases b4 with b4|b4
     ·omega
     ·cases hc:bey left k arr (base+i) with
      | false=>rfl
      | true=>rw[XJ (hs (hint+of) i (by omega) hin) hc] at b4;cases b4
   ·rintro c st2 ⟨e2,lo,hi,rfl,c1,c2,c3,c4,c5⟩
    subst e2;exact wpS_pure (h hi c2 (λi hi'=>c4 i (by omega)) c5)
 | false =>
  rw[if_neg (by decide)];refine wpS_bind (wpS_mono (wpS_forRange (I:=λx c st'=>st'=st/\∃ lo of,c=(none,lo,of)/\lo <= hint/\bey left k arr (base+(hint - lo))=false/\lo < of/\x+1 <= of) (Q:=λc st'=>st'=st/\∃ lo of,c=(none,lo,of)/\lo <= hint/\bey left k arr (base+(hint - lo))=false/\lo < of/\(of >= hint+1\/bey left k arr (base+(hint - of))=true)) ?_ ?_ ⟨rfl,0,1,rfl,by omega,hr,by omega,by omega⟩) ?_)
  ·rintro x c st' _ hx ⟨rfl,lo,of,rfl,b1,b2,b3,b4⟩
   dsimp only
   by_cases z:of >= hint+1
   ·rw[if_pos z]
    exact wpS_pure ⟨rfl,lo,of,rfl,b1,b2,b3,.inl z⟩
   ·rw[if_neg z]
    refine wpS_bind (WI (k:=k) h0 (by omega) hk ?_)
    dsimp only
    cases hb:bey left k arr (base+(hint - of)) with
    | true =>
     rw[if_pos rfl];exact wpS_pure ⟨rfl,lo,of,rfl,b1,b2,b3,.inr hb⟩
    | false =>
     rw[if_neg (by decide)];exact wpS_pure ⟨rfl,of,2*of+1,rfl,by omega,hb,by omega,by omega⟩
  ·rintro c st' ⟨rfl,lo,of,rfl,b1,b2,b3,b4⟩
   exact⟨rfl,lo,of,rfl,b1,b2,b3,.inl (by omega)⟩
  ·rintro c st' ⟨rfl,lo,of,rfl,b1,b2,b3,b4⟩
   dsimp only
   refine wpS_bind (wpS_mono (Q:=λc st2=>st2=st'/\∃ lo hi,c=(none,lo,hi)/\lo <= hi/\hi <= n/\hi - lo <= 0/\(∀ i,i < lo->bey left k arr (base+i)=true)/\(∀ i,hi <= i->i < n->bey left k arr (base+i)=false)) ?_ ?_)
   ·refine wpS_forRange (I:=λx c st2=>st2=st'/\∃ lo hi,c=(none,lo,hi)/\lo <= hi/\hi <= n/\hi - lo <= n - x/\(∀ i,i < lo->bey left k arr (base+i)=true)/\(∀ i,hi <= i->i < n->bey left k arr (base+i)=false)) ?_ ?_ ?_
    ·rintro x c st2 _ hx ⟨e2,lo,hi,rfl,b1,b2,b3,b4,b5⟩
     subst e2
     dsimp only
     by_cases z:lo >= hi
     ·rw[if_pos z]
      exact wpS_pure ⟨rfl,lo,hi,rfl,by omega,b2,by omega,b4,b5⟩
     ·rw[if_neg z]
      refine wpS_bind (WI (k:=k) h0 (by omega) hk ?_)
      dsimp only
      cases hb:bey left k arr (base+(lo+(hi - lo) / 2)) with
      | true =>
       rw[if_pos rfl];refine wpS_pure ⟨rfl,_,_,rfl,by omega,b2,by omega,λi hi'=>?_,b5⟩;exact XJ (hs _ _ (show i <= lo+(hi - lo) / 2 by omega) (by omega)) hb
      | false =>
       rw[if_neg (by decide)];refine wpS_pure ⟨rfl,_,_,rfl,by omega,by omega,by omega,b4,λi hi' hin=>?_⟩;cases hc:bey left k arr (base+i) with
       | false=>rfl
       | true=>rw[XJ (hs _ _ hi' hin) hc] at hb;cases hb
    ·rintro c st2 ⟨e2,lo,hi,rfl,b1,b2,b3,b4,b5⟩
     exact⟨e2,lo,hi,rfl,b1,b2,by omega,b4,b5⟩
    refine⟨rfl,_,_,rfl,by omega,by omega,by omega,λi hi=>?_,λi hi hin=>?_⟩
    ·rcases b4 with b4|b4
     ·omega
     ·exact XJ (hs _ _ (by omega) (by omega)) b4
    ·cases hc:bey left k arr (base+i) with
     | false=>rfl
     | true=>rw[XJ (hs (hint - lo) i (by omega) hin) hc] at b2;cases b2
   ·rintro c st2 ⟨e2,lo,hi,rfl,c1,c2,c3,c4,c5⟩
    subst e2;exact wpS_pure (h hi c2 (λi hi'=>c4 i (by omega)) c5)
end
noncomputable def ke(p:Keyed):Int:=numOf p.1
abbrev Le(x y:Keyed):Prop:=ke x <= ke y
abbrev Srt(l:List Keyed):Prop:=l.Pairwise Le
structure Mg (al bl out:List Keyed) (i j:Nat):Prop where
 perm:(out++(al.drop i++bl.drop j)).Perm (al++bl)
 srt:Srt out
 lea:∀ x∈out,∀ y∈al.drop i,Le x y
 leb:∀ x∈out,∀ y∈bl.drop j,Le x y
structure Done (al bl r:List Keyed):Prop where
 perm:r.Perm (al++bl)
 srt:Srt r
variable {al bl out:List Keyed} {i j:Nat}
theorem XB(h:Srt al)(k:Nat):Srt (al.drop k):=h.sublist (Zz k al)
theorem zAO(l:List Keyed)(i k:Nat):l.drop i=(l.drop i).take k++l.drop (i+k):=by
 rw[<- wZ,z0]
theorem Mg.a(m:Mg al bl out i j)(sa:Srt al)(k:Nat)(h:∀ x∈(al.drop i).take k,∀ y∈bl.drop j,Le x y):Mg al bl (out++(al.drop i).take k) (i+k) j:=by
 have e:=zAO al i k;have sd:Srt ((al.drop i).take k++al.drop (i+k)):=by rw[<- e];exact XB sa i
 obtain⟨s1,s2,s3⟩:=zX.mp sd;have hin:∀ y∈(al.drop i).take k,y∈al.drop i:=λy hy=>xf hy;have hout:∀ y∈al.drop (i+k),y∈al.drop i:=λy hy=>by rw[e];exact zQ _ hy
 refine⟨?_,?_,λx hx y hy=>?_,λx hx y hy=>?_⟩
 ·have:out++(al.drop i).take k++(al.drop (i+k)++bl.drop j)=out++(al.drop i++bl.drop j):=by
   rw[zK,<- zK ((al.drop i).take k),<- e]
  rw[this];exact m.perm
 ·exact zX.mpr ⟨m.srt,s1,λx hx y hy=>m.lea x hx y (hin y hy)⟩
 ·rcases zN.mp hx with hx|hx
  ·exact m.lea x hx y (hout y hy)
  ·exact s3 x hx y hy
 ·rcases zN.mp hx with hx|hx
  ·exact m.leb x hx y hy
  ·exact h x hx y hy
theorem Mg.b(m:Mg al bl out i j)(sb:Srt bl)(k:Nat)(h:∀ x∈(bl.drop j).take k,∀ y∈al.drop i,Le x y):Mg al bl (out++(bl.drop j).take k) i (j+k):=by
 have e:=zAO bl j k;have sd:Srt ((bl.drop j).take k++bl.drop (j+k)):=by rw[<- e];exact XB sb j
 obtain⟨s1,s2,s3⟩:=zX.mp sd;have hin:∀ y∈(bl.drop j).take k,y∈bl.drop j:=λy hy=>xf hy;have hout:∀ y∈bl.drop (j+k),y∈bl.drop j:=λy hy=>by rw[e];exact zQ _ hy
 refine⟨?_,?_,λx hx y hy=>?_,λx hx y hy=>?_⟩
 ·refine yw ?_ m.perm
  rw[zK];refine yH out ?_;refine yw ?_ (yH (al.drop i) (List.Perm.of_eq e.symm));rw[<- zK,<- zK];exact yu _ yb
 ·exact zX.mpr ⟨m.srt,s1,λx hx y hy=>m.leb x hx y (hin y hy)⟩
 ·rcases zN.mp hx with hx|hx
  ·exact m.lea x hx y hy
  ·exact h x hx y hy
 ·rcases zN.mp hx with hx|hx
  ·exact m.leb x hx y (hout y hy)
  ·exact s3 x hx y hy
theorem Mg.done(m:Mg al bl out i j)(sa:Srt al)(sb:Srt bl)(h:∀ x∈al.drop i,∀ y∈bl.drop j,Le x y):Done al bl (out++al.drop i++bl.drop j):=by
 refine⟨by rw[zK];exact m.perm,?_⟩;rw[zK];exact zX.mpr ⟨m.srt,zX.mpr ⟨XB sa i,XB sb j,h⟩,λx hx y hy=>(zN.mp hy).elim (m.lea x hx y) (m.leb x hx y)⟩
theorem Mg.last(m:Mg al bl out i j)(sa:Srt al)(sb:Srt bl)(h:∀ y∈bl.drop j,∀ x∈al.drop i,Le y x):Done al bl (out++bl.drop j++al.drop i):=by
 refine⟨?_,?_⟩
 ·rw[zK]
  exact(yH out yb).trans m.perm
 ·rw[zK]
  exact zX.mpr ⟨m.srt,zX.mpr ⟨XB sb j,XB sa i,h⟩,λx hx y hy=>(zN.mp hy).elim (m.leb x hx y) (m.lea x hx y)⟩
noncomputable def zBZ:Array Keyed->Array Keyed->StateT SortSt Sem (Array Keyed):=sortPriv% PySem.Builtin.mergeLo
structure Kp (st st':SortSt):Prop where
 kind:kindOf st'=kindOf st
 arr:arrOf st'=arrOf st
 pend:pendingOf st'=pendingOf st
 fail:failedOf st'=failedOf st
theorem Kp.refl(st:SortSt):Kp st st:=⟨rfl,rfl,rfl,rfl⟩
theorem zBK{xs:Array Keyed}{i:Nat}{p:Keyed}(h:xs[i]?=some p):K xs i=ke p:=by unfold K ke;rw[h]
theorem drop_one{xs:Array Keyed}{i:Nat}{p:Keyed}(h:xs[i]?=some p):xs.toList.drop i=p::xs.toList.drop (i+1):=by
 obtain⟨hi,e⟩:=wc.mp h;rw[yx (by simpa using hi)]
 congr 1
theorem WU{xs:Array Keyed}{i:Nat}:(xs.extract i xs.size).toList=xs.toList.drop i:=by
 rw[xZ,xu];exact yf (by simp)
theorem zAI{xs:Array Keyed}{i k:Nat}:(xs.extract i (i+k)).toList=(xs.toList.drop i).take k:=by
 simp[xZ,List.extract_eq_drop_take]
theorem X9{l:List Keyed}(s:Srt l){i:Nat}{p:Keyed}{t:List Keyed}(h:l.drop i=p::t):∀ y∈l.drop i,Le p y:=by
 have:=XB s i;rw[h] at this ⊢;intro y hy;rcases zF.mp hy with rfl|hy
 ·exact yD _
 ·exact(zb.mp this).1 y hy
theorem zAK{xs:Array Keyed}{i:Nat}(h:xs.size <= i):xs.toList.drop i=[]:=List.drop_eq_nil_of_le (by simpa using h)
theorem Mg.b1{a b out:Array Keyed}{i j:Nat}{p q:Keyed}(m:Mg a.toList b.toList out.toList i j)(sa:Srt a.toList)(sb:Srt b.toList)(hp:b[j]?=some p)(hq:a[i]?=some q)(h:Le p q):Mg a.toList b.toList (out.push p).toList i (j+1):=by
 have e:=drop_one hp;have:=m.b sb 1 (by
  rw[e];intro x hx y hy;have:x=p:=by simpa using hx
  subst this;exact yP h (X9 sa (drop_one hq) y hy))
 rw[e] at this;simpa using this
theorem Mg.a1{a b out:Array Keyed}{i j:Nat}{p q:Keyed}(m:Mg a.toList b.toList out.toList i j)(sa:Srt a.toList)(sb:Srt b.toList)(hp:a[i]?=some p)(hq:b[j]?=some q)(h:Le p q):Mg a.toList b.toList (out.push p).toList (i+1) j:=by
 have e:=drop_one hp;have:=m.a sa 1 (by
  rw[e];intro x hx y hy;have:x=p:=by simpa using hx
  subst this;exact yP h (X9 sb (drop_one hq) y hy))
 rw[e] at this;simpa using this
theorem Mg.dB{a b out:Array Keyed}{i j:Nat}(m:Mg a.toList b.toList out.toList i j)(sa:Srt a.toList)(sb:Srt b.toList)(h:b.size <= j):Done a.toList b.toList (out++a.extract i a.size++b.extract j b.size).toList:=by
 have:=m.done sa sb (λx _ y hy=>by rw[zAK h] at hy;cases hy);rw[yB,yB,WU,WU];exact this
theorem Mg.dA{a b out:Array Keyed}{i j:Nat}(m:Mg a.toList b.toList out.toList i j)(sa:Srt a.toList)(sb:Srt b.toList)(h:a.size <= i):Done a.toList b.toList (out++a.extract i a.size++b.extract j b.size).toList:=by
 have:=m.done sa sb (λx hx=>by rw[zAK h] at hx;cases hx);rw[yB,yB,WU,WU];exact this
theorem Mg.dL{a b out:Array Keyed}{i j:Nat}(m:Mg a.toList b.toList out.toList i j)(sa:Srt a.toList)(sb:Srt b.toList)(hl:∀ y∈b.toList,∀ x∈a.toList.drop (a.size - 1),Le y x)(h:i+1=a.size):Done a.toList b.toList (out++b.extract j b.size++a.extract i a.size).toList:=by
 have:=m.last sa sb (λy hy x hx=>hl y (xC hy) x (by rw[show a.size - 1=i by omega];exact hx));rw[yB,yB,WU,WU];exact this
end So
set_option maxHeartbeats 1000000
namespace So
open PySem PyProof.Rows
section
variable {prog:Program} {w:World} {A:Around} {E:Value->Shared->Prop} {s:Shared}
theorem Y4{xs:Array Keyed}{i:Nat}(h0:IntKeys xs)(h:i < xs.size):∃ t q,xs[i]?=some (Value.int (K xs i) t,q):=by
 obtain⟨p,t,q,e,rfl⟩:=q7z h0 h;exact⟨t,q,e⟩
theorem zAy{xs:Array Keyed}(hs:Srt xs.toList){i j:Nat}(h1:i <= j)(h2:j < xs.size):K xs i <= K xs j:=by
 have e1:xs[i]?=some xs[i]:=getElem?_pos _ i (by omega);have e2:xs[j]?=some xs[j]:=getElem?_pos _ j h2;rw[zBK e1,zBK e2];rcases zu i j with z|z
 ·exact yL.mp hs i j (by simp;omega) (by simpa using h2) z
 ·have:i=j:=by omega
  subst this;exact yD _
noncomputable def zCM:Nat->StateT SortSt Sem Unit:=sortPriv% PySem.Builtin.setMinGallop
theorem Kp.trans{a b c:SortSt}(h:Kp a b)(h':Kp b c):Kp a c:=⟨h'.kind.trans h.kind,h'.arr.trans h.arr,h'.pend.trans h.pend,h'.fail.trans h.fail⟩
theorem Xh{g:Nat}{st:SortSt}{Q:Unit->SortSt->Prop}(h:∀ st',Kp st st'->Q () st'):wpS (model prog w) A E s (zCM g) Q st:=wpS_modify (h _ ⟨rfl,rfl,rfl,rfl⟩)
theorem zAa{xs:Array Keyed}{i k:Nat}{v:Int}(h:∀ t,t < k->i+t < xs.size->K xs (i+t) <= v):∀ x∈(xs.toList.drop i).take k,ke x <= v:=by
 intro x hx;obtain⟨t,ht,e⟩:=ze.mp hx;rw[xE,xa] at e;rw[zd,yE] at ht;have hl:i+t < xs.size:=by simp at ht;omega
 have e2:xs[i+t]?=some x:=by rw[getElem?_pos xs (i+t) hl,<- e];rfl
 have:=h t (by omega) hl;rw[zBK e2] at this;exact this
theorem Wo{k:Int}{xs:Array Keyed}{i:Nat}:(bey false k xs i=true->K xs i <= k)/\(bey false k xs i=false->k < K xs i):=by
 unfold bey;simp only[zy,if_false,Z5,decide_eq_false_iff_not,Bool.not_eq_false',decide_eq_true_eq];exact⟨λh=>by omega,id⟩
theorem Ws{k:Int}{xs:Array Keyed}{i:Nat}:(bey true k xs i=true->K xs i < k)/\(bey true k xs i=false->k <= K xs i):=by
 unfold bey;simp only[if_true,decide_eq_true_eq,decide_eq_false_iff_not];exact⟨id,λh=>by omega⟩
theorem zAC{a b:Array Keyed}{st:SortSt}{Q:Array Keyed->SortSt->Prop}(ha:IntKeys a)(hb:IntKeys b)(sa:Srt a.toList)(sb:Srt b.toList)(na:1 <= a.size)(nb:1 <= b.size)(h1:K b 0 <= K a 0)(hl:∀ y∈b.toList,∀ x∈a.toList.drop (a.size - 1),Le y x)(hk:kindOf st=oneType')
  (h:∀ r st',Done a.toList b.toList r.toList->Kp st st'->Q r st'):wpS (model prog w) A E s (zBZ a b) Q st:=by
 refine wpS_bind (wpS_lift (wpAny_rule ⟨rfl,?_⟩));obtain⟨t0,q0,eb0⟩:=Y4 hb (show 0 < b.size by omega);obtain⟨u0,r0,ea0⟩:=Y4 ha (show 0 < a.size by omega);refine wpS_bind (Yq eb0 ?_);have m0:Mg a.toList b.toList (#[]:Array Keyed).toList 0 0:=⟨by simp,xD,λx hx=>by simp at hx,λx hx=>by simp at hx⟩;have m1:=m0.b1 sa sb eb0 ea0 (show K b 0 <= K a 0 from h1);have m1:Mg a.toList b.toList (#[(Value.int (K b 0) t0,q0)]:Array Keyed).toList 0 1:=m1
 dsimp only
 by_cases z1:b.size=1
 ·rw[if_pos (by rw[z1];rfl)]
  exact wpS_pure (h _ st (m1.dB sa sb (by omega)) (Kp.refl st))
 rw[if_neg (by simp;omega)]
 by_cases z2:a.size=1
 ·rw[if_pos (by rw[z2];rfl)]
  exact wpS_pure (h _ st (m1.dL sa sb hl (by omega)) (Kp.refl st))
 rw[if_neg (by simp;omega)];refine wpS_bind (wpS_get ?_);refine wpS_bind (wpS_mono (wpS_forRange
  (I:=λx c st'=>∃ o i j g,c=(none,o,i,j,g)/\Mg a.toList b.toList o.toList i j/\i+1 < a.size/\j < b.size/\x+1 <= i+j/\Kp st st')
  (Q:=λc st'=>∃ r z,c=(some r,z)/\Done a.toList b.toList r.toList/\Kp st st') ?_ ?_ ⟨_,_,_,_,rfl,m1,by omega,by omega,by omega,Kp.refl st⟩) ?_)
 ·rintro x c st1 _ hx ⟨o,i,j,g,rfl,m,b1,b2,b3,kp⟩
  dsimp only
  refine wpS_bind (wpS_mono (wpS_forRange
   (I:=λy c st'=>∃ o' i' j' ac bc,c=(none,o',i',j',ac,bc)/\Mg a.toList b.toList o'.toList i' j'/\i'+1 < a.size/\j' < b.size/\i+j+y <= i'+j'/\Kp st st')
   (Q:=λc st'=>(∃ r z,c=(some r,z)/\Done a.toList b.toList r.toList/\Kp st st')\/∃ o' i' j' ac bc,c=(none,o',i',j',ac,bc)/\Mg a.toList b.toList o'.toList i' j'/\i'+1 < a.size/\j' < b.size/\i+j+1 <= i'+j'/\Kp st st') ?_ ?_ ⟨_,_,_,_,_,rfl,m,b1,b2,by omega,kp⟩) ?_)
  ·rintro y c st2 _ hy ⟨o',i',j',ac,bc,rfl,m',d1,d2,d3,kp'⟩
   dsimp only
   obtain⟨t1,q1,eb⟩:=Y4 hb d2;obtain⟨u1,r1,ea⟩:=Y4 ha (show i' < a.size by omega);have hk':kindOf st2=oneType':=kp'.kind.trans hk;refine wpS_bind (Yq eb (wpS_bind (Yq ea (wpS_bind (zAN hk' ?_)))))
   dsimp only
   by_cases hw:K b j' < K a i'
   ·rw[decide_eq_true hw,if_pos rfl]
    have m2:=m'.b1 sa sb eb ea (show K b j' <= K a i' by omega);refine wpS_bind (Yq eb ?_)
    by_cases z:j'+1=b.size
    ·rw[if_pos (by rw[z];exact beq_self_eq_true _)]
     exact wpS_pure (.inl ⟨_,_,rfl,m2.dB sa sb (by omega),kp'⟩)
    ·rw[if_neg (by simpa using z)]
     split
     ·exact wpS_pure (.inr ⟨_,_,_,_,_,rfl,m2,d1,by omega,by omega,kp'⟩)
     ·exact wpS_pure ⟨_,_,_,_,_,rfl,m2,d1,by omega,by omega,kp'⟩
   ·rw[decide_eq_false hw,if_neg (by decide)]
    have m2:=m'.a1 sa sb ea eb (show K a i' <= K b j' by omega);refine wpS_bind (Yq ea ?_)
    by_cases z:i'+1+1=a.size
    ·rw[if_pos (by rw[z];exact beq_self_eq_true _)]
     exact wpS_pure (.inl ⟨_,_,rfl,m2.dL sa sb hl z,kp'⟩)
    ·rw[if_neg (by simpa using z)]
     split
     ·exact wpS_pure (.inr ⟨_,_,_,_,_,rfl,m2,by omega,d2,by omega,kp'⟩)
     ·exact wpS_pure ⟨_,_,_,_,_,rfl,m2,by omega,d2,by omega,kp'⟩
  ·rintro c st2 ⟨o',i',j',ac,bc,rfl,m',d1,d2,d3,kp'⟩
   omega
  ·rintro c st2 (⟨r,z,rfl,dn,kp'⟩|⟨o',i',j',ac,bc,rfl,m',d1,d2,d3,kp'⟩)
   ·exact wpS_pure ⟨r,_,rfl,dn,kp'⟩
   ·dsimp only
    refine wpS_bind (wpS_lift (wpAny_rule ⟨rfl,?_⟩));refine wpS_bind (wpS_mono (wpS_forRange
     (I:=λy c st'=>∃ o2 i2 j2 g2 ac bc,c=(none,o2,i2,j2,g2,ac,bc)/\Mg a.toList b.toList o2.toList i2 j2/\i2+1 < a.size/\j2 < b.size/\i'+j'+y <= i2+j2/\Kp st st')
     (Q:=λc st'=>(∃ r z,c=(some r,z)/\Done a.toList b.toList r.toList/\Kp st st')\/∃ o2 i2 j2 g2 ac bc,c=(none,o2,i2,j2,g2,ac,bc)/\Mg a.toList b.toList o2.toList i2 j2/\i2+1 < a.size/\j2 < b.size/\i'+j' <= i2+j2/\Kp st st') ?_ ?_ ⟨_,_,_,_,_,_,rfl,m',d1,d2,by omega,kp'⟩) ?_)
    ·rintro y c st3 _ hy ⟨o2,i2,j2,g2,ac2,bc2,rfl,m2,e1,e2,e3,kp3⟩
     dsimp only
     obtain⟨t2,q2,eb⟩:=Y4 hb e2;obtain⟨u2,r2,ea⟩:=Y4 ha (show i2 < a.size by omega)
     by_cases hg:g2 > 1
     case' pos=>rw[if_pos hg]
     case' neg=>rw[if_neg hg]
     all_goals
      refine wpS_bind (Xh λst4 kp4=>?_);replace kp4:=kp3.trans kp4;have hk4:kindOf st4=oneType':=kp4.kind.trans hk;refine wpS_bind (Yq eb ?_);refine wpS_bind (XC (k:=K b j2) ha hk4 (by omega) (by omega) (λs t h1 h2=>zAy sa (by omega) (by omega)) λk g1 g2 g3=>?_)
      dsimp only
      by_cases hk0:k > 0
      case' pos =>
       rw[if_pos hk0];have mA:=m2.a sa k (λx hx y hy=>yP (zAa (v:=K b j2) (λt h1 h2=>Wo.1 (g2 t h1)) x hx) (X9 sb (drop_one eb) y hy));have mA:Mg a.toList b.toList (o2++a.extract i2 (i2+k)).toList (i2+k) j2:=by rw[yB,zAI];exact mA
       by_cases z:i2+k+1=a.size
       ·rw[if_pos (by rw[z];exact beq_self_eq_true _)]
        exact wpS_pure (.inl ⟨_,_,rfl,mA.dL sa sb hl z,kp4⟩)
       rw[if_neg (by simpa using z)]
       by_cases z':i2+k=a.size
       ·rw[if_pos (by rw[z'];exact beq_self_eq_true _)]
        exact wpS_pure (.inl ⟨_,_,rfl,mA.dA sa sb (by omega),kp4⟩)
       rw[if_neg (by simpa using z')];have i1:i2+k+1 < a.size:=by omega
       have hlt:K b j2 <= K a (i2+k):=yg (Wo.2 (g3 k (zJ _) (by omega)));have le1:i2 <= i2+k:=by omega
       generalize o2++a.extract i2 (i2+k)=oA at mA ⊢;generalize i2+k=iA at mA i1 hlt le1 ⊢
      case' neg =>
       rw[if_neg hk0];have mA:=m2;have i1:i2+1 < a.size:=e1;have hlt:K b j2 <= K a i2:=yg (Wo.2 (g3 0 (by omega) (by omega)));generalize o2=oA at mA ⊢;generalize hiA:i2=iA at mA i1 hlt ⊢;have le1:i2 <= iA:=by omega
      all_goals
       obtain⟨u3,r3,eA⟩:=Y4 ha (show iA < a.size by omega);have mB:=mA.b1 sa sb eb eA hlt;refine wpS_bind (Yq eb ?_)
       by_cases z3:j2+1=b.size
       ·rw[if_pos (by rw[z3];exact beq_self_eq_true _)]
        exact wpS_pure (.inl ⟨_,_,rfl,mB.dB sa sb (by omega),kp4⟩)
       rw[if_neg (by simpa using z3)];refine wpS_bind (Yq eA ?_);refine wpS_bind (XC (k:=K a iA) hb hk4 (by omega) (by omega) (λs t h1 h2=>zAy sb (by omega) (by omega)) λk2 p1 p2 p3=>?_)
       dsimp only
       by_cases hk2:k2 > 0
       case' pos =>
        rw[if_pos hk2];have mC:=mB.b sb k2 (λx hx y hy=>yP (zAa (v:=K a iA) (λt h1 h2=>yg (Ws.1 (p2 t h1))) x hx) (X9 sa (drop_one eA) y hy));rw[<- zAI,<- yB] at mC
        by_cases z4:j2+1+k2=b.size
        ·rw[if_pos (by rw[z4];exact beq_self_eq_true _)]
         exact wpS_pure (.inl ⟨_,_,rfl,mC.dB sa sb (by omega),kp4⟩)
        rw[if_neg (by simpa using z4)];have j1:j2+1+k2 < b.size:=by omega
        have hle:K a iA <= K b (j2+1+k2):=Ws.2 (p3 k2 (zJ _) (by omega));have le2:j2+1 <= j2+1+k2:=by omega
        generalize oA.push (Value.int (K b j2) t2,q2)++b.extract (j2+1) (j2+1+k2)=oB at mC ⊢;generalize j2+1+k2=jB at mC j1 hle le2 ⊢
       case' neg =>
        rw[if_neg hk2];have mC:=mB;have j1:j2+1 < b.size:=by omega
        have hle:K a iA <= K b (j2+1):=Ws.2 (p3 0 (by omega) (by omega));generalize oA.push (Value.int (K b j2) t2,q2)=oB at mC ⊢;generalize hjB:j2+1=jB at mC j1 hle ⊢;have le2:j2+1 <= jB:=by omega
       all_goals
        obtain⟨t5,q5,eB⟩:=Y4 hb j1;have mD:=mC.a1 sa sb eA eB hle;refine wpS_bind (Yq eA ?_)
        by_cases z5:iA+1+1=a.size
        ·rw[if_pos (by rw[z5];exact beq_self_eq_true _)]
         exact wpS_pure (.inl ⟨_,_,rfl,mD.dL sa sb hl z5,kp4⟩)
        rw[if_neg (by simpa using z5)]
        by_cases z6:(decide (k < 7) && decide (k2 < 7))=true
        ·rw[if_pos z6]
         exact wpS_pure (.inr ⟨_,_,_,_,_,_,rfl,mD,by omega,j1,by omega,kp4⟩)
        ·rw[if_neg z6]
         exact wpS_pure ⟨_,_,_,_,_,_,rfl,mD,by omega,j1,by omega,kp4⟩
    ·rintro c st3 ⟨o2,i2,j2,g2,ac2,bc2,rfl,m2,e1,e2,e3,kp3⟩
     omega
    ·rintro c st3 (⟨r,z,rfl,dn,kp3⟩|⟨o2,i2,j2,g2,ac2,bc2,rfl,m2,e1,e2,e3,kp3⟩)
     ·exact wpS_pure ⟨r,_,rfl,dn,kp3⟩
     ·dsimp only
      refine wpS_bind (Xh λst4 kp4=>?_);exact wpS_pure ⟨_,_,_,_,rfl,m2,e1,e2,by omega,kp3.trans kp4⟩
 ·rintro c st1 ⟨o,i,j,g,rfl,m,b1,b2,b3,kp⟩
  omega
 ·rintro c st1 ⟨r,z,rfl,dn,kp⟩
  exact wpS_pure (h r st1 dn kp)
end
end So
set_option maxHeartbeats 1000000
namespace So
open PySem PyProof.Rows
structure Mh (al bl out:List Keyed) (i j:Nat):Prop where
 perm:(al.take i++(bl.take j++out.reverse)).Perm (al++bl)
 srt:Srt out.reverse
 lea:∀ x∈al.take i,∀ y∈out,Le x y
 leb:∀ x∈bl.take j,∀ y∈out,Le x y
theorem Y9{l:List Keyed}(h:Srt l)(k:Nat):Srt (l.take k):=h.sublist (wj k l)
theorem zA1(l:List Keyed){i k:Nat}(h:k <= i):l.take i=l.take k++(l.take i).drop k:=by
 have:=(z0 k (l.take i)).symm;rw[wJ,wR h] at this;exact this
variable {al bl out:List Keyed} {i j:Nat}
theorem Mh.a(m:Mh al bl out i j)(sa:Srt al){k:Nat}(hk:k <= i)(h:∀ x∈bl.take j,∀ y∈(al.take i).drop k,Le x y):Mh al bl (out++((al.take i).drop k).reverse) k j:=by
 have e:=zA1 al hk;have sd:Srt (al.take k++(al.take i).drop k):=by rw[<- e];exact Y9 sa i
 obtain⟨s1,s2,s3⟩:=zX.mp sd;refine⟨?_,?_,λx hx y hy=>?_,λx hx y hy=>?_⟩
 ·rw[xI,xB]
  refine yw ?_ m.perm;have e2:al.take i++(bl.take j++out.reverse)=al.take k++((al.take i).drop k++(bl.take j++out.reverse)):=by rw[<- zK (al.take k),<- e]
  rw[e2];refine yH _ ?_;rw[<- zK,<- zK];exact yu _ yb
 ·rw[xI,xB]
  exact zX.mpr ⟨s2,m.srt,λx hx y hy=>m.lea x (xC hx) y (yZ.mp hy)⟩
 ·rcases zN.mp hy with hy|hy
  ·exact m.lea x (by rw[e];exact zV _ hx) y hy
  ·exact s3 x hx y (yZ.mp hy)
 ·rcases zN.mp hy with hy|hy
  ·exact m.leb x hx y hy
  ·exact h x hx y (yZ.mp hy)
theorem Mh.b(m:Mh al bl out i j)(sb:Srt bl){k:Nat}(hk:k <= j)(h:∀ x∈al.take i,∀ y∈(bl.take j).drop k,Le x y):Mh al bl (out++((bl.take j).drop k).reverse) i k:=by
 have e:=zA1 bl hk;have sd:Srt (bl.take k++(bl.take j).drop k):=by rw[<- e];exact Y9 sb j
 obtain⟨s1,s2,s3⟩:=zX.mp sd;refine⟨?_,?_,λx hx y hy=>?_,λx hx y hy=>?_⟩
 ·rw[xI,xB]
  have e2:bl.take k++((bl.take j).drop k++out.reverse)=bl.take j++out.reverse:=by rw[<- zK (bl.take k),<- e]
  rw[e2];exact m.perm
 ·rw[xI,xB]
  exact zX.mpr ⟨s2,m.srt,λx hx y hy=>m.leb x (xC hx) y (yZ.mp hy)⟩
 ·rcases zN.mp hy with hy|hy
  ·exact m.lea x hx y hy
  ·exact h x hx y (yZ.mp hy)
 ·rcases zN.mp hy with hy|hy
  ·exact m.leb x (by rw[e];exact zV _ hx) y hy
  ·exact s3 x hx y (yZ.mp hy)
theorem Mh.done(m:Mh al bl out i j)(sa:Srt al)(sb:Srt bl)(h:∀ x∈al.take i,∀ y∈bl.take j,Le x y):Done al bl (al.take i++bl.take j++out.reverse):=by
 refine⟨by rw[zK];exact m.perm,?_⟩;refine zX.mpr ⟨zX.mpr ⟨Y9 sa i,Y9 sb j,h⟩,m.srt,λx hx y hy=>?_⟩;exact(zN.mp hx).elim (λhx=>m.lea x hx y (yZ.mp hy)) (λhx=>m.leb x hx y (yZ.mp hy))
theorem Mh.first(m:Mh al bl out i j)(sa:Srt al)(sb:Srt bl)(h:∀ y∈bl.take j,∀ x∈al.take i,Le y x):Done al bl (bl.take j++al.take i++out.reverse):=by
 refine⟨?_,?_⟩
 ·refine yw ?_ m.perm
  rw[<- zK];exact yu _ yb
 ·refine zX.mpr ⟨zX.mpr ⟨Y9 sb j,Y9 sa i,h⟩,m.srt,λx hx y hy=>?_⟩
  exact(zN.mp hx).elim (λhx=>m.leb x hx y (yZ.mp hy)) (λhx=>m.lea x hx y (yZ.mp hy))
theorem take_one{xs:Array Keyed}{i:Nat}{p:Keyed}(h:xs[i]?=some p):(xs.toList.take (i+1)).drop i=[p]:=by
 obtain⟨hi,e⟩:=wc.mp h;rw[wY,yx (by simpa using hi)];simp[e]
theorem WA{xs:Array Keyed}(s:Srt xs.toList){i:Nat}{p:Keyed}(h:xs[i]?=some p):∀ y∈xs.toList.take (i+1),Le y p:=by
 have sd:=Y9 s (i+1);have e:=zA1 xs.toList (show i <= i+1 by omega);rw[take_one h] at e;rw[e] at sd ⊢;intro y hy;rcases zN.mp hy with hy|hy
 ·exact(zX.mp sd).2.2 y hy p (by simp)
 ·have:y=p:=by simpa using hy
  rw[this];exact yD _
theorem Mh.a1{a b out:Array Keyed}{i j:Nat}{p q:Keyed}(m:Mh a.toList b.toList out.toList (i+1) (j+1))(sa:Srt a.toList)(sb:Srt b.toList)(hp:a[i]?=some p)(hq:b[j]?=some q)(h:Le q p):Mh a.toList b.toList (out.push p).toList i (j+1):=by
 have:=m.a sa (k:=i) (by omega) (by
  rw[take_one hp];intro x hx y hy;have:y=p:=by simpa using hy
  subst this;exact yP (WA sb hq x hx) h)
 rw[take_one hp] at this;simpa using this
theorem Mh.b1{a b out:Array Keyed}{i j:Nat}{p q:Keyed}(m:Mh a.toList b.toList out.toList (i+1) (j+1))(sa:Srt a.toList)(sb:Srt b.toList)(hp:b[j]?=some p)(hq:a[i]?=some q)(h:Le q p):Mh a.toList b.toList (out.push p).toList (i+1) j:=by
 have:=m.b sb (k:=j) (by omega) (by
  rw[take_one hp];intro x hx y hy;have:y=p:=by simpa using hy
  subst this;exact yP (WA sa hq x hx) h)
 rw[take_one hp] at this;simpa using this
theorem zBc{xs:Array Keyed}{i:Nat}:(xs.extract 0 i).toList=xs.toList.take i:=by
 rw[xZ,xu];simp
theorem W2{xs:Array Keyed}{i k:Nat}:(xs.extract k i).toList=(xs.toList.take i).drop k:=by
 rw[xZ,xu,wY]
theorem Mh.d0{a b out:Array Keyed}{i j:Nat}(m:Mh a.toList b.toList out.toList i j)(sa:Srt a.toList)(sb:Srt b.toList)(h:i=0\/j=0):Done a.toList b.toList (a.extract 0 i++b.extract 0 j++out.reverse).toList:=by
 have:=m.done sa sb (λx hx y hy=>by
  rcases h with rfl|rfl
  ·simp at hx
  ·simp at hy)
 rw[yB,yB,zBc,zBc,xn];exact this
theorem Mh.dF{a b out:Array Keyed}{i j:Nat}(m:Mh a.toList b.toList out.toList i j)(sa:Srt a.toList)(sb:Srt b.toList)(hf:∀ y∈b.toList.take 1,∀ x∈a.toList,Le y x)(h:j=1):Done a.toList b.toList (b.extract 0 j++a.extract 0 i++out.reverse).toList:=by
 have:=m.first sa sb (λy hy x hx=>hf y (by rw[h] at hy;exact hy) x (xf hx))
 rw[yB,yB,zBc,zBc,xn];exact this
end So
set_option maxHeartbeats 1000000
namespace So
open PySem PyProof.Rows
noncomputable def zBn:Array Keyed->Array Keyed->StateT SortSt Sem (Array Keyed):=sortPriv% PySem.Builtin.mergeHi
section
variable {prog:Program} {w:World} {A:Around} {E:Value->Shared->Prop} {s:Shared}
theorem zAM{xs:Array Keyed}{i k:Nat}{v:Int}(h:∀ t,k <= t->t < i->v <= K xs t):∀ x∈(xs.toList.take i).drop k,v <= ke x:=by
 intro x hx;obtain⟨t,ht,e⟩:=ze.mp hx;rw[xa,xE] at e;rw[yE,zd] at ht;have hl:k+t < xs.size:=by simp at ht;omega
 have e2:xs[k+t]?=some x:=by rw[getElem?_pos xs (k+t) hl,<- e];rfl
 have:=h (k+t) (by omega) (by omega);rw[zBK e2] at this;exact this
theorem zAD{a b:Array Keyed}{st:SortSt}{Q:Array Keyed->SortSt->Prop}(ha:IntKeys a)(hb:IntKeys b)(sa:Srt a.toList)(sb:Srt b.toList)(na:1 <= a.size)(nb:1 <= b.size)(h1:K b (b.size - 1) <= K a (a.size - 1))(hf:∀ y∈b.toList.take 1,∀ x∈a.toList,Le y x)(hk:kindOf st=oneType')
  (h:∀ r st',Done a.toList b.toList r.toList->Kp st st'->Q r st'):wpS (model prog w) A E s (zBn a b) Q st:=by
 refine wpS_bind (wpS_lift (wpAny_rule ⟨rfl,?_⟩));obtain⟨t0,q0,ea0⟩:=Y4 ha (show a.size - 1 < a.size by omega);obtain⟨u0,r0,eb0⟩:=Y4 hb (show b.size - 1 < b.size by omega);refine wpS_bind (Yq ea0 ?_);have m0:Mh a.toList b.toList (#[]:Array Keyed).toList (a.size - 1+1) (b.size - 1+1):=by
  rw[show a.size - 1+1=a.size by omega,show b.size - 1+1=b.size by omega];refine⟨?_,xD,λx _ y hy=>by simp at hy,λx _ y hy=>by simp at hy⟩;rw[yf (by simp),yf (by simp)];simp
 have m1:=m0.a1 sa sb ea0 eb0 (show K b (b.size - 1) <= K a (a.size - 1) from h1);rw[show b.size - 1+1=b.size by omega] at m1;have m1:Mh a.toList b.toList (#[(Value.int (K a (a.size - 1)) t0,q0)]:Array Keyed).toList (a.size - 1) b.size:=m1
 dsimp only
 by_cases z1:a.size - 1=0
 ·rw[if_pos (by rw[z1];rfl)]
  exact wpS_pure (h _ st (m1.d0 sa sb (.inl z1)) (Kp.refl st))
 rw[if_neg (by simpa using z1)]
 by_cases z2:b.size=1
 ·rw[if_pos (by rw[z2];rfl)]
  exact wpS_pure (h _ st (m1.dF sa sb hf z2) (Kp.refl st))
 rw[if_neg (by simpa using z2)];refine wpS_bind (wpS_get ?_);refine wpS_bind (wpS_mono (wpS_forRange
  (I:=λx c st'=>∃ o i j g,c=(none,i,j,o,g)/\Mh a.toList b.toList o.toList i j/\1 <= i/\2 <= j/\i <= a.size/\j <= b.size/\x+1+i+j <= a.size+b.size/\Kp st st')
  (Q:=λc st'=>∃ r z,c=(some r,z)/\Done a.toList b.toList r.toList/\Kp st st') ?_ ?_ ⟨_,_,_,_,rfl,m1,by omega,by omega,by omega,by omega,by omega,Kp.refl st⟩) ?_)
 ·rintro x c st1 _ hx ⟨o,i,j,g,rfl,m,b1,b2,b3,b4,b5,kp⟩
  dsimp only
  refine wpS_bind (wpS_mono (wpS_forRange
   (I:=λy c st'=>∃ o' i' j' ac bc,c=(none,i',j',o',ac,bc)/\Mh a.toList b.toList o'.toList i' j'/\1 <= i'/\2 <= j'/\i' <= a.size/\j' <= b.size/\y+i'+j' <= i+j/\Kp st st')
   (Q:=λc st'=>(∃ r z,c=(some r,z)/\Done a.toList b.toList r.toList/\Kp st st')\/∃ o' i' j' ac bc,c=(none,i',j',o',ac,bc)/\Mh a.toList b.toList o'.toList i' j'/\1 <= i'/\2 <= j'/\i' <= a.size/\j' <= b.size/\1+i'+j' <= i+j/\Kp st st') ?_ ?_ ⟨_,_,_,_,_,rfl,m,b1,b2,b3,b4,by omega,kp⟩) ?_)
  ·rintro y c st2 _ hy ⟨o',i',j',ac,bc,rfl,m',c1,c2,c3,c4,c5,kp'⟩
   dsimp only
   obtain⟨i',rfl⟩:∃ n,i'=n+1:=⟨i' - 1,by omega⟩;obtain⟨j',rfl⟩:∃ n,j'=n+1:=⟨j' - 1,by omega⟩;simp only[xP];obtain⟨t1,q1,eb⟩:=Y4 hb (show j' < b.size by omega);obtain⟨u1,r1,ea⟩:=Y4 ha (show i' < a.size by omega);have hk':kindOf st2=oneType':=kp'.kind.trans hk;refine wpS_bind (Yq eb (wpS_bind (Yq ea (wpS_bind (zAN hk' ?_)))))
   dsimp only
   by_cases hw:K b j' < K a i'
   ·rw[decide_eq_true hw,if_pos rfl]
    have m2:=m'.a1 sa sb ea eb (show K b j' <= K a i' by omega);refine wpS_bind (Yq ea ?_)
    by_cases z:i'=0
    ·rw[if_pos (by rw[z];rfl)]
     exact wpS_pure (.inl ⟨_,_,rfl,m2.d0 sa sb (.inl z),kp'⟩)
    ·rw[if_neg (by simpa using z)]
     split
     ·exact wpS_pure (.inr ⟨_,_,_,_,_,rfl,m2,by omega,by omega,by omega,by omega,by omega,kp'⟩)
     ·exact wpS_pure ⟨_,_,_,_,_,rfl,m2,by omega,by omega,by omega,by omega,by omega,kp'⟩
   ·rw[decide_eq_false hw,if_neg (by decide)]
    have m2:=m'.b1 sa sb eb ea (show K a i' <= K b j' by omega);refine wpS_bind (Yq eb ?_)
    by_cases z:j'=1
    ·rw[if_pos (by rw[z];rfl)]
     exact wpS_pure (.inl ⟨_,_,rfl,m2.dF sa sb hf z,kp'⟩)
    ·rw[if_neg (by simpa using z)]
     split
     ·exact wpS_pure (.inr ⟨_,_,_,_,_,rfl,m2,by omega,by omega,by omega,by omega,by omega,kp'⟩)
     ·exact wpS_pure ⟨_,_,_,_,_,rfl,m2,by omega,by omega,by omega,by omega,by omega,kp'⟩
  ·rintro c st2 ⟨o',i',j',ac,bc,rfl,m',c1,c2,c3,c4,c5,kp'⟩
   omega
  ·rintro c st2 (⟨r,z,rfl,dn,kp'⟩|⟨o',i',j',ac,bc,rfl,m',c1,c2,c3,c4,c5,kp'⟩)
   ·exact wpS_pure ⟨r,_,rfl,dn,kp'⟩
   ·dsimp only
    refine wpS_bind (wpS_lift (wpAny_rule ⟨rfl,?_⟩));refine wpS_bind (wpS_mono (wpS_forRange
     (I:=λy c st'=>∃ o2 i2 j2 g2 ac bc,c=(none,i2,j2,o2,g2,ac,bc)/\Mh a.toList b.toList o2.toList i2 j2/\1 <= i2/\2 <= j2/\i2 <= a.size/\j2 <= b.size/\y+i2+j2 <= i'+j'/\Kp st st')
     (Q:=λc st'=>(∃ r z,c=(some r,z)/\Done a.toList b.toList r.toList/\Kp st st')\/∃ o2 i2 j2 g2 ac bc,c=(none,i2,j2,o2,g2,ac,bc)/\Mh a.toList b.toList o2.toList i2 j2/\1 <= i2/\2 <= j2/\i2 <= a.size/\j2 <= b.size/\i2+j2 <= i'+j'/\Kp st st') ?_ ?_ ⟨_,_,_,_,_,_,rfl,m',c1,c2,c3,c4,by omega,kp'⟩) ?_)
    ·rintro y c st3 _ hy ⟨o2,i2,j2,g2,ac2,bc2,rfl,m2,e1,e2,e3,e4,e5,kp3⟩
     dsimp only
     obtain⟨jB,rfl⟩:∃ n,j2=n+1:=⟨j2 - 1,by omega⟩;simp only[xP];obtain⟨t2,q2,eb⟩:=Y4 hb (show jB < b.size by omega)
     by_cases hg:g2 > 1
     case' pos=>rw[if_pos hg]
     case' neg=>rw[if_neg hg]
     all_goals
      refine wpS_bind (Xh λst4 kp4=>?_);replace kp4:=kp3.trans kp4;have hk4:kindOf st4=oneType':=kp4.kind.trans hk;refine wpS_bind (Yq eb ?_);refine wpS_bind (XC (k:=K b jB) ha hk4 (by omega) (by omega) (λs t h1 h2=>zAy sa (by omega) (by omega)) λk g1 g2 g3=>?_);simp only[y8] at g2 g3
      dsimp only
      by_cases hk0:i2 - k > 0
      case' pos =>
       rw[if_pos hk0];have mA:=m2.a sa g1 (λx hx y hy=>yP (WA sb eb x hx) (zAM (v:=K b jB) (λt h1 h2=>yg (Wo.2 (g3 t h1 h2))) y hy));have mA:Mh a.toList b.toList (o2++(a.extract k i2).reverse).toList k (jB+1):=by rw[yB,xn,W2];exact mA
       by_cases z:k=0
       ·rw[if_pos (by rw[z];rfl)]
        exact wpS_pure (.inl ⟨_,_,rfl,mA.d0 sa sb (.inl z),kp4⟩)
       rw[if_neg (by simpa using z)];have hle:K a (k - 1) <= K b jB:=Wo.1 (g2 (k - 1) (by omega));have i1:1 <= k/\k <= i2:=⟨by omega,g1⟩;generalize o2++(a.extract k i2).reverse=oA at mA ⊢;generalize i2 - k=kA;generalize k=iA at mA hle i1 ⊢
      case' neg =>
       rw[if_neg hk0];have mA:=m2;have hle:K a (i2 - 1) <= K b jB:=Wo.1 (g2 (i2 - 1) (by omega));have i1:1 <= i2/\i2 <= i2:=⟨e1,zJ _⟩;generalize o2=oA at mA ⊢;generalize i2 - k=kA;generalize hiA:i2=iA at mA hle ⊢;rw[hiA] at i1;have i1:1 <= iA/\iA <= i2:=⟨i1.1,by omega⟩
      all_goals
       obtain⟨iB,rfl⟩:∃ n,iA=n+1:=⟨iA - 1,by omega⟩;simp only[xP] at hle ⊢;obtain⟨u3,r3,eA⟩:=Y4 ha (show iB < a.size by omega);have mB:=mA.b1 sa sb eb eA hle;refine wpS_bind (Yq eb ?_)
       by_cases z3:jB=1
       ·rw[if_pos (by rw[z3];rfl)]
        exact wpS_pure (.inl ⟨_,_,rfl,mB.dF sa sb hf z3,kp4⟩)
       rw[if_neg (by simpa using z3)];refine wpS_bind (Yq eA ?_);refine wpS_bind (XC (k:=K a iB) hb hk4 (by omega) (by omega) (λs t h1 h2=>zAy sb (by omega) (by omega)) λk2 p1 p2 p3=>?_);simp only[y8] at p2 p3
       dsimp only
       by_cases hk2:jB - k2 > 0
       case' pos =>
        rw[if_pos hk2];have mC:=mB.b sb p1 (λx hx y hy=>yP (WA sa eA x hx) (zAM (v:=K a iB) (λt h1 h2=>Ws.2 (p3 t h1 h2)) y hy));rw[<- W2,<- xn,<- yB] at mC
        by_cases z4:k2=1
        ·rw[if_pos (by rw[z4];rfl)]
         exact wpS_pure (.inl ⟨_,_,rfl,mC.dF sa sb hf z4,kp4⟩)
        rw[if_neg (by simpa using z4)]
        by_cases z4':k2=0
        ·rw[if_pos (by rw[z4'];rfl)]
         exact wpS_pure (.inl ⟨_,_,rfl,mC.d0 sa sb (.inr z4'),kp4⟩)
        rw[if_neg (by simpa using z4')];have hle2:K b (k2 - 1) <= K a iB:=yg (Ws.1 (p2 (k2 - 1) (by omega)));have j1:2 <= k2/\k2 <= jB:=⟨by omega,p1⟩;generalize oA.push (Value.int (K b jB) t2,q2)++(b.extract k2 jB).reverse=oB at mC ⊢;generalize jB - k2=kB;generalize k2=jC at mC hle2 j1 ⊢
       case' neg =>
        rw[if_neg hk2];have mC:=mB;have hle2:K b (jB - 1) <= K a iB:=yg (Ws.1 (p2 (jB - 1) (by omega)));generalize oA.push (Value.int (K b jB) t2,q2)=oB at mC ⊢;generalize jB - k2=kB;generalize hjC:jB=jC at mC hle2 ⊢;have j1:2 <= jC/\jC <= jB:=⟨by omega,by omega⟩
       all_goals
        obtain⟨jD,rfl⟩:∃ n,jC=n+1:=⟨jC - 1,by omega⟩;simp only[xP] at hle2;obtain⟨t5,q5,eB⟩:=Y4 hb (show jD < b.size by omega);have mD:=mC.a1 sa sb eA eB hle2;refine wpS_bind (Yq eA ?_)
        by_cases z5:iB=0
        ·rw[if_pos (by rw[z5];rfl)]
         exact wpS_pure (.inl ⟨_,_,rfl,mD.d0 sa sb (.inl z5),kp4⟩)
        rw[if_neg (by simpa using z5)]
        by_cases z6:(decide (kA < 7) && decide (kB < 7))=true
        ·rw[if_pos z6]
         exact wpS_pure (.inr ⟨_,_,_,_,_,_,rfl,mD,by omega,by omega,by omega,by omega,by omega,kp4⟩)
        ·rw[if_neg z6]
         exact wpS_pure ⟨_,_,_,_,_,_,rfl,mD,by omega,by omega,by omega,by omega,by omega,kp4⟩
    ·rintro c st3 ⟨o2,i2,j2,g2,ac2,bc2,rfl,m2,e1,e2,e3,e4,e5,kp3⟩
     omega
    ·rintro c st3 (⟨r,z,rfl,dn,kp3⟩|⟨o2,i2,j2,g2,ac2,bc2,rfl,m2,e1,e2,e3,e4,e5,kp3⟩)
     ·exact wpS_pure ⟨r,_,rfl,dn,kp3⟩
     ·dsimp only
      refine wpS_bind (Xh λst4 kp4=>?_);exact wpS_pure ⟨_,_,_,_,rfl,m2,e1,e2,e3,e4,by omega,kp3.trans kp4⟩
 ·rintro c st1 ⟨o,i,j,g,rfl,m,b1,b2,b3,b4,b5,kp⟩
  omega
 ·rintro c st1 ⟨r,z,rfl,dn,kp⟩
  exact wpS_pure (h r st1 dn kp)
end
end So
set_option maxHeartbeats 1000000
namespace So
open PySem PyProof.Rows
theorem zB6{P:List Keyed}{x y:Keyed}{S:List Keyed}{n:Nat}(h:n=P.length):(P++x::S).set n y=P++y::S:=by
 subst h;rw[List.set_append_right _ _ (zJ _),wH];rfl
theorem zAH(s:Nat):∀ (ys:List Keyed) (n:Nat) (xs:Array Keyed) (P M S:List Keyed),xs.toList=P++M++S->P.length=s+n->M.length=ys.length ->
  ((ys.zipIdx n).foldl (λa p=>a.setIfInBounds (s+p.2) p.1) xs).toList=P++ys++S
 | [],n,xs,P,M,S,h,hp,hm=>by
  have:M=[]:=ZC.mp hm;subst this;exact h
 | y::ys,n,xs,P,M,S,h,hp,hm=>by
  cases M with
  | nil=>cases hm
  | cons x M =>
   rw[List.zipIdx_cons,YM];have h2:(xs.setIfInBounds (s+n) y).toList=(P++[y])++M++S:=by
    rw[wd,h];have:P++x::M++S=P++x::(M++S):=by simp
    rw[this,zB6 (by omega)];simp
   rw[zAH s ys (n+1) _ (P++[y]) M S h2 (by simp;omega) (by simpa using hm)];simp
section
variable {prog:Program} {w:World} {A:Around} {E:Value->Shared->Prop} {s:Shared}
theorem WD{xs ys:Array Keyed}(h:IntKeys xs)(hs:∀ p∈ys.toList,p∈xs.toList):IntKeys ys:=λp hp=>h p (hs p hp)
theorem zBM{X M Y:List Keyed}(h1:Srt X)(h2:Srt M)(h3:Srt Y)(h12:∀ x∈X,∀ y∈M,Le x y)(h13:∀ x∈X,∀ y∈Y,Le x y)(h23:∀ x∈M,∀ y∈Y,Le x y):Srt (X++M++Y) :=
 zX.mpr ⟨zX.mpr ⟨h1,h2,h12⟩,h3,λx hx y hy=>(zN.mp hx).elim (λhx=>h13 x hx y hy) (λhx=>h23 x hx y hy)⟩
theorem zCD{σ:Type}{M:Model}{x:σ}{Q:PUnit->σ->Prop}{st:σ}(h:Q ⟨⟩ x):wpS M A E s (set x:StateT σ Sem PUnit) Q st:=by
 unfold wpS;rw[StateT.run_set];exact wpAny_pure ⟨rfl,h⟩
theorem zB4{arr:Array Keyed}{P X S:List Keyed}{s0 t:Nat}(hl:arr.toList=P++X++S)(hp:P.length=s0)(ht:t < X.length):arr[s0+t]?=X[t]?:=by
 rw[<- zZ,hl,zK,zW (by omega),show s0+t - P.length=t by omega,zc ht]
theorem WP{arr:Array Keyed}{P X S:List Keyed}{s0 t:Nat}(hl:arr.toList=P++X++S)(hp:P.length=s0)(ht:t < X.length):K arr (s0+t)=ke X[t]:=by
 have:=zB4 hl hp ht;rw[zD ht] at this;exact zBK this
theorem Wg{arr:Array Keyed}{P X S:List Keyed}{s0:Nat}(hl:arr.toList=P++X++S)(hp:P.length=s0)(hs:Srt X):∀ i j,i <= j->j < X.length->K arr (s0+i) <= K arr (s0+j):=λi j h1 h2=>by
 rw[WP hl hp (by omega),WP hl hp h2];rcases zu i j with z|z
 ·exact yL.mp hs i j (by omega) h2 z
 ·have:i=j:=by omega
  subst this;exact yD _
theorem Xu{X:List Keyed}{k:Nat}{x:Keyed}(h:x∈X.take k):∃ t,∃ (ht:t < X.length),t < k/\X[t]=x:=by
 obtain⟨t,ht,e⟩:=ze.mp h;rw[zd] at ht;rw[xE] at e;exact⟨t,by omega,by omega,e⟩
theorem Xp{X:List Keyed}{k:Nat}{x:Keyed}(h:x∈X.drop k):∃ t,∃ (ht:t < X.length),k <= t/\X[t]=x:=by
 obtain⟨t,ht,e⟩:=ze.mp h;rw[yE] at ht;rw[xa] at e;exact⟨k+t,by omega,by omega,e⟩
theorem zA5{arr:Array Keyed}{P X S:List Keyed}{s0 e0:Nat}(hl:arr.toList=P++X++S)(hp:P.length=s0)(he:e0=s0+X.length):(arr.extract s0 e0).toList=X:=by
 rw[W2,hl,zK];subst he;rw[<- hp,<- zC,<- zK,YX,List.drop_left]
theorem zAG{st:SortSt}{i sa na pw sb nb pw2:Nat}{P S RA RB:List Keyed}{Q:Bool->SortSt->Prop}(h0:IntKeys (arrOf st))(hk:kindOf st=oneType')(hfl:failedOf st=none)
  (p1:(pendingOf st)[i]?=some (sa,na,pw)) (p2:(pendingOf st)[i+1]?=some (sb,nb,pw2)) (hl:(arrOf st).toList=P++RA++RB++S) (lP:P.length=sa) (lA:RA.length=na) (lB:RB.length=nb) (hsb:sb=sa+na) (n1:1 <= na) (n2:1 <= nb) (sA:Srt RA) (sB:Srt RB)
  (h:∀ st' R,kindOf st'=oneType'->failedOf st'=none->pendingOf st'=((pendingOf st).setIfInBounds i (sa,na+nb,pw)).eraseIdxIfInBounds (i+1)->(arrOf st').toList=P++R++S->R.Perm (RA++RB)->Srt R->Q true st'):wpS (model prog w) A E s (mergeAt' i) Q st:=by
 cases st with
 | mk kd arr pe gl fa =>
 dsimp only[arrOf,kindOf,pendingOf,failedOf] at h0 hk hfl p1 p2 hl
 refine wpS_bind (wpS_get ?_)
 dsimp only
 rw[p1,p2]
 dsimp only
 refine wpS_bind (zCD ?_);generalize hst2:SortSt.mk' kd arr ((pe.setIfInBounds i (sa,na+nb,pw)).eraseIdxIfInBounds (i+1)) gl fa=st2;have k2:kindOf st2=oneType':=by rw[<- hst2];exact hk
 have f2:failedOf st2=none:=by rw[<- hst2];exact hfl
 have pd2:pendingOf st2=(pe.setIfInBounds i (sa,na+nb,pw)).eraseIdxIfInBounds (i+1):=by rw[<- hst2]
 have ar2:arrOf st2=arr:=by rw[<- hst2]
 change wpS _ _ _ _ _ _ (SortSt.mk' kd arr ((pe.setIfInBounds i (sa,na+nb,pw)).eraseIdxIfInBounds (i+1)) gl fa)
 rw[hst2];have hlA:arr.toList=P++RA++(RB++S):=by rw[hl];simp
 have hlB:arr.toList=(P++RA)++RB++S:=by rw[hl]
 have lPA:(P++RA).length=sb:=by rw[zC];omega
 have hsz:arr.size=sa+na+nb+S.length:=by
  have:=congrArg xX hl;simp only[zC,zM] at this;omega
 obtain⟨t0,q0,eb0⟩:=Y4 h0 (show sb < arr.size by omega);have kb0:K arr sb=ke RB[0]:=WP (t:=0) hlB lPA (by omega);refine wpS_bind (Yq eb0 ?_);refine wpS_bind (XC (k:=K arr sb) h0 k2 (by omega) (by omega) (λi j h1 h2=>Wg hlA lP sA i j h1 (by omega)) λk g1 g2 g3=>?_)
 dsimp only
 have a1:∀ x∈RA.take k,ke x <= K arr sb:=λx hx=>by
  obtain⟨t,ht,hk',rfl⟩:=Xu hx;rw[<- WP hlA lP ht];exact Wo.1 (g2 t hk')
 have a2:∀ x∈RA.drop k,K arr sb < ke x:=λx hx=>by
  obtain⟨t,ht,hk',rfl⟩:=Xp hx;rw[<- WP hlA lP ht];exact Wo.2 (g3 t hk' (by omega))
 have bb:∀ x∈RB,K arr sb <= ke x:=λx hx=>by
  obtain⟨t,ht,rfl⟩:=ze.mp hx;rw[<- WP hlB lPA ht];exact Wg hlB lPA sB 0 t (by omega) ht
 by_cases z1:na - k=0
 ·rw[if_pos (by rw[z1];rfl)]
  refine wpS_pure (h st2 (RA++RB) k2 f2 pd2 (by rw[ar2,hl];simp) (xN _) (zX.mpr ⟨sA,sB,λx hx y hy=>?_⟩));have e:RA.take k=RA:=yf (by omega);exact yP (a1 x (by rw[e];exact hx)) (bb y hy)
 rw[if_neg (by simpa using z1)];have hla:sa+k+(na - k) - 1=sa+(na - 1):=by omega
 rw[hla];obtain⟨t1,q1,ea1⟩:=Y4 h0 (show sa+(na - 1) < arr.size by omega);have ka:K arr (sa+(na - 1))=ke RA[na - 1]:=WP hlA lP (by omega);refine wpS_bind (Yq ea1 ?_);refine wpS_bind (XC (k:=K arr (sa+(na - 1))) h0 k2 (by omega) (by omega) (λi j h1 h2=>Wg hlB lPA sB i j h1 (by omega)) λm c1 c2 c3=>?_)
 dsimp only
 have b1:∀ x∈RB.take m,ke x < K arr (sa+(na - 1)):=λx hx=>by
  obtain⟨t,ht,hk',rfl⟩:=Xu hx;rw[<- WP hlB lPA ht];exact Ws.1 (c2 t hk')
 have b2:∀ x∈RB.drop m,K arr (sa+(na - 1)) <= ke x:=λx hx=>by
  obtain⟨t,ht,hk',rfl⟩:=Xp hx;rw[<- WP hlB lPA ht];exact Ws.2 (c3 t hk' (by omega))
 have aa:∀ x∈RA,ke x <= K arr (sa+(na - 1)):=λx hx=>by
  obtain⟨t,ht,rfl⟩:=ze.mp hx;rw[<- WP hlA lP ht];exact Wg hlA lP sA t (na - 1) (by omega) (by omega)
 by_cases z2:m=0
 ·rw[if_pos (by rw[z2];rfl)]
  refine wpS_pure (h st2 (RA++RB) k2 f2 pd2 (by rw[ar2,hl];simp) (xN _) (zX.mpr ⟨sA,sB,λx hx y hy=>?_⟩));exact yP (aa x hx) (b2 y (by rw[z2];exact hy))
 rw[if_neg (by simpa using z2)];have eA:RA=RA.take k++RA.drop k:=(z0 k RA).symm;have eB:RB=RB.take m++RB.drop m:=(z0 m RB).symm;have hx:(arr.extract (sa+k) sb).toList=RA.drop k:=zA5 (P:=P++RA.take k) (S:=RB++S) (by rw[hlA,zK P (RA.take k),z0]) (by rw[zC,zd];omega) (by rw[yE];omega);have hy:(arr.extract sb (sb+m)).toList=RB.take m:=zA5 (P:=P++RA) (S:=RB.drop m++S) (by rw[hlB,zK (P++RA) (RB.take m),show RB.take m++(RB.drop m++S)=RB++S by rw[<- zK,z0],zK (P++RA)]) lPA (by rw[zd];omega);generalize hX:arr.extract (sa+k) sb=X at hx;generalize hY:arr.extract sb (sb+m)=Y at hy;have lX:X.size=na - k:=by rw[<- zM,hx,yE];omega
 have lY:Y.size=m:=by rw[<- zM,hy,zd];omega
 have iX:IntKeys X:=WD h0 λp hp=>by rw[hx] at hp;rw[hlA];have:=xC hp;simp[this]
 have iY:IntKeys Y:=WD h0 λp hp=>by rw[hy] at hp;rw[hlB];have:=xf hp;simp[this]
 have sX:Srt X.toList:=by rw[hx];exact XB sA k
 have sY:Srt Y.toList:=by rw[hy];exact Y9 sB m
 have memX:∀ i,i < X.size->∃ x∈RA.drop k,K X i=ke x:=λi hi=>by
  have e:X[i]?=some X[i]:=getElem?_pos _ i hi;exact⟨X[i],by rw[<- hx];simp,zBK e⟩
 have memY:∀ i,i < Y.size->∃ x∈RB.take m,K Y i=ke x:=λi hi=>by
  have e:Y[i]?=some Y[i]:=getElem?_pos _ i hi;exact⟨Y[i],by rw[<- hy];simp,zBK e⟩
 have q1:∀ x∈RA.drop k,∀ y∈RB.take 1,Le y x:=λx hx y hy=>by
  obtain⟨t,ht,hk',rfl⟩:=Xu hy;have:t=0:=by omega
  subst this;have:=a2 x hx;show ke RB[0] <= ke x;rw[<- kb0];omega
 have h1:K Y 0 <= K X 0:=by
  obtain⟨x,hx',ex⟩:=memX 0 (by omega);have e:Y[0]?=some Y[0]:=getElem?_pos _ 0 (by omega);rw[ex,zBK e];refine q1 x hx' _ ?_;have:Y.toList.take 1=RB.take 1:=by rw[hy,wJ];congr 1;omega
  rw[<- this];have:=drop_one e;rw[wb] at this;rw[this];simp
 have hlast:∀ y∈Y.toList,∀ x∈X.toList.drop (X.size - 1),Le y x:=λy hy' x hx'=>by
  rw[hy] at hy';rw[hx,wZ] at hx';obtain⟨t,ht,hk',rfl⟩:=Xp hx';have:t=na - 1:=by omega
  subst this;have:=b1 y hy';show ke y <= ke RA[na - 1];rw[<- ka];omega
 have h1':K Y (Y.size - 1) <= K X (X.size - 1):=by
  obtain⟨y,hy',ey⟩:=memY (Y.size - 1) (by omega);have e:X[X.size - 1]?=some X[X.size - 1]:=getElem?_pos _ _ (by omega);rw[ey,zBK e];refine hlast y (by rw[hy];exact hy') _ ?_;rw[drop_one e];simp
 have hfirst:∀ y∈Y.toList.take 1,∀ x∈X.toList,Le y x:=λy hy' x hx'=>by
  rw[hy,wJ] at hy';rw[hx] at hx';exact q1 x hx' y (by rw[show min 1 m=1 by omega] at hy';exact hy')
 by_cases z3:na - k <= m
 case' pos =>
  rw[if_pos z3];refine wpS_bind (zAC iX iY sX sY (by omega) (by omega) h1 hlast k2 λr st3 dn kp=>?_)
 case' neg =>
  rw[if_neg z3];refine wpS_bind (zAD iX iY sX sY (by omega) (by omega) h1' hfirst k2 λr st3 dn kp=>?_)
 all_goals
  rw[hx,hy] at dn;have f3:failedOf st3=none:=kp.fail.trans f2;have ar3:arrOf st3=arr:=kp.arr.trans ar2;have pm:(RA.take k++r.toList++RB.drop m).Perm (RA++RB):=by
   have:RA++RB=RA.take k++(RA.drop k++RB.take m)++RB.drop m:=by
    conv=>lhs;rw[eA,eB]
    simp only[zK]
   rw[this];exact yu _ (yH _ dn.perm)
  have inr:∀ x∈r.toList,x∈RA.drop k\/x∈RB.take m:=λx hx'=>zN.mp (dn.perm.mem_iff.mp hx');have sAA:Srt (RA.take k++RA.drop k):=by rw[<- eA];exact sA
  have sBB:Srt (RB.take m++RB.drop m):=by rw[<- eB];exact sB
  have sR:Srt (RA.take k++r.toList++RB.drop m):=zBM (Y9 sA k) dn.srt (XB sB m)
   (λx hx' y hy'=>(inr y hy').elim (λhy'=>(zX.mp sAA).2.2 x hx' y hy') (λhy'=>yP (a1 x hx') (bb y (xf hy'))))
   (λx hx' y hy'=>yP (a1 x hx') (bb y (xC hy')))
   (λx hx' y hy'=>(inr x hx').elim (λhx'=>yP (aa x (xC hx')) (b2 y hy')) (λhx'=>(zX.mp sBB).2.2 x hx' y hy'))
  have lr:r.toList.length=(RA.drop k++RB.take m).length:=dn.perm.length_eq;have hput:=zAH (sa+k) r.toList 0 arr (P++RA.take k) (RA.drop k++RB.take m) (RB.drop m++S) (by
   rw[hl]
   conv=>lhs;rw[eA,eB]
   simp only[zK]) (by rw[zC,zd];omega) lr.symm
  refine wpS_bind (wpS_modify (wpS_bind (wpS_get ?_)));have fin:=h (SortSt.mk' (kindOf st3) (ZF (λa x=>a.setIfInBounds (sa+k+x.snd) x.fst) (arrOf st3) r.toList.zipIdx) (pendingOf st3) (gallopOf st3) (failedOf st3)) (RA.take k++r.toList++RB.drop m) (kp.kind.trans k2) f3 (kp.pend.trans pd2) (by
   show (ZF _ (arrOf st3) _).toList=_;rw[ar3,hput];simp only[zK]) pm sR
  show wpS _ _ _ _ (pure (failedOf st3).isNone) _ _;rw[f3];exact wpS_pure fin
end
end So
set_option maxHeartbeats 1000000
namespace So
open PySem PyProof.Rows
def SrK(xs:Array Keyed)(lo k:Nat):Prop:=∀ i j,i <= j->j < k->K xs (lo+i) <= K xs (lo+j)
structure Within (lo hi:Nat) (st st':SortSt):Prop where
 kind:kindOf st'=kindOf st
 pend:pendingOf st'=pendingOf st
 fail:failedOf st'=failedOf st
 perm:(arrOf st').Perm (arrOf st)
 out:∀ t,(t < lo\/hi <= t)->(arrOf st')[t]?=(arrOf st)[t]?
theorem Within.refl(lo hi:Nat)(st:SortSt):Within lo hi st st:=⟨rfl,rfl,rfl,ZR _,λ_ _=>rfl⟩
theorem Within.trans{lo hi:Nat}{a b c:SortSt}(h:Within lo hi a b)(h':Within lo hi b c):Within lo hi a c:=⟨h'.kind.trans h.kind,h'.pend.trans h.pend,h'.fail.trans h.fail,h'.perm.trans h.perm,λt ht=>(h'.out t ht).trans (h.out t ht)⟩
theorem Within.size{lo hi:Nat}{a b:SortSt}(h:Within lo hi a b):(arrOf b).size=(arrOf a).size:=h.perm.size_eq
theorem Within.ints{lo hi:Nat}{a b:SortSt}(h:Within lo hi a b)(h0:IntKeys (arrOf a)):IntKeys (arrOf b):=λp hp=>h0 p ((xo.mp h.perm).mem_iff.mp hp)
theorem WV{lo hi:Nat}{st:SortSt}{ys:Array Keyed}(hp:ys.Perm (arrOf st))(ho:∀ t,(t < lo\/hi <= t)->ys[t]?=(arrOf st)[t]?):Within lo hi st (setArr st ys):=⟨rfl,rfl,rfl,hp,ho⟩
section
variable {prog:Program} {w:World} {A:Around} {E:Value->Shared->Prop} {s:Shared}
theorem X1{st:SortSt}{i j:Nat}{Q:Option Bool->SortSt->Prop}(h0:IntKeys (arrOf st))(hk:kindOf st=oneType')(hi:i < (arrOf st).size)(hj:j < (arrOf st).size)(h:Q (some (decide (K (arrOf st) i < K (arrOf st) j))) st):wpS (model prog w) A E s (ltAt' i j) Q st:=by
 obtain⟨t,p,e1⟩:=Y4 h0 hi;obtain⟨u,q,e2⟩:=Y4 h0 hj;exact wpS_ltAt hk e1 e2 h
theorem zAb{st:SortSt}{lo n ok:Nat}{Q:Bool->SortSt->Prop}(h0:IntKeys (arrOf st))(hk:kindOf st=oneType')(hn:lo+n <= (arrOf st).size)(hok:ok <= n)(hs:SrK (arrOf st) lo ok)
  (h:∀ st',Within lo (lo+n) st st'->SrK (arrOf st') lo n->Q true st'):wpS (model prog w) A E s (binarySort' lo n ok) Q st:=by
 refine wpS_bind (wpS_mono (wpS_forRange
  (I:=λx c st'=>c=(none,())/\Within lo (lo+n) st st'/\SrK (arrOf st') lo x)
  (Q:=λc st'=>c=(none,())/\Within lo (lo+n) st st'/\SrK (arrOf st') lo n) ?_ ?_ ⟨rfl,Within.refl _ _ _,?_⟩) ?_)
 ·rintro k c st1 hk1 hkn ⟨rfl,W,S⟩
  have sz:=W.size;have i0:=W.ints h0;have kd:kindOf st1=oneType':=W.kind.trans hk
  dsimp only
  refine wpS_bind (wpS_mono (wpS_forRange
   (I:=λy c st'=>st'=st1/\∃ l r,c=(none,l,r)/\l <= r/\r <= k/\r - l <= k - y/\(∀ t,t < l->K (arrOf st1) (lo+t) <= K (arrOf st1) (lo+k))/\(∀ t,r <= t->t < k->K (arrOf st1) (lo+k) < K (arrOf st1) (lo+t)))
   (Q:=λc st'=>st'=st1/\∃ l,c=(none,l,l)/\l <= k/\(∀ t,t < l->K (arrOf st1) (lo+t) <= K (arrOf st1) (lo+k))/\(∀ t,l <= t->t < k->K (arrOf st1) (lo+k) < K (arrOf st1) (lo+t))) ?_ ?_ ⟨rfl,0,k,rfl,by omega,by omega,by omega,λt ht=>by omega,λt h1 h2=>by omega⟩) ?_)
  ·rintro y c st2 _ hy ⟨rfl,l,r,rfl,b1,b2,b3,b4,b5⟩
   dsimp only
   by_cases z:l >= r
   ·rw[if_pos z]
    have:l=r:=by omega
    subst this;exact wpS_pure ⟨rfl,l,rfl,by omega,b4,b5⟩
   ·rw[if_neg z]
    refine wpS_bind (X1 i0 kd (by omega) (by omega) ?_)
    dsimp only
    by_cases hc:K (arrOf st2) (lo+k) < K (arrOf st2) (lo+(l+r) / 2)
    ·rw[decide_eq_true hc,if_pos rfl]
     refine wpS_pure ⟨rfl,_,_,rfl,by omega,by omega,by omega,b4,λt h1 h2=>?_⟩;have:=S ((l+r) / 2) t h1 h2;omega
    ·rw[decide_eq_false hc,if_neg (by decide)]
     refine wpS_pure ⟨rfl,_,_,rfl,by omega,by omega,by omega,λt ht=>?_,b5⟩;have:=S t ((l+r) / 2) (by omega) (by omega);omega
  ·rintro c st2 ⟨rfl,l,r,rfl,b1,b2,b3,b4,b5⟩
   have:l=r:=by omega
   subst this;exact⟨rfl,l,rfl,by omega,b4,b5⟩
  ·rintro c st2 ⟨rfl,l,rfl,b1,b4,b5⟩
   dsimp only
   refine wpS_bind (wpS_modify ?_);have hsrc:lo+k < (arrOf st2).size:=by omega
   have hd:lo+k - (lo+l) <= lo+k:=by omega
   refine wpS_pure ⟨rfl,W.trans (WV (bubble_perm _ _ _) λt ht=>?_),λi j h1 h2=>?_⟩
   ·show (bubble (arrOf st2) (lo+k) (lo+k - (lo+l)))[t]?=_
    rw[getElem?_bubble hsrc _ hd,if_neg (by omega),if_neg (by omega)]
   ·show K (bubble (arrOf st2) (lo+k) (lo+k - (lo+l))) (lo+i) <= K (bubble (arrOf st2) (lo+k) (lo+k - (lo+l))) (lo+j)
    rw[K_bubble hsrc hd,K_bubble hsrc hd];have e:lo+k - (lo+k - (lo+l))=lo+l:=by omega
    rw[e]
    by_cases c1:i=l
    ·rw[if_pos (by omega)]
     by_cases c2:j=l
     ·rw[if_pos (by omega)];exact yD _
     ·rw[if_neg (by omega),if_pos (by omega),show lo+j - 1=lo+(j - 1) by omega]
      exact yg (b5 (j - 1) (by omega) (by omega))
    ·rw[if_neg (by omega)]
     by_cases c3:l < i
     ·rw[if_pos (by omega),if_neg (by omega),if_pos (by omega),show lo+i - 1=lo+(i - 1) by omega,show lo+j - 1=lo+(j - 1) by omega]
      exact S (i - 1) (j - 1) (by omega) (by omega)
     ·rw[if_neg (by omega)]
      by_cases c2:j=l
      ·rw[if_pos (by omega)];exact b4 i (by omega)
      ·rw[if_neg (by omega)]
       by_cases c4:l < j
       ·rw[if_pos (by omega),show lo+j - 1=lo+(j - 1) by omega]
        exact S i (j - 1) (by omega) (by omega)
       ·rw[if_neg (by omega)]
        exact S i j h1 (by omega)
 ·rintro c st1 ⟨rfl,W,S⟩
  refine⟨rfl,W,λi j h1 h2=>S i j h1 (by omega)⟩
 ·intro i j h1 h2
  by_cases z:ok=0
  ·have:i=j:=by omega
   subst this;exact yD _
  ·exact hs i j h1 (by omega)
 ·rintro c st1 ⟨rfl,W,S⟩
  exact wpS_pure (h st1 W S)
end
end So
set_option maxHeartbeats 2000000
namespace So
open PySem PyProof.Rows
section
variable {prog:Program} {w:World} {A:Around} {E:Value->Shared->Prop} {s:Shared}
theorem Wc{st:SortSt}{lo hi i j:Nat}{Q:Unit->SortSt->Prop}(hi1:lo <= i)(hj:j <= hi)(hs:hi <= (arrOf st).size)(h:∀ st',Within lo hi st st'->(∀ k,K (arrOf st') k=if i <= k/\k < j then K (arrOf st) (i+j - 1 - k) else K (arrOf st) k)->Q () st'):wpS (model prog w) A E s (reverseSlice' i j) Q st:=by
 rw[reverseSlice'_eq];refine wpS_modify (h _ (WV (mirror_perm _ _ _ _) λt ht=>?_) λk=>K_mirror (by omega) k);rw[getElem?_mirror_all (by omega),if_neg (by omega)]
theorem keepK{xs ys:Array Keyed}{i j:Nat}(KK:∀ k,K ys k=if i <= k/\k < j then K xs (i+j - 1 - k) else K xs k)(e:∀ k,i <= k->k < j->K xs k=K xs (j - 1))(k:Nat):K ys k=K xs k:=by
 rw[KK k]
 split
 ·rename_i hh
  rw[e (i+j - 1 - k) (by omega) (by omega),e k hh.1 hh.2]
 ·rfl
theorem zCF{st:SortSt}{lo nrem:Nat}{Q:Option Nat->SortSt->Prop}(h0:IntKeys (arrOf st))(hk:kindOf st=oneType')(hn:lo+nrem <= (arrOf st).size)(h1:1 <= nrem)
  (h:∀ n st',1 <= n->n <= nrem->Within lo (lo+nrem) st st'->SrK (arrOf st') lo n->Q (some n) st'):wpS (model prog w) A E s (countRun' lo nrem) Q st:=by
 refine wpS_bind (wpS_mono (wpS_forRange
  (I:=λx c st'=>st'=st/\c=(none,x)/\x <= nrem/\SrK (arrOf st) lo x)
  (Q:=λc st'=>st'=st/\∃ n,c=(none,n)/\1 <= n/\n <= nrem/\SrK (arrOf st) lo n/\(n < nrem->K (arrOf st) (lo+n) < K (arrOf st) (lo+n - 1))) ?_ ?_ ⟨rfl,rfl,h1,λi j h2 h3=>by rw[show i=j by omega];exact yD _⟩) ?_)
 ·rintro x c st1 hx1 hx ⟨rfl,rfl,b1,S⟩
  dsimp only
  refine wpS_bind (X1 h0 hk (by omega) (by omega) ?_)
  dsimp only
  by_cases hc:K (arrOf st1) (lo+x) < K (arrOf st1) (lo+x - 1)
  ·rw[decide_eq_true hc,if_pos rfl]
   exact wpS_pure ⟨rfl,x,rfl,hx1,b1,S,λ_=>hc⟩
  ·rw[decide_eq_false hc,if_neg (by decide)]
   refine wpS_pure ⟨rfl,rfl,by omega,λi j h2 h3=>?_⟩
   by_cases z:j=x
   ·subst z
    by_cases z2:i=j
    ·rw[z2];exact yD _
    ·have:=S i (j - 1) (by omega) (by omega)
     rw[show lo+(j - 1)=lo+j - 1 by omega] at this;omega
   ·exact S i j h2 (by omega)
 ·rintro c st1 ⟨rfl,rfl,b1,S⟩
  exact⟨rfl,_,rfl,by omega,b1,S,λz=>by omega⟩
 ·rintro c st1 ⟨rfl,n,rfl,b1,b2,S,b3⟩
  dsimp only
  by_cases z1:n=nrem
  ·rw[if_pos (by rw[z1];exact beq_self_eq_true _)]
   exact wpS_pure (h n st1 b1 b2 (Within.refl _ _ _) S)
  rw[if_neg (by simpa using z1)];have b3:=b3 (by omega);have start:∃ stA,stA=st1:=⟨_,rfl⟩
  by_cases z2:n > 1
  case' pos =>
   rw[if_pos z2];refine wpS_bind (X1 h0 hk (by omega) (by omega) ?_)
   dsimp only
   by_cases hc:K (arrOf st1) lo < K (arrOf st1) (lo+n - 1)
   ·rw[decide_eq_true hc,if_pos rfl]
    exact wpS_pure (h n st1 b1 b2 (Within.refl _ _ _) S)
   rw[decide_eq_false hc,if_neg (by decide)];refine wpS_bind (Wc (lo:=lo) (hi:=lo+nrem) (zJ _) (by omega) hn λst2 W KK=>?_);have eqs:∀ t,t < n->K (arrOf st1) (lo+t)=K (arrOf st1) (lo+n - 1):=λt ht=>by
    have e1:=S 0 t (by omega) ht;have e2:=S t (n - 1) (by omega) (by omega);rw[show lo+(n - 1)=lo+n - 1 by omega] at e2;rw[Z6] at e1;omega
   have same:∀ k,K (arrOf st2) k=K (arrOf st1) k:=λk=>by
    rw[KK k]
    split
    ·rename_i hh
     have e1:=eqs (lo+(lo+n) - 1 - k - lo) (by omega);have e2:=eqs (k - lo) (by omega);rw[show lo+(lo+(lo+n) - 1 - k - lo)=lo+(lo+n) - 1 - k by omega] at e1;rw[show lo+(k - lo)=k by omega] at e2;rw[e1,e2]
    ·rfl
   have eqs:∀ t,t < n->K (arrOf st2) (lo+t)=K (arrOf st2) (lo+n - 1):=λt ht=>by rw[same,same];exact eqs t ht
   have b3:K (arrOf st2) (lo+n) < K (arrOf st2) (lo+n - 1):=by rw[same,same];exact b3
  case' neg =>
   rw[if_neg z2];have W:Within lo (lo+nrem) st1 st1:=Within.refl _ _ _;have eqs:∀ t,t < n->K (arrOf st1) (lo+t)=K (arrOf st1) (lo+n - 1):=λt ht=>by rw[show lo+t=lo+n - 1 by omega]
   generalize hst2:st1=st2 at eqs b3 ⊢;have W:Within lo (lo+nrem) st1 st2:=by rw[<- hst2];exact Within.refl _ _ _
  all_goals
   clear start;refine wpS_bind (wpS_lift (wpAny_rule ⟨rfl,?_⟩));refine wpS_bind (wpS_mono (wpS_forRange
    (I:=λx c st'=>∃ q,c=(none,x,q)/\x <= nrem/\q+1 <= x/\Within lo (lo+nrem) st1 st'/\(∀ i j,i <= j->j < x->K (arrOf st') (lo+j) <= K (arrOf st') (lo+i))/\(∀ t,x - 1 - q <= t->t < x->K (arrOf st') (lo+t)=K (arrOf st') (lo+x - 1)))
    (Q:=λc st'=>∃ m q,c=(none,m,q)/\1 <= m/\m <= nrem/\q+1 <= m/\Within lo (lo+nrem) st1 st'/\(∀ i j,i <= j->j < m->K (arrOf st') (lo+j) <= K (arrOf st') (lo+i))/\(∀ t,m - 1 - q <= t->t < m->K (arrOf st') (lo+t)=K (arrOf st') (lo+m - 1))) ?_ ?_ ⟨0,rfl,by omega,by omega,W,λi j h2 h3=>?_,λt h2 h3=>by rw[show lo+t=lo+(n+1) - 1 by omega]⟩) ?_)
   ·rintro x c st3 hx1 hx ⟨q,rfl,c1,c2,W3,N3,E3⟩
    dsimp only
    have i3:=W3.ints h0;have k3:kindOf st3=oneType':=W3.kind.trans hk;have s3:=W3.size;refine wpS_bind (X1 i3 k3 (by omega) (by omega) ?_)
    dsimp only
    by_cases hc:K (arrOf st3) (lo+x) < K (arrOf st3) (lo+x - 1)
    ·rw[decide_eq_true hc,if_pos rfl]
     have N4:∀ i j,i <= j->j < x+1->K (arrOf st3) (lo+j) <= K (arrOf st3) (lo+i):=λi j h2 h3=>by
      by_cases z:j=x
      ·subst z
       by_cases z2:i=j
       ·rw[z2];exact yD _
       ·have:=N3 i (j - 1) (by omega) (by omega)
        rw[show lo+(j - 1)=lo+j - 1 by omega] at this;omega
      ·exact N3 i j h2 (by omega)
     by_cases zq:q > 0
     ·rw[if_pos zq]
      refine wpS_bind (Wc (lo:=lo) (hi:=lo+nrem) (by omega) (by omega) (by omega) λst4 W4 KK=>?_);have same:=keepK KK (λk h2 h3=>by
       have:=E3 (k - lo) (by omega) (by omega);rw[show lo+(k - lo)=k by omega] at this;exact this)
      refine wpS_pure ⟨0,rfl,by omega,by omega,W3.trans W4,λi j h2 h3=>by rw[same,same];exact N4 i j h2 h3,λt h2 h3=>by rw[show lo+t=lo+(x+1) - 1 by omega]⟩
     ·rw[if_neg zq]
      exact wpS_pure ⟨0,rfl,by omega,by omega,W3,N4,λt h2 h3=>by rw[show lo+t=lo+(x+1) - 1 by omega]⟩
    ·rw[decide_eq_false hc,if_neg (by decide)]
     refine wpS_bind (X1 i3 k3 (by omega) (by omega) ?_)
     dsimp only
     by_cases hd:K (arrOf st3) (lo+x - 1) < K (arrOf st3) (lo+x)
     ·rw[decide_eq_true hd,if_pos rfl]
      exact wpS_pure ⟨x,q,rfl,by omega,c1,c2,W3,N3,E3⟩
     ·rw[decide_eq_false hd,if_neg (by decide)]
      have eq:K (arrOf st3) (lo+x)=K (arrOf st3) (lo+x - 1):=by omega
      refine wpS_pure ⟨q+1,rfl,by omega,by omega,W3,λi j h2 h3=>?_,λt h2 h3=>?_⟩
      ·by_cases z:j=x
       ·subst z
        by_cases z2:i=j
        ·rw[z2];exact yD _
        ·have:=N3 i (j - 1) (by omega) (by omega)
         rw[show lo+(j - 1)=lo+j - 1 by omega] at this;omega
       ·exact N3 i j h2 (by omega)
      ·rw[show lo+(x+1) - 1=lo+x by omega,eq]
       by_cases z:t=x
       ·rw[z,eq]
       ·exact E3 t (by omega) (by omega)
   ·rintro c st3 ⟨q,rfl,c1,c2,W3,N3,E3⟩
    exact⟨_,q,rfl,by omega,c1,c2,W3,N3,E3⟩
   ·by_cases z:j=n
    ·subst z
     by_cases z2:i=j
     ·rw[z2];exact yD _
     ·have:=eqs i (by omega)
      omega
    ·have e1:=eqs i (by omega)
     have e2:=eqs j (by omega);omega
   ·rintro c st3 ⟨m,q,rfl,c0,c1,c2,W3,N3,E3⟩
    dsimp only
    have s3:=W3.size;have start:∃ stA,stA=st3:=⟨_,rfl⟩
    by_cases zq:q > 0
    case' pos =>
     rw[if_pos zq];refine wpS_bind (Wc (lo:=lo) (hi:=lo+nrem) (by omega) (by omega) (by omega) λst4 W4 KK=>?_);have same:=keepK KK (λk h2 h3=>by
      have:=E3 (k - lo) (by omega) (by omega);rw[show lo+(k - lo)=k by omega] at this;exact this)
     have N4:∀ i j,i <= j->j < m->K (arrOf st4) (lo+j) <= K (arrOf st4) (lo+i):=λi j h2 h3=>by rw[same,same];exact N3 i j h2 h3
     replace W4:=W3.trans W4
    case' neg =>
     rw[if_neg zq];have N4:=N3;have W4:=W3;generalize hst4:st3=st4 at N4 W4 ⊢
    all_goals
     have s4:=W4.size;refine wpS_bind (Wc (lo:=lo) (hi:=lo+nrem) (by omega) (by omega) (by omega) λst5 W5 KK5=>?_);replace W5:=W4.trans W5;have s5:=W5.size;have i5:=W5.ints h0;have k5:kindOf st5=oneType':=W5.kind.trans hk;have S5:SrK (arrOf st5) lo m:=λi j h2 h3=>by
      rw[KK5 (lo+i),KK5 (lo+j),if_pos (by omega),if_pos (by omega),show lo+(lo+m) - 1 - (lo+i)=lo+(m - 1 - i) by omega,show lo+(lo+m) - 1 - (lo+j)=lo+(m - 1 - j) by omega];exact N4 (m - 1 - j) (m - 1 - i) (by omega) (by omega)
     refine wpS_bind (wpS_mono (wpS_forRange
      (I:=λx c st'=>st'=st5/\c=(none,x)/\x <= nrem/\SrK (arrOf st5) lo x)
      (Q:=λc st'=>st'=st5/\∃ n,c=(none,n)/\1 <= n/\n <= nrem/\SrK (arrOf st5) lo n) ?_ ?_ ⟨rfl,rfl,c1,S5⟩) ?_)
     ·rintro x c st6 hx1 hx ⟨rfl,rfl,d1,S6⟩
      dsimp only
      refine wpS_bind (X1 i5 k5 (by omega) (by omega) ?_)
      dsimp only
      by_cases hc:K (arrOf st6) (lo+x) < K (arrOf st6) (lo+x - 1)
      ·rw[decide_eq_true hc,if_pos rfl]
       exact wpS_pure ⟨rfl,x,rfl,by omega,d1,S6⟩
      ·rw[decide_eq_false hc,if_neg (by decide)]
       refine wpS_pure ⟨rfl,rfl,by omega,λi j h2 h3=>?_⟩
       by_cases z:j=x
       ·subst z
        by_cases z2:i=j
        ·rw[z2];exact yD _
        ·have:=S6 i (j - 1) (by omega) (by omega)
         rw[show lo+(j - 1)=lo+j - 1 by omega] at this;omega
       ·exact S6 i j h2 (by omega)
     ·rintro c st6 ⟨rfl,rfl,d1,S6⟩
      exact⟨rfl,_,rfl,by omega,d1,S6⟩
     ·rintro c st6 ⟨rfl,n',rfl,d0,d1,S6⟩
      exact wpS_pure (h n' st6 d0 d1 W5 S6)
end
end So
set_option maxHeartbeats 2000000
namespace So
open PySem PyProof.Rows
def Xe:Nat->List (Nat×Nat×Nat)->List (List Keyed)->Prop
 | _,[],[]=>True
 | s,p::r,X::Xs=>p.1=s/\p.2.1=X.length/\1 <= X.length/\Srt X/\Xe (s+X.length) r Xs
 | _,_,_=>False
theorem Wb:∀ {s:Nat} {ps:List (Nat×Nat×Nat)} {Xs:List (List Keyed)},Xe s ps Xs->ps.length=Xs.length
 | _,[],[],_=>rfl
 | _,_::_,_::_,h=>by rw[zL,zL,Wb h.2.2.2.2]
 | _,[],_::_,h=>h.elim
 | _,_::_,[],h=>h.elim
theorem zBF:∀ (i s:Nat) (ps:List (Nat×Nat×Nat)) (Xs:List (List Keyed)),Xe s ps Xs->i+1 < ps.length->∃ Pre X Y zAj pw pw2,Xs=Pre++X::Y::zAj/\ps[i]?=some (s+Pre.flatten.length,X.length,pw)/\ps[i+1]?=some (s+Pre.flatten.length+X.length,Y.length,pw2)/\1 <= X.length/\1 <= Y.length/\Srt X/\Srt Y /\
  ∀ R:List Keyed,R.length=X.length+Y.length->Srt R->Xe s ((ps.set i (s+Pre.flatten.length,X.length+Y.length,pw)).eraseIdx (i+1)) (Pre++R::zAj)
 | 0,s,ps,Xs,h,hl=>by
  match ps,Xs,h,hl with
  | p::q::r,X::Y::Xs,⟨h1,h2,h3,h4,h5,h6,h7,h8,h9⟩,_ =>
   refine⟨[],X,Y,Xs,p.2.2,q.2.2,rfl,?_,?_,h3,h7,h4,h8,λR hR sR=>?_⟩
   ·show some p=_
    rw[<- h2];exact congrArg some (Prod.ext h1 rfl)
   ·show some q=_
    rw[<- h6];exact congrArg some (Prod.ext h5 rfl)
   ·refine⟨rfl,hR.symm,by omega,sR,?_⟩
    rw[hR,<- wO];exact h9
 | i+1,s,ps,Xs,h,hl=>by
  match ps,Xs,h,hl with
  | p::r,X0::Xs,⟨h1,h2,h3,h4,h5⟩,hl =>
   obtain⟨Pre,X,Y,zAj,pw,pw2,e,g1,g2,g3,g4,g5,g6,g7⟩:=zBF i (s+X0.length) r Xs h5 (by simpa using hl);refine⟨X0::Pre,X,Y,zAj,pw,pw2,by rw[e];rfl,?_,?_,g3,g4,g5,g6,λR hR sR=>?_⟩
   ·show r[i]?=_
    rw[g1,yC,zC,<- wO]
   ·show r[i+1]?=_
    rw[g2,yC,zC,<- wO s]
   ·have:=g7 R hR sR
    rw[yC,zC,<- wO];exact⟨h1,h2,h3,h4,this⟩
theorem Wu:∀ {s:Nat} {ps:List (Nat×Nat×Nat)} {Xs:List (List Keyed)} {X:List Keyed} {pw:Nat},Xe s ps Xs->1 <= X.length->Srt X->Xe s (ps++[(s+Xs.flatten.length,X.length,pw)]) (Xs++[X])
 | s,[],[],X,pw,_,h1,h2=>⟨rfl,rfl,h1,h2,trivial⟩
 | s,p::r,X0::Xs,X,pw,⟨g1,g2,g3,g4,g5⟩,h1,h2=>by
  refine⟨g1,g2,g3,g4,?_⟩;have:=Wu (pw:=pw) g5 h1 h2;rw[yC,zC,<- wO];exact this
theorem zAJ:∀ {s:Nat} {ps ps':List (Nat×Nat×Nat)} {Xs:List (List Keyed)},Xe s ps Xs->ps'.map (λp=>(p.1,p.2.1))=ps.map (λp=>(p.1,p.2.1))->Xe s ps' Xs
 | s,[],[],[],_,_=>trivial
 | s,p::r,p'::r',X::Xs,⟨h1,h2,h3,h4,h5⟩,e=>by
  rw[zg,zg] at e;obtain⟨e1,e2⟩:=Zg e;obtain⟨f1,f2⟩:=Prod.mk.inj e1;exact⟨f1.trans h1,f2.trans h2,h3,h4,zAJ h5 e2⟩
 | s,p::r,[],_,_,e=>by cases e
 | s,[],p::r,_,_,e=>by cases e
 | s,p::r,p'::r',[],h,_=>h.elim
structure IV (a₀:Array Keyed) (st:SortSt) (lo:Nat) (S:List Keyed):Prop where
 kind:kindOf st=oneType'
 fail:failedOf st=none
 perm:(arrOf st).Perm a₀
 runs:∃ Xs,(arrOf st).toList=Xs.flatten++S/\Xe 0 (pendingOf st).toList Xs/\Xs.flatten.length=lo
section
variable {prog:Program} {w:World} {A:Around} {E:Value->Shared->Prop} {s:Shared}
theorem IV.ints{a₀:Array Keyed}{st:SortSt}{lo:Nat}{S:List Keyed}(h:IV a₀ st lo S)(h0:IntKeys a₀):IntKeys (arrOf st):=λp hp=>h0 p ((xo.mp h.perm).mem_iff.mp hp)
theorem Xx{a₀:Array Keyed}{st:SortSt}{lo i:Nat}{S:List Keyed}{Q:Bool->SortSt->Prop}(h0:IntKeys a₀)(V:IV a₀ st lo S)(hi:i+1 < (pendingOf st).size)(h:∀ st',IV a₀ st' lo S->(pendingOf st').size+1=(pendingOf st).size->Q true st'):wpS (model prog w) A E s (mergeAt' i) Q st:=by
 obtain⟨Xs,e1,e2,e3⟩:=V.runs;obtain⟨Pre,X,Y,zAj,pw,pw2,rfl,g1,g2,g3,g4,g5,g6,g7⟩:=zBF i 0 _ _ e2 (by simpa using hi);rw[y8] at g1 g2 g7;rw[zZ] at g1 g2;have hl:(arrOf st).toList=Pre.flatten++X++Y++(zAj.flatten++S):=by
  rw[e1];simp
 refine zAG (V.ints h0) V.kind V.fail g1 g2 hl rfl rfl rfl rfl g3 g4 g5 g6 λst' R k1 k2 k3 k4 k5 k6=>?_;have lR:R.length=X.length+Y.length:=by rw[k5.length_eq,zC]
 refine h st' ⟨k1,k2,?_,Pre++R::zAj,?_,?_,?_⟩ ?_
 ·refine Array.Perm.trans ?_ V.perm
  rw[xo,k4,hl];have:Pre.flatten++X++Y++(zAj.flatten++S)=Pre.flatten++(X++Y)++(zAj.flatten++S):=by simp
  rw[this];exact yu _ (yH _ k5)
 ·rw[k4];simp
 ·rw[k3]
  have:=g7 R lR k6;rw[wK,wd];exact this
 ·rw[<- e3];simp[lR];omega
 ·rw[k3]
  have hi':i+1 < ((pendingOf st).setIfInBounds i (Pre.flatten.length,X.length+Y.length,pw)).size:=by simpa using hi
  rw[<- zM,wK,List.length_eraseIdx];rw[if_pos (by simpa using hi)];simp;omega
end
end So
set_option maxHeartbeats 2000000
namespace So
open PySem PyProof.Rows
theorem WZ{α β:Type}{g:α->β}{f:α->α}(h:∀ x,g (f x)=g x):∀ (l:List α) (i:Nat),(l.modify i f).map g=l.map g
 | [],i=>by simp
 | x::l,0=>by simp[h]
 | x::l,i+1=>by simp[WZ h l i]
theorem Ww:∀ {s:Nat} {ps:List (Nat×Nat×Nat)} {Xs:List (List Keyed)},Xe s ps Xs->Xs.length <= Xs.flatten.length
 | _,[],[],_=>zJ _
 | _,_::_,X::Xs,h=>by
  have:=Ww h.2.2.2.2;have:=h.2.2.1;rw[zL,yC,zC];omega
theorem IV.push{a₀:Array Keyed}{st:SortSt}{lo m:Nat}{X S:List Keyed}(V:IV a₀ st lo (X++S))(lX:X.length=m)(h1:1 <= m)(sX:Srt X):IV a₀ (setPending st ((pendingOf st).push (lo,m,0))) (lo+m) S:=by
 obtain⟨Xs,e1,e2,e3⟩:=V.runs;refine⟨V.kind,V.fail,V.perm,Xs++[X],?_,?_,?_⟩
 ·show (arrOf st).toList=_
  rw[e1];simp
 ·show Xe 0 ((pendingOf st).push (lo,m,0)).toList _
  have:=Wu (pw:=0) e2 (by omega:1 <= X.length) sX;rw[y8,e3,lX] at this;rw[wm];exact this
 ·rw[List.flatten_append,zC,e3];simp[lX]
theorem IV.pow{a₀:Array Keyed}{st:SortSt}{lo i pw:Nat}{S:List Keyed}(V:IV a₀ st lo S):IV a₀ (setPending st ((pendingOf st).modify i λx=>(x.fst,x.2.fst,pw))) lo S:=by
 obtain⟨Xs,e1,e2,e3⟩:=V.runs;refine⟨V.kind,V.fail,V.perm,Xs,e1,?_,e3⟩;show Xe 0 ((pendingOf st).modify i λx=>(x.fst,x.2.fst,pw)).toList _;refine zAJ e2 ?_;rw[Array.toList_modify];exact WZ (g:=λp:Nat×Nat×Nat=>(p.1,p.2.1)) (f:=λx=>(x.1,x.2.1,pw)) (λ_=>rfl) _ _
theorem Within.wider{lo hi hi':Nat}{a b:SortSt}(h:Within lo hi a b)(hh:hi <= hi'):Within lo hi' a b:=⟨h.kind,h.pend,h.fail,h.perm,λt ht=>h.out t (by omega)⟩
section
variable {prog:Program} {w:World} {A:Around} {E:Value->Shared->Prop} {s:Shared}
theorem W6{a₀:Array Keyed}{st:SortSt}{Q:Unit->SortSt->Prop}(h0:IntKeys a₀)(hB:SBase a₀ st)
  (h:∀ st',(arrOf st').Perm a₀->failedOf st'=none->SortedTo (arrOf st') a₀.size->Q () st'):wpS (model prog w) A E s sortRuns' Q st:=by
 rw[sortRuns'_eq];refine wpS_bind (wpS_get ?_);have hsz:=hB.size
 dsimp only
 simp only[hsz];have V0:IV a₀ st 0 (arrOf st).toList:=⟨hB.kind,hB.failed,hB.perm,[],rfl,by rw[hB.pend];trivial,rfl⟩;refine wpS_bind (wpS_mono (wpS_forRange
  (I:=λx c st'=>∃ lo S,c=(none,lo)/\IV a₀ st' lo S/\lo <= a₀.size/\(x <= lo\/lo=a₀.size))
  (Q:=λc st'=>c=(none,a₀.size)/\∃ S,IV a₀ st' a₀.size S) ?_ ?_ ⟨0,_,rfl,V0,zz _,.inl (zJ _)⟩) ?_)
 ·rintro x c st1 _ hx ⟨lo,S,rfl,V,b1,b2⟩
  dsimp only
  have hsz1:(arrOf st1).size=a₀.size:=V.perm.size_eq
  by_cases z:lo >= a₀.size
  ·rw[if_pos z]
   have:lo=a₀.size:=by omega
   subst this;exact wpS_pure ⟨rfl,S,V⟩
  rw[if_neg z];have i1:=V.ints h0;refine wpS_bind (zCF i1 V.kind (by omega) (by omega) λn st2 n1 n2 W Sr=>?_)
  dsimp only
  have key:∀ (m:Nat) (st3:SortSt),1 <= m->m <= a₀.size - lo->Within lo (lo+(a₀.size - lo)) st1 st3->SrK (arrOf st3) lo m->∃ X S',IV a₀ st3 lo (X++S')/\X.length=m/\Srt X:=λm st3 m1 m2 W3 S3=>by
   obtain⟨Xs,e1,e2,e3⟩:=V.runs;have sz3:(arrOf st3).size=a₀.size:=W3.size.trans hsz1;have tk:(arrOf st3).toList.take lo=Xs.flatten:=by
    have:(arrOf st3).toList.take lo=(arrOf st1).toList.take lo:=by
     apply yt;intro t
     by_cases ht:t < lo
     ·rw[xx ht,xx ht,zZ,zZ]
      exact W3.out t (.inl ht)
     ·rw[we (by omega),we (by omega)]
    rw[this,e1,<- e3,YX]
   refine⟨((arrOf st3).toList.drop lo).take m,((arrOf st3).toList.drop lo).drop m,⟨W3.kind.trans V.kind,W3.fail.trans V.fail,W3.perm.trans V.perm,Xs,?_,?_,e3⟩,?_,?_⟩
   ·rw[z0,<- tk,z0]
   ·rw[W3.pend];exact e2
   ·rw[zd,yE,zM];omega
   ·rw[Srt,yL]
    intro i j hi hj hij;rw[zd,yE,zM] at hj;have:=S3 i j (by omega) (by omega);have q1:(arrOf st3)[lo+i]?=some (arrOf st3)[lo+i]:=getElem?_pos _ _ (by omega);have q2:(arrOf st3)[lo+j]?=some (arrOf st3)[lo+j]:=getElem?_pos _ _ (by omega);rw[zBK q1,zBK q2] at this;rw[xE,xE,xa,xa];exact this
  have sz2:=W.size
  by_cases zm:n < minRun' a₀.size a₀.size 0
  case' pos =>
   rw[if_pos zm];refine wpS_bind (wpS_lift (wpAny_rule ⟨rfl,?_⟩));refine wpS_bind (zAb (W.ints i1) (W.kind.trans V.kind) (by omega) (by omega) Sr λst3 W3 S3=>?_);rw[if_neg (by decide)];have f1:1 <= min (a₀.size - lo) (minRun' a₀.size a₀.size 0):=by omega
   have f2:min (a₀.size - lo) (minRun' a₀.size a₀.size 0) <= a₀.size - lo:=by omega
   have W4:=W.trans (W3.wider (by omega:lo+min (a₀.size - lo) (minRun' a₀.size a₀.size 0) <= lo+(a₀.size - lo)));generalize min (a₀.size - lo) (minRun' a₀.size a₀.size 0)=m at f1 f2 S3 ⊢;obtain⟨X,S',V3,lX,sX⟩:=key m st3 f1 f2 W4 S3
  case' neg =>
   rw[if_neg zm];obtain⟨X,S',V3,lX,sX⟩:=key n st2 n1 n2 W Sr;have f1:=n1;have f2:=n2;generalize hm:n=m at lX f1 f2 ⊢;generalize hst3:st2=st3 at V3 ⊢
  all_goals
   refine wpS_bind (wpS_get ?_);cases hb:(pendingOf st3).back? with
   | none =>
    dsimp only
    exact wpS_bind (wpS_modify (wpS_pure ⟨lo+m,S',rfl,V3.push lX f1 sX,by omega,.inl (by omega)⟩))
   | some p =>
    obtain⟨s1,n1',pp⟩:=p
    dsimp only
    refine wpS_bind (wpS_mono (wpS_forRange (I:=λy c st'=>c=(none,())/\IV a₀ st' lo (X++S')) (Q:=λc st'=>c=(none,())/\IV a₀ st' lo (X++S')) ?_ (λ_ _ hh=>hh) ⟨rfl,V3⟩) ?_)
    ·rintro y c st4 _ _ ⟨rfl,V4⟩
     refine wpS_bind (wpS_get ?_)
     by_cases zp:(pendingOf st4).size > 1
     ·rw[if_pos zp,getElem?_pos (pendingOf st4) ((pendingOf st4).size - 2) (by omega)]
      generalize (pendingOf st4)[(pendingOf st4).size - 2]=row;obtain⟨r1,r2,r3⟩:=row
      dsimp only
      split
      ·exact wpS_pure ⟨rfl,V4⟩
      ·refine wpS_bind (Xx h0 V4 (by omega) λst5 V5 _=>?_)
       rw[if_neg (by decide)];exact wpS_pure ⟨rfl,V5⟩
     ·rw[if_neg zp]
      exact wpS_pure ⟨rfl,V4⟩
    ·rintro c st4 ⟨rfl,V4⟩
     dsimp only
     exact wpS_bind (wpS_modify (wpS_bind (wpS_modify (wpS_pure ⟨lo+m,S',rfl,V4.pow.push lX f1 sX,by omega,.inl (by omega)⟩))))
 ·rintro c st1 ⟨lo,S,rfl,V,b1,b2⟩
  have:lo=a₀.size:=by omega
  subst this;exact⟨rfl,S,V⟩
 ·rintro c st1 ⟨rfl,S,V⟩
  dsimp only
  have hsz1:(arrOf st1).size=a₀.size:=V.perm.size_eq;have many:∀ st' S',IV a₀ st' a₀.size S'->(pendingOf st').size <= a₀.size:=λst' S' V'=>by
   obtain⟨Xs,e1,e2,e3⟩:=V'.runs;have l1:=Wb e2;have l2:=Ww e2;rw[zM] at l1;omega
  have m1:=many st1 S V;refine wpS_bind (wpS_mono (wpS_forRange
   (I:=λx c st'=>c=(none,())/\IV a₀ st' a₀.size S/\((pendingOf st').size <= 1\/(pendingOf st').size+x <= (pendingOf st1).size))
   (Q:=λc st'=>c=(none,())/\IV a₀ st' a₀.size S/\(pendingOf st').size <= 1) ?_ ?_ ⟨rfl,V,.inr (by omega)⟩) ?_)
  ·rintro x c st2 _ _ ⟨rfl,V2,b⟩
   refine wpS_bind (wpS_get ?_)
   by_cases z:(pendingOf st2).size <= 1
   ·rw[if_pos z]
    exact wpS_pure ⟨rfl,V2,z⟩
   rw[if_neg z];have hx:∀ c:Bool,(if c=true then (pendingOf st2).size - 2 - 1 else (pendingOf st2).size - 2)+1 < (pendingOf st2).size:=λc=>by cases c <;> simp <;> omega
   refine wpS_bind (Xx h0 V2 (hx _) λst3 V3 hs=>?_);rw[if_neg (by decide)];exact wpS_pure ⟨rfl,V3,.inr (by omega)⟩
  ·rintro c st2 ⟨rfl,V2,b⟩
   exact⟨rfl,V2,by omega⟩
  ·rintro c st2 ⟨rfl,V2,b⟩
   dsimp only
   refine wpS_pure (h st2 V2.perm V2.fail ?_);obtain⟨Xs,e1,e2,e3⟩:=V2.runs;have sz2:(arrOf st2).size=a₀.size:=V2.perm.size_eq;have hS:S=[]:=by
    have:=congrArg xX e1;rw[zC,zM,e3,sz2] at this;exact ZC.mp (by omega)
   have hl:=Wb e2;rw[zM] at hl;have st:Srt (arrOf st2).toList:=by
    rw[e1,hS,zr]
    match Xs,e2,hl with
    | [],_,_=>exact xD
    | [X],e2,_ =>
     rw[yC,List.flatten_nil,zr]
     match hp:(pendingOf st2).toList,e2 with
     | p::r,e2=>exact e2.2.2.2.1
    | X::Y::Z,_,hl=>rw[zL,zL] at hl;omega
   exact λi j h1 h2=>zAy st h1 (by omega)
end
end So
set_option maxHeartbeats 2000000
namespace So
open PySem PyProof.Rows
section
variable {prog:Program} {w:World} {A:Around} {E:Value->Shared->Prop} {s:Shared}
theorem zBh{a:Addr}{xs:List Value}{is:List Int}{k:Nat}{P:Fin->Shared->Prop}(at_:s.heap.get? a=some (seqObj "list" xs.toArray k))(hin:IntsAre xs is)(big:2 <= xs.length)(fits:xs.length <= 1000000)
  (h:∀ (o:Array Value) (js:List Int),IntsAre o.toList js->js.Perm is->js.Pairwise (· <= ·)->P (.done (.ret .none)) { s with heap:=sortedHeap s.heap a xs o }):wpAny (model prog w) A (Builtin.«list.sort» ⟨[.ref a],[]⟩) P E s:=by
 have la:=zO at_;have empty:=get?_update_seq at_ (λ_=>(#[]:Array Value));rw[list_sort_plain];refine wpAny_bind (listItems_at at_ rfl (wpAny_bind (listUpdate_at at_ rfl ?_)));refine wpAny_bind (seqEpoch_at empty rfl (wpAny_bind (wpAny_newTuple (wpAny_bind (wpAny_newList (wpAny_holding ?_))))));have still:(((s.heap.update a (Obj.mapSeq λ_=>#[])).push (seqObj "tuple" xs.toArray 0)).push (seqObj "list" #[] 0)).get? a=some _:=zE _ (zE _ empty)
 change wpAny (model prog w) A _ P E (Shared.mk (((s.heap.update a (Obj.mapSeq λ_=>#[])).push (seqObj "tuple" xs.toArray 0)).push (seqObj "list" #[] 0)) _ _ _ _)
 have many:¬xs.toArray.size < 2:=by rw[zP];omega
 dsimp only
 rw[if_neg many,if_neg many];have kk:keyKind' xs.toArray=pure oneType':=by
  match xs,big,hin with
  | _::_::_,_,hin=>exact keyKind_ints hin
 rw[kk];refine wpAny_bind (wpAny_pure ?_);have base:SBase (pairsOf xs) (SortSt.mk' oneType' (xs.toArray.zip xs.toArray) #[] 7 none):=⟨ZR _,rfl,rfl,rfl⟩;refine wpAny_bind (wpAny_mono (W6 (Q:=λ_ t=>(arrOf t).Perm (pairsOf xs)/\failedOf t=none/\SortedTo (arrOf t) (pairsOf xs).size) hin.intKeys base λt q1 q2 q3=>⟨q1,q2,q3⟩) (λr s3 hr=>?_) λ_ _ z=>z);obtain⟨⟨⟩,t⟩:=r;obtain⟨rfl,q1,q2,q3⟩:=hr
 dsimp only
 obtain⟨js,c1,c2,c3⟩:=sorted_out hin q1 q3;have lt:((arrOf t).map (·.2)).size <= sizeLine:=by
  rw[YW,q1.size_eq,pairsOf_size,sizeLine_eq];omega
 refine wpAny_bind (seqEpoch_at still rfl (wpAny_bind (listUpdate_at still rfl ?_ (hsz2:=wI lt))));rw[q2];simp only[bne_self_eq_false,zy,if_false];exact wpAny_pure (h _ js c1 c2 c3)
theorem sorted_any{l:Addr}{xs:List Value}{is:List Int}{Q:Value->Shared->Prop}(isl:s.heap.IsList l xs.toArray)(hin:IntsAre xs is)(fits:xs.length <= 1000000)
  (h:∀ (o:Array Value) (js:List Int),IntsAre o.toList js->js.Perm is->js.Pairwise (· <= ·)->Q (.ref (s.heap.objs.size+1)) { s with heap:=sortedAll s.heap xs o }):wpAny (model prog w) A (call (.builtin "sorted") [.ref l]) Q E s:=by
 by_cases few:xs.length < 64
 ·exact sorted_ints isl hin few h
 refine Calls.call_function_entry kind_sorted plain_sorted entry_sorted (args_sorted1 (.ref l)) ?_;unfold Builtin.«sorted»;refine wpAny_bind (m:=checkCount "sorted" 1 1 _) (wpAny_pure (wpAny_bind (collect_list isl ?_ (by rw[sizeLine_eq];omega))));have many:((s.heap.push (seqObj "list" #[] 0)).update s.heap.objs.size (Obj.mapSeq (·++xs.toArray))).objs.size=s.heap.objs.size+1:=(xJ _ _ _).trans (size_push' _ _);refine wpAny_bind (wpAny_newList ?_);generalize hh:(s.heap.push (seqObj "list" #[] 0)).update s.heap.objs.size (Obj.mapSeq (·++xs.toArray))=h2 at many ⊢;have here:(h2.push (seqObj "list" xs.toArray 0)).get? (s.heap.objs.size+1)=some (seqObj "list" xs.toArray 0):=by
  have:=zR h2 (o:=seqObj "list" xs.toArray 0) rfl
  rwa [many] at this
 change wpAny _ _ _ _ _ (Shared.mk (h2.push (seqObj "list" xs.toArray 0)) _ _ _ _)
 rw[many];refine wpAny_bind (wpAny_holding (wpAny_call_entry slot_list_sort ⟨_,here,rfl⟩ entry_list_sort ?_ (args_list_sort _)));refine zBh here hin (by omega) fits λo js c1 c2 c3=>?_;refine⟨_,rfl,wpAny_pure ⟨_,rfl,?_⟩⟩;subst hh;exact h o js c1 c2 c3
end
end So
namespace Hk
open PySem L2
def rSortB:List V->Hp->VK->Prop:=λxs H Q=>∃ p ns,xs=[.ref p]/\H p=some (.lst (ns.map V.int))/\ns.length <= 1000000/\∀ l,H l=none->Q (.ref l) (upd H l (.lst ((Yt ns).map V.int)))
noncomputable def zBy:D->Option R
 | .lst ds=>(intsOf ds).bind λns=>if ns.length <= 1000000 then some (.fr ((Yt ns).map D.int)) else none
 | _=>none
noncomputable def zAY(f:FD):FE:=λω=>(f ω).bind zBy
section
variable {X:Cx}
theorem qa0:Xl X (.builtin "sorted") rSortB:=by
 intro pins s σ H xs us Q I r h;obtain⟨p,ns,rfl,hp,hz,q⟩:=h;obtain⟨u,rfl,rx⟩:=vals1 r;cases rx;obtain⟨its,n,rv,e,_⟩:=I.lst hp;have hlen:its.length=ns.length:=by rw[<- rv.length,zB]
 refine So.sorted_any ⟨_,e,rfl,n,rfl⟩ (q2s rv) (by omega) λout ns' a1 a2 a3=>?_;obtain⟨m,hm⟩:=PyProof.Rows.sortedAll_at s.heap its out;have en:ns'=Yt ns:=q0N a3 q0m (a2.trans qq.symm);subst en;have hsl:(Yt ns).length <= sizeLine:=by rw[q3e,sizeLine_eq];omega
 have I2:=I.laid (a:=s.heap.objs.size+1) (o:=.lst ((Yt ns).map V.int)) (t':=s.toks) (λb o e=>PyProof.Rows.sortedAll_old e) (xA _)
  (show Y3 X.prog X.w _ (PyProof.Rows.sortedAll s.heap its out) _ (.lst _) from ⟨by rw[zB];exact hsl,out.toList,m,q0F a1,by rw[xb];exact hm⟩)
 exact⟨.ref _,_,I2,rfl,q _ (I.hok.fresh (xA _))⟩
theorem q7R{a:Expr}{f:FD}{p q:Pos}(hg:Gl X "sorted")(hm:X.mg "sorted" = none)(ha:XV X a f)
  (he:starEach [a] X.env=(false,eval a X.env)::starEach [] X.env:=by rfl) (hpl:(backTo q (starEach [] X.env)).any (·.1)=false:=by rfl):XE X (.Call (.Name "sorted" p) [a] [] q) (zAY f):=by
 obtain⟨t,h1,h2⟩:=ha;refine⟨_,q1b qa0 hg hm q1i (qr h1 qo he) (by decide) (by decide) he hpl,λG0 H0 G ω σ H r Q o e k=>?_⟩;obtain⟨d,z,e⟩:=bnd e;refine h2 G0 H0 G ω σ H d _ o z λv G1 H1 x1 y1=>?_;cases d with
 | lst ds =>
  obtain⟨ns,e1,e2⟩:=bnd (show (intsOf ds).bind _=some r from e);have hds:=q0G e1;subst hds
  by_cases hz:ns.length <= 1000000
  ·rw[if_pos hz] at e2
   cases e2;obtain⟨p,vs,rfl,g1,g2⟩:=y1.lst x1.gh;have hv:=g2.of_ints;subst hv;refine⟨p,ns,rfl,g1,hz,λl hl=>?_⟩;have x2:=Ext.hide x1.gh hl (.lst ((Yt ns).map V.int));exact k _ G1 _ (x1.trans x2) ⟨l,_,rfl,x1.hh.free hl,x1.gh.free hl,qd,Yo.ints _⟩
  ·rw[if_neg hz] at e2;cases e2
 | _=>cases e
noncomputable def zBw(o:Option D):Option R:=o.bind zBy
theorem q4i{fd:FD}{ω:WSt}:zAY fd ω=zBw (fd ω):=rfl
theorem q4E{ns:List Int}(h:ns.length <= 1000000):zBw (some (.lst (ns.map D.int)))=some (.fr ((Yt ns).map D.int)):=by
 show (intsOf (ns.map D.int)).bind _=_;rw[q0o];exact if_pos h
end
end Hk
set_option maxHeartbeats 4000000
namespace Kx
open PySem L2 Hk
def top(i:Nat):Stmt:=PySem.Challenge.pw_hookrail_k35_empty_ways_over_each_gap.main.body.getD i (.Pass ⟨0,0,0,0⟩)
section
variable {P:Program} {w:World} {K:zA} {mg:Str->Option Value} {base:Heap} {f:Addr} {fd:FuncData}
noncomputable def q4C:FS:=(Xi (eOf (zB1 (dOf (zCN .int (vOf (Yh 0)))) (vNot (dOf (zCN .bl (vOf (Yh 0))))))))
noncomputable def qR:List D->Option O:=mir 1 q4C
abbrev q2p:Stmt:=top 5
theorem q9A:FnScope ["thing"] ["thing"] (Yj q2p):=⟨rfl,rfl,rfl,by decide +kernel,rfl,by decide +kernel,by decide +kernel⟩
theorem q8c 
  (F:Fun K "is_whole" "is_whole" q2p f fd)
  (z_isinstance:mg "isinstance" = none)
  (z_bool:mg "bool" = none)
  (z_int:mg "int" = none)
  (i_int:IsT K .int)
  (i_bool:IsT K .bl) :
  FnOk P w K mg base CX0 1 f fd ["thing"] (spD K 1 qR):=by
 have h:=fnD (P:=P) (w:=w) (mg:=mg) (base:=base) (k:=0) (body:=q4C) F q9A (λcdv A outer s H E hr =>
   (qe (qj (XD.toE (q2Y (XE.toD (q4G (vV 0) i_int rfl z_isinstance rfl z_int qay)) (q7I (qf6 (XE.toD (q4G (vV 0) i_bool rfl z_isinstance rfl z_bool qdK)))))))))
 exact h
noncomputable def q3L:FS:=(Xi (eOf (zB1 (dOf (zCN .tup (vOf (Yh 0)))) (zB1 (dOf (Yn (oEq false) (vOf (X5 Wp (Yf (vOf (Yh 0)) Ys))) (fC (.int 2)))) (zB1 (dOf (Yu qR (Yf (dOf (Yn oIx (vOf (Yh 0)) (fC (.int 0)))) Ys))) (dOf (Yu qR (Yf (dOf (Yn oIx (vOf (Yh 0)) (fC (.int 1)))) Ys))))))))
noncomputable def q1V:List D->Option O:=mir 1 q3L
abbrev q3Q:Stmt:=top 6
theorem qcc:FnScope ["thing"] ["thing"] (Yj q3Q):=⟨rfl,rfl,rfl,by decide +kernel,rfl,by decide +kernel,by decide +kernel⟩
theorem qbp{f_is_whole:Addr}{d_is_whole:FuncData}
  (F:Fun K "is_box" "is_box" q3Q f fd)
  (c_is_whole:Cal P w K mg base 1 f_is_whole d_is_whole "is_whole" ["thing"] 1 qR)
  (z_len:mg "len" = none)
  (z_isinstance:mg "isinstance" = none)
  (z_tuple:mg "tuple" = none)
  (i_tuple:IsT K .tup) :
  FnOk P w K mg base CX0 2 f fd ["thing"] (spD K 1 q1V):=by
 have h:=fnD (P:=P) (w:=w) (mg:=mg) (base:=base) (k:=1) (body:=q3L) F qcc (λcdv A outer s H E hr =>
   (qe (qj (XD.toE (q2Y (XE.toD (q4G (vV 0) i_tuple rfl z_isinstance rfl z_tuple qd6)) (q2Y (XE.toD (xe_eq hr.units (XE.toV (qB qm q01 rfl z_len q04 (qi (vV 0) qp))) (XD.toV Yg))) (q2Y (XE.toD (xc c_is_whole hr (Ye (XE.toD (Yk (vV 0) (XD.toV Yg))) Yl))) (q7I (XE.toD (xc c_is_whole hr (Ye (XE.toD (Yk (vV 0) (XD.toV Yg))) Yl)))))))))))
 exact h
noncomputable def q36:FD:=(dOf (Yu q1V (Yf (dOf (Yh 0)) Ys)))
noncomputable def q25:FS:=(Y5 (sIf (zBo (zAB (zBU (vOf (Yu qR (Yf (dOf (Yh 0)) Ys))))) (zBo (zAB (zBU (vOf (Yu qR (Yf (dOf (Yh 1)) Ys))))) (zAB (zBU (vOf (zCN .lst (vOf (Yh 2)))))))) (Xi (eOf (fC (.bl false)))) Wm)
  (Xi (X5 bAll (Yf (vOf (XU 1 [] (X8 (dOf (Yh 2))) (gN 0) Xk q36)) Ys))))
noncomputable def q0e:List D->Option O:=mir 3 q25
abbrev q29:Stmt:=top 7
theorem q8q:FnScope ["home", "last", "boxes"] ["home", "last", "boxes"] (Yj q29):=⟨rfl,rfl,rfl,by decide +kernel,rfl,by decide +kernel,by decide +kernel⟩
theorem q6B{f_is_whole:Addr}{d_is_whole:FuncData}{f_is_box:Addr}{d_is_box:FuncData}
  (F:Fun K "is_errand" "is_errand" q29 f fd)
  (c_is_whole:Cal P w K mg base 1 f_is_whole d_is_whole "is_whole" ["thing"] 1 qR)
  (c_is_box:Cal P w K mg base 2 f_is_box d_is_box "is_box" ["thing"] 1 q1V)
  (z_isinstance:mg "isinstance" = none)
  (z_list:mg "list" = none)
  (z_all:mg "all" = none)
  (i_list:IsT K .lst) :
  FnOk P w K mg base CX0 3 f fd ["home", "last", "boxes"] (spD K 3 q0e):=by
 have h:=fnD (P:=P) (w:=w) (mg:=mg) (base:=base) (k:=2) (body:=q25) F q8q (λcdv A outer s H E hr =>
   (qb (qY (XW.toT (q4m (q39 (q1l (XE.toV (xc c_is_whole hr (Ye (vD 0) Yl))))) (q4m (q39 (q1l (XE.toV (xc c_is_whole hr (Ye (vD 1) Yl))))) (q4s (q39 (q1l (XE.toV (q4G (vV 2) i_list rfl z_isinstance rfl z_list q3n)))))))) (qe (qj (XD.toE W0))) qz)
   (qe (qj (qB (qbb rfl) qfE rfl z_all qfv (qi (XE.toV (q0D rfl (blk ["box"] [] [] rfl (by decide +kernel) (by decide +kernel) rfl trivial) (qt (vD 2)) (qD 0) (λ_ _ _ _=>⟨(qg (i:=0) (show ((["box"]:List Str)++([]:List Str):List Str).Nodup from by decide +kernel) rfl (Or.inl rfl)),q0r,(XE.toD (xc c_is_box hr (Ye (vD 0) Yl)))⟩))) qp))))))
 exact h
noncomputable def q16:FS:=(sIf (zAB (zBU (vOf (Yu q0e (Yf (dOf (Yh 0)) (Yf (dOf (Yh 1)) (Yf (dOf (Yh 2)) Ys))))))) sNo Wm)
noncomputable def q00:List D->Option O:=mir 3 q16
abbrev q0X:Stmt:=top 8
theorem q4S:FnScope ["home", "last", "boxes"] ["home", "last", "boxes"] (Yj q0X):=⟨rfl,rfl,rfl,by decide +kernel,rfl,by decide +kernel,by decide +kernel⟩
theorem q4v{f_is_errand:Addr}{d_is_errand:FuncData}
  (F:Fun K "check_errand" "check_errand" q0X f fd)
  (c_is_errand:Cal P w K mg base 3 f_is_errand d_is_errand "is_errand" ["home", "last", "boxes"] 3 q0e) :
  FnOk P w K mg base CX0 4 f fd ["home", "last", "boxes"] (spD K 3 q00):=by
 have h:=fnD (P:=P) (w:=w) (mg:=mg) (base:=base) (k:=3) (body:=q16) F q4S (λcdv A outer s H E hr =>
   (qe (qY (q39 (q1l (XE.toV (xc c_is_errand hr (Ye (vD 0) (Ye (vD 1) (Ye (vD 2) Yl))))))) (qe qa4) qz)))
 exact h
noncomputable def q3M:FS:=(sExt 3 (dOf (Yh 4)))
noncomputable def q5B:FS:=(Y5 (zBd (Yu q00 (Yf (dOf (Yh 0)) (Yf (dOf (Yh 1)) (Yf (dOf (Yh 2)) Ys)))))
  (Y5 (XH 3 (zAP (Yf (dOf (Yh 0)) (Yf (dOf (Yh 1)) Ys))))
  (Y5 (Wz (X8 (dOf (Yh 2))) (gN 4) q3M)
  (Xi (Wd (vOf (Yh 3)))))))
noncomputable def q0q:List D->Option O:=mir 5 q5B
abbrev q5m:Stmt:=top 9
theorem q5E:FnScope ["home", "last", "boxes", "places", "box"] ["home", "last", "boxes"] (Yj q5m):=⟨rfl,rfl,rfl,by decide +kernel,rfl,by decide +kernel,by decide +kernel⟩
theorem qcP{f_check_errand:Addr}{d_check_errand:FuncData}
  (F:Fun K "stops" "stops" q5m f fd)
  (c_check_errand:Cal P w K mg base 4 f_check_errand d_check_errand "check_errand" ["home", "last", "boxes"] 3 q00)
  (z_sorted:mg "sorted" = none)
  (z_set:mg "set" = none) :
  FnOk P w K mg base CX0 5 f fd ["home", "last", "boxes"] (spD K 3 q0q):=by
 have h:=fnD (P:=P) (w:=w) (mg:=mg) (base:=base) (k:=4) (body:=q5B) F q5E (λcdv A outer s H E hr =>
   (qb (qeG (xc c_check_errand hr (Ye (vD 0) (Ye (vD 1) (Ye (vD 2) Yl)))))
   (qb (qh (i:=3) q5E.nd rfl (Or.inl rfl) (Xc (Ye (vD 0) (Ye (vD 1) Yl))))
   (qb (q06 PassesOwn.never rfl (qt (vD 2)) (qg (i:=4) q5E.nd rfl (Or.inl rfl)) (qe (qb9 (pv 3) (vD 4))))
   (qe (qj (q9D rfl z_sorted rfl z_set (vV 3))))))))
 exact h
noncomputable def q6D:FS:=(Y5 (XH 3 (eOf (dOf (Yu q0q (Yf (dOf (Yh 0)) (Yf (dOf (Yh 1)) (Yf (dOf (Yh 2)) Ys)))))))
  (Xi (X5 WB (Yf (vOf (Yh 3)) (Yf (vOf (fSl (vOf (Yh 3)) (pAt (fC (.int 1))) pNo)) Ys)))))
noncomputable def q07:List D->Option O:=mir 4 q6D
abbrev q7F:Stmt:=top 10
theorem qbL:FnScope ["home", "last", "boxes", "places"] ["home", "last", "boxes"] (Yj q7F):=⟨rfl,rfl,rfl,by decide +kernel,rfl,by decide +kernel,by decide +kernel⟩
theorem qe8{f_stops:Addr}{d_stops:FuncData}
  (F:Fun K "gaps" "gaps" q7F f fd)
  (c_stops:Cal P w K mg base 5 f_stops d_stops "stops" ["home", "last", "boxes"] 3 q0q)
  (z_list:mg "list" = none)
  (z_zip:mg "zip" = none) :
  FnOk P w K mg base CX0 6 f fd ["home", "last", "boxes"] (spD K 3 q07):=by
 have h:=fnD (P:=P) (w:=w) (mg:=mg) (base:=base) (k:=5) (body:=q6D) F qbL (λcdv A outer s H E hr =>
   (qb (qh (i:=3) qbL.nd rfl (Or.inl rfl) (XD.toE (XE.toD (xc c_stops hr (Ye (vD 0) (Ye (vD 1) (Ye (vD 2) Yl)))))))
   (qe (qj (q9S rfl z_list rfl z_zip (qi (vV 3) (qi (XE.toV (X6 (vV 3) (WH (XD.toV Yg)) W9)) qp)))))))
 exact h
noncomputable def q1K:FD:=(Wj (Yf (dOf (Yn oIx (vOf (Yh 0)) (fC (.int 0)))) (Yf (dOf (Yn oIx (vOf (Yh 0)) (fC (.int 1)))) (Yf (dOf (Yn zAu (vOf (Yn oIx (vOf (Yh 0)) (fC (.int 1)))) (vOf (Yn oIx (vOf (Yh 0)) (fC (.int 0)))))) Ys))))
noncomputable def q26:FS:=(Xi (XU 1 [] (X8 (dOf (Yu q07 (Yf (dOf (Yh 0)) (Yf (dOf (Yh 1)) (Yf (dOf (Yh 2)) Ys)))))) (gN 0) Xk q1K))
noncomputable def q0v:List D->Option O:=mir 3 q26
abbrev q24:Stmt:=top 11
theorem q8y:FnScope ["home", "last", "boxes"] ["home", "last", "boxes"] (Yj q24):=⟨rfl,rfl,rfl,by decide +kernel,rfl,by decide +kernel,by decide +kernel⟩
theorem q84{f_gaps:Addr}{d_gaps:FuncData}
  (F:Fun K "gap_edges" "gap_edges" q24 f fd)
  (c_gaps:Cal P w K mg base 6 f_gaps d_gaps "gaps" ["home", "last", "boxes"] 3 q07) :
  FnOk P w K mg base CX0 7 f fd ["home", "last", "boxes"] (spD K 3 q0v):=by
 have h:=fnD (P:=P) (w:=w) (mg:=mg) (base:=base) (k:=6) (body:=q26) F q8y (λcdv A outer s H E hr =>
   (qe (qj (q0D rfl (blk ["gap"] [] [] rfl (by decide +kernel) (by decide +kernel) rfl trivial) (qt (XE.toD (xc c_gaps hr (Ye (vD 0) (Ye (vD 1) (Ye (vD 2) Yl)))))) (qD 0) (λ_ _ _ _=>⟨(qg (i:=0) (show ((["gap"]:List Str)++([]:List Str):List Str).Nodup from by decide +kernel) rfl (Or.inl rfl)),q0r,(Y7 (Ye (XE.toD (Yk (vV 0) (XD.toV Yg))) (Ye (XE.toD (Yk (vV 0) (XD.toV Yg))) (Ye (XE.toD (q0S (XE.toV (Yk (vV 0) (XD.toV Yg))) (XE.toV (Yk (vV 0) (XD.toV Yg))))) Yl))))⟩)))))
 exact h
noncomputable def q1N:FS:=(Xi (eOf (zB1 (dOf (Yn oLe (vOf (Yh 0)) (vOf (Yn oIx (vOf (Yh 2)) (fC (.int 0)))))) (dOf (Yn oLe (vOf (Yn oIx (vOf (Yh 2)) (fC (.int 1)))) (vOf (Yh 1)))))))
noncomputable def q02:List D->Option O:=mir 3 q1N
abbrev q1F:Stmt:=top 13
theorem q7e:FnScope ["start", "goal", "gap"] ["start", "goal", "gap"] (Yj q1F):=⟨rfl,rfl,rfl,by decide +kernel,rfl,by decide +kernel,by decide +kernel⟩
theorem q6o 
  (F:Fun K "leads_over" "leads_over" q1F f fd) :
  FnOk P w K mg base CX0 1 f fd ["start", "goal", "gap"] (spD K 3 q02):=by
 have h:=fnD (P:=P) (w:=w) (mg:=mg) (base:=base) (k:=0) (body:=q1N) F q7e (λcdv A outer s H E hr =>
   (qe (qj (XD.toE (q2Y (XE.toD (qd7 (vV 0) (XE.toV (Yk (vV 2) (XD.toV Yg))))) (q7I (XE.toD (qd7 (XE.toV (Yk (vV 2) (XD.toV Yg))) (vV 1)))))))))
 exact h
noncomputable def q2z:FT:=(zBU (vOf (Yu q02 (Yf (dOf (Yn oIx (vOf (Yh 0)) (fC (.int 0)))) (Yf (dOf (Yn oIx (vOf (Yh 0)) (fC (.int 1)))) (Yf (dOf (Yh 1)) Ys))))))
noncomputable def q2F:FD:=(dOf (Yh 0))
noncomputable def q2B:FT:=(zBU (vOf (Yu q02 (Yf (dOf (Yn oIx (vOf (Yh 0)) (fC (.int 1)))) (Yf (dOf (Yn oIx (vOf (Yh 0)) (fC (.int 0)))) (Yf (dOf (Yh 1)) Ys))))))
noncomputable def q2u:FD:=(dOf (Yh 0))
noncomputable def q2Z:FS:=(Y5 (XH 2 (XU 1 [1] (X8 (dOf (Yh 0))) (gN 0) q2z q2F))
  (XR 2 (Y5 (XH 3 (XU 1 [1] (X8 (dOf (Yh 0))) (gN 0) q2B q2u))
  (XR 3 (Xi (eOf (Wj (Yf (dOf (X5 Wp (Yf (vOf (Yh 2)) Ys))) (Yf (dOf (X5 Wp (Yf (vOf (Yh 3)) Ys))) Ys)))))))))
noncomputable def q0E:List D->Option O:=mir 4 q2Z
abbrev q33:Stmt:=top 14
theorem q2P:FnScope ["boxes", "gap", "rights", "lefts"] ["boxes", "gap"] (Yj q33):=⟨rfl,rfl,rfl,by decide +kernel,rfl,by decide +kernel,by decide +kernel⟩
theorem q9Z{f_leads_over:Addr}{d_leads_over:FuncData}
  (F:Fun K "crossed" "crossed" q33 f fd)
  (c_leads_over:Cal P w K mg base 1 f_leads_over d_leads_over "leads_over" ["start", "goal", "gap"] 3 q02)
  (z_len:mg "len" = none) :
  FnOk P w K mg base CX0 2 f fd ["boxes", "gap"] (spD K 2 q0E):=by
 have h:=fnD (P:=P) (w:=w) (mg:=mg) (base:=base) (k:=1) (body:=q2Z) F q2P (λcdv A outer s H E hr =>
   (qb (q0W (i:=2) rfl q2P.nd rfl rfl (blk ["box"] ["gap"] [1] rfl (by decide +kernel) (by decide +kernel) rfl ⟨⟨rfl,(by first|exact Or.inl rfl|exact Or.inr rfl),rfl⟩,trivial⟩) (qt (vD 0)) (qD 0) (λ_ _ _ _=>⟨(qg (i:=0) (show ((["box"]:List Str)++(["gap"]:List Str):List Str).Nodup from by decide +kernel) rfl (Or.inl rfl)),(q1A (q1l (XE.toV (xc c_leads_over hr (Ye (XE.toD (Yk (vV 0) (XD.toV Yg))) (Ye (XE.toD (Yk (vV 0) (XD.toV Yg))) (Ye (vD 1) Yl))))))),(vD 0)⟩))
   (qC 2 (qb (q0W (i:=3) rfl q2P.nd rfl rfl (blk ["box"] ["gap"] [1] rfl (by decide +kernel) (by decide +kernel) rfl ⟨⟨rfl,(by first|exact Or.inl rfl|exact Or.inr rfl),rfl⟩,trivial⟩) (qt (vD 0)) (qD 0) (λ_ _ _ _=>⟨(qg (i:=0) (show ((["box"]:List Str)++(["gap"]:List Str):List Str).Nodup from by decide +kernel) rfl (Or.inl rfl)),(q1A (q1l (XE.toV (xc c_leads_over hr (Ye (XE.toD (Yk (vV 0) (XD.toV Yg))) (Ye (XE.toD (Yk (vV 0) (XD.toV Yg))) (Ye (vD 1) Yl))))))),(vD 0)⟩))
   (qC 3 (qe (qj (XD.toE (Y7 (Ye (XE.toD (qB qm q01 rfl z_len q04 (qi (vV 2) qp))) (Ye (XE.toD (qB qm q01 rfl z_len q04 (qi (vV 3) qp))) Yl)))))))))))
 exact h
noncomputable def q6A:FS:=(Y5 (XH 4 (eOf (dOf (Yu q0E (Yf (dOf (zAP (Yf (Wj (Yf (dOf (Yh 0)) (Yf (dOf (Yh 1)) Ys))) Ys))) (Yf (dOf (Yh 3)) Ys))))))
  (Y5 (XH 5 (eOf (dOf (Yu q0E (Yf (dOf (Yh 2)) (Yf (dOf (Yh 3)) Ys))))))
  (Xi (Yn X4 (vOf (Yn zAu (vOf (Yn zAu (vOf (Yn oIx (vOf (Yh 4)) (fC (.int 0)))) (vOf (Yn oIx (vOf (Yh 4)) (fC (.int 1)))))) (vOf (Yn oIx (vOf (Yh 5)) (fC (.int 0)))))) (vOf (Yn oIx (vOf (Yh 5)) (fC (.int 1))))))))
noncomputable def q34:List D->Option O:=mir 6 q6A
abbrev q7q:Stmt:=top 15
theorem q6N:FnScope ["home", "last", "boxes", "gap", "own", "carried"] ["home", "last", "boxes", "gap"] (Yj q7q):=⟨rfl,rfl,rfl,by decide +kernel,rfl,by decide +kernel,by decide +kernel⟩
theorem qeE{f_crossed:Addr}{d_crossed:FuncData}
  (F:Fun K "lack" "lack" q7q f fd)
  (c_crossed:Cal P w K mg base 2 f_crossed d_crossed "crossed" ["boxes", "gap"] 2 q0E) :
  FnOk P w K mg base CX0 3 f fd ["home", "last", "boxes", "gap"] (spD K 4 q34):=by
 have h:=fnD (P:=P) (w:=w) (mg:=mg) (base:=base) (k:=2) (body:=q6A) F q6N (λcdv A outer s H E hr =>
   (qb (qh (i:=4) q6N.nd rfl (Or.inl rfl) (XD.toE (XE.toD (xc c_crossed hr (Ye (XE.toD (Xc (Ye (Y7 (Ye (vD 0) (Ye (vD 1) Yl))) Yl))) (Ye (vD 3) Yl))))))
   (qb (qh (i:=5) q6N.nd rfl (Or.inl rfl) (XD.toE (XE.toD (xc c_crossed hr (Ye (vD 2) (Ye (vD 3) Yl))))))
   (qe (qj (qZ (XE.toV (q0S (XE.toV (q0S (XE.toV (Yk (vV 4) (XD.toV Yg))) (XE.toV (Yk (vV 4) (XD.toV Yg))))) (XE.toV (Yk (vV 5) (XD.toV Yg))))) (XE.toV (Yk (vV 5) (XD.toV Yg)))))))))
 exact h
noncomputable def q6x:FD:=(dOf (Yu q34 (Yf (dOf (Yh 1)) (Yf (dOf (Yh 2)) (Yf (dOf (Yh 3)) (Yf (dOf (Yh 0)) Ys))))))
noncomputable def q4P:FS:=(Xi (XU 1 [0,1,2] (X8 (dOf (Yu q07 (Yf (dOf (Yh 0)) (Yf (dOf (Yh 1)) (Yf (dOf (Yh 2)) Ys)))))) (gN 0) Xk q6x))
noncomputable def q0p:List D->Option O:=mir 3 q4P
abbrev q5a:Stmt:=top 16
theorem qe3:FnScope ["home", "last", "boxes"] ["home", "last", "boxes"] (Yj q5a):=⟨rfl,rfl,rfl,by decide +kernel,rfl,by decide +kernel,by decide +kernel⟩
theorem qd4{f_gaps:Addr}{d_gaps:FuncData}{f_lack:Addr}{d_lack:FuncData}
  (F:Fun K "lacks" "lacks" q5a f fd)
  (c_gaps:Cal P w K mg base 6 f_gaps d_gaps "gaps" ["home", "last", "boxes"] 3 q07)
  (c_lack:Cal P w K mg base 3 f_lack d_lack "lack" ["home", "last", "boxes", "gap"] 4 q34) :
  FnOk P w K mg base CX0 7 f fd ["home", "last", "boxes"] (spD K 3 q0p):=by
 have h:=fnD (P:=P) (w:=w) (mg:=mg) (base:=base) (k:=6) (body:=q4P) F qe3 (λcdv A outer s H E hr =>
   (qe (qj (q0D rfl (blk ["gap"] ["home", "last", "boxes"] [0,1,2] rfl (by decide +kernel) (by decide +kernel) rfl ⟨⟨rfl,(by first|exact Or.inl rfl|exact Or.inr rfl),rfl⟩,⟨⟨rfl,(by first|exact Or.inl rfl|exact Or.inr rfl),rfl⟩,⟨⟨rfl,(by first|exact Or.inl rfl|exact Or.inr rfl),rfl⟩,trivial⟩⟩⟩) (qt (XE.toD (xc c_gaps hr (Ye (vD 0) (Ye (vD 1) (Ye (vD 2) Yl)))))) (qD 0) (λ_ _ _ _=>⟨(qg (i:=0) (show ((["gap"]:List Str)++(["home", "last", "boxes"]:List Str):List Str).Nodup from by decide +kernel) rfl (Or.inl rfl)),q0r,(XE.toD (xc c_lack hr (Ye (vD 1) (Ye (vD 2) (Ye (vD 3) (Ye (vD 0) Yl))))))⟩)))))
 exact h
noncomputable def q3b:FS:=sNb
noncomputable def q0I:List D->Option O:=mir 5 q3b
abbrev q1Q:Stmt:=top 18
theorem q2U:FnScope ["things", "ties", "beside", "thing", "tie"] ["things", "ties"] (Yj q1Q):=⟨rfl,rfl,rfl,by decide +kernel,rfl,by decide +kernel,by decide +kernel⟩
theorem q6j 
  (F:Fun K "neighbours" "neighbours" q1Q f fd) :
  FnOk P w K mg base CX0 1 f fd ["things", "ties"] (spD K 2 q0I):=by
 have h:=fnD (P:=P) (w:=w) (mg:=mg) (base:=base) (k:=0) (body:=q3b) F q2U (λcdv A outer s H E hr =>
   (qf1 hr.units PassesOwn.never rfl q2U.nd rfl rfl rfl (by first|exact Or.inl rfl|exact Or.inr rfl) (by first|exact Or.inl rfl|exact Or.inr rfl) (by first|exact Or.inl rfl|exact Or.inr rfl) (by first|exact .inl rfl|exact .inr rfl) (by first|exact .inl rfl|exact .inr rfl) (by first|exact .inl rfl|exact .inr rfl) (pv 0) (pv 1) (pv 2) (pv 2) (pv 2) (pv 3) (pv 2) (XE.toD (Yk (vV 4) (XD.toV Yg))) (XE.toD (Yk (vV 4) (XD.toV Yg))) (XE.toD (Yk (vV 4) (XD.toV Yg))) (XE.toD (Yk (vV 4) (XD.toV Yg))) (λω e h=>qfe h) (λω e h=>qfi h)))
 exact h
noncomputable def q2e:FS:=(sIf (zAq true 2 (dOf (Yh 5))) (Y5 (zAi 2 (dOf (Yh 5)) (fC (.bl true)))
  (zBa 3 (dOf (Yh 5)))) Wm)
noncomputable def q1e:FT:=(zBU (vOf (Yh 3)))
noncomputable def q2b:FS:=(Y5 (zBj 4 (zBf 3))
  (Wz (X8 (dOf (zAA 1 (dOf (Yh 4))))) (gN 5) q2e))
noncomputable def q2y:FS:=(Y5 (zBO 2 (dOf (Yh 0)) (fC (.bl true)))
  (Y5 (XH 3 (zAP (Yf (dOf (Yh 0)) Ys)))
  (Y5 (sWh 1000000 q1e q2b)
  (Xi (zBG 2)))))
noncomputable def q0P:List D->Option O:=mir 6 q2y
abbrev q2r:Stmt:=top 19
theorem q0J:FnScope ["thing", "beside", "found", "waiting", "here", "other"] ["thing", "beside"] (Yj q2r):=⟨rfl,rfl,rfl,by decide +kernel,rfl,by decide +kernel,by decide +kernel⟩
theorem q8b 
  (F:Fun K "group_of" "group_of" q2r f fd)
  (z_sorted:mg "sorted" = none) :
  FnOk P w K mg base CX0 1 f fd ["thing", "beside"] (spD K 2 q0P):=by
 have h:=fnD (P:=P) (w:=w) (mg:=mg) (base:=base) (k:=0) (body:=q2y) F q0J (λcdv A outer s H E hr =>
   (qb (qcA (i:=2) q0J.nd rfl (Or.inl rfl) (vD 0) W0)
   (qb (qh (i:=3) q0J.nd rfl (Or.inl rfl) (Xc (Ye (vD 0) Yl)))
   (qb (qcp PassesOwn.never (q1l (vV 3)) (qb (qeF (i:=4) q0J.nd rfl (Or.inl rfl) (qe2 (pv 3)))
   (qe (q06 PassesOwn.never rfl (qt (XE.toD (q2i hr.units (pv 1) (vD 4)))) (qg (i:=5) q0J.nd rfl (Or.inl rfl)) (qe (qY (q65 hr.units (vD 5) (pv 2)) (qb (q3u hr.units (pv 2) (vD 5) W0)
   (qe (q1H (pv 3) (vD 5)))) qz))))))
   (qe (qj (qcb rfl rfl z_sorted (pv 2))))))))
 exact h
noncomputable def q37:FS:=(zAi 3 (dOf (Yh 7)) (fC (.bl true)))
noncomputable def q3c:FS:=(sIf (zAq true 3 (dOf (Yh 5))) (Y5 (XH 6 (eOf (dOf (Yu q0P (Yf (dOf (Yh 5)) (Yf (dOf (Yh 2)) Ys))))))
  (Y5 (zBa 4 (dOf (Yh 6)))
  (Wz (X8 (dOf (Yh 6))) (gN 7) q37))) Wm)
noncomputable def q3T:FS:=(Y5 (XH 2 (eOf (dOf (Yu q0I (Yf (dOf (Yh 0)) (Yf (dOf (Yh 1)) Ys))))))
  (Y5 (zBL 3)
  (Y5 (XH 4 (zAP Ys))
  (Y5 (Wz (X8 (dOf (zA0 (vOf (Yh 0))))) (gN 5) q3c)
  (W1 4)))))
noncomputable def q1d:List D->Option O:=mir 8 q3T
abbrev q49:Stmt:=top 20
theorem q0x:FnScope ["things", "ties", "beside", "grouped", "told", "thing", "group", "member"] ["things", "ties"] (Yj q49):=⟨rfl,rfl,rfl,by decide +kernel,rfl,by decide +kernel,by decide +kernel⟩
theorem qb6{f_neighbours:Addr}{d_neighbours:FuncData}{f_group_of:Addr}{d_group_of:FuncData}
  (F:Fun K "groups" "groups" q49 f fd)
  (c_neighbours:Cal P w K mg base 1 f_neighbours d_neighbours "neighbours" ["things", "ties"] 2 q0I)
  (c_group_of:Cal P w K mg base 1 f_group_of d_group_of "group_of" ["thing", "beside"] 2 q0P)
  (z_sorted:mg "sorted" = none) :
  FnOk P w K mg base CX0 2 f fd ["things", "ties"] (spD K 2 q1d):=by
 have h:=fnD (P:=P) (w:=w) (mg:=mg) (base:=base) (k:=1) (body:=q3T) F q0x (λcdv A outer s H E hr =>
   (qb (qh (i:=2) q0x.nd rfl (Or.inl rfl) (XD.toE (XE.toD (xc c_neighbours hr (Ye (vD 0) (Ye (vD 1) Yl))))))
   (qb (q5L (i:=3) q0x.nd rfl (Or.inl rfl))
   (qb (qh (i:=4) q0x.nd rfl (Or.inl rfl) (Xc Yl))
   (qb (q06 PassesOwn.never rfl (qt (XE.toD (qdL rfl z_sorted (vV 0)))) (qg (i:=5) q0x.nd rfl (Or.inl rfl)) (qe (qY (q65 hr.units (vD 5) (pv 3)) (qb (qh (i:=6) q0x.nd rfl (Or.inl rfl) (XD.toE (XE.toD (xc c_group_of hr (Ye (vD 5) (Ye (vD 2) Yl))))))
   (qb (q1H (pv 4) (vD 6))
   (qe (q06 PassesOwn.never rfl (qt (vD 6)) (qg (i:=7) q0x.nd rfl (Or.inl rfl)) (qe (q3u hr.units (pv 3) (vD 7) W0)))))) qz)))
   (qe (q3y (pv 4))))))))
 exact h
noncomputable def q2K:FT:=(tOf (Yn (oEq true) (vOf (Yh 1)) (fC (.int 0))))
noncomputable def q3U:FD:=(dOf (Yh 0))
noncomputable def q5D:FS:=(Y5 (XH 3 (XU 2 [] (iZp (Yf (dOf (Yu q07 (Yf (dOf (Yh 0)) (Yf (dOf (Yh 1)) (Yf (dOf (Yh 2)) Ys))))) (Yf (dOf (Yu q0p (Yf (dOf (Yh 0)) (Yf (dOf (Yh 1)) (Yf (dOf (Yh 2)) Ys))))) Ys))) (gT 2 (Y0 (gN 0) (Y0 (gN 1) Xn))) q2K q3U))
  (XR 3 (Xi (Yn X4 (vOf (Yn X4 (vOf (X5 zB3 (Yf (vOf (Yh 2)) Ys))) (vOf (zAP (Yf (Wj (Yf (dOf (Yh 0)) (Yf (dOf (Yh 1)) Ys))) Ys))))) (vOf (Yh 3))))))
noncomputable def q1c:List D->Option O:=mir 4 q5D
abbrev q4Z:Stmt:=top 21
theorem q8G:FnScope ["home", "last", "boxes", "lacking"] ["home", "last", "boxes"] (Yj q4Z):=⟨rfl,rfl,rfl,by decide +kernel,rfl,by decide +kernel,by decide +kernel⟩
theorem qcR{f_lacks:Addr}{d_lacks:FuncData}{f_gaps:Addr}{d_gaps:FuncData}
  (F:Fun K "knots" "knots" q4Z f fd)
  (c_lacks:Cal P w K mg base 7 f_lacks d_lacks "lacks" ["home", "last", "boxes"] 3 q0p)
  (c_gaps:Cal P w K mg base 6 f_gaps d_gaps "gaps" ["home", "last", "boxes"] 3 q07)
  (z_zip:mg "zip" = none)
  (z_list:mg "list" = none) :
  FnOk P w K mg base CX0 8 f fd ["home", "last", "boxes"] (spD K 3 q1c):=by
 have h:=fnD (P:=P) (w:=w) (mg:=mg) (base:=base) (k:=7) (body:=q5D) F q8G (λcdv A outer s H E hr =>
   (qb (q0W (i:=3) rfl q8G.nd rfl rfl (blk ["gap", "lack"] [] [] rfl (by decide +kernel) (by decide +kernel) rfl trivial) (qbg rfl z_zip (Ye (XE.toD (xc c_gaps hr (Ye (vD 0) (Ye (vD 1) (Ye (vD 2) Yl))))) (Ye (XE.toD (xc c_lacks hr (Ye (vD 0) (Ye (vD 1) (Ye (vD 2) Yl))))) Yl))) (qbr (q1y (qD 0) (q1y (qD 1) q5Y))) (λ_ _ _ _=>⟨(q2k rfl (qA (qg (i:=0) (show ((["gap", "lack"]:List Str)++([]:List Str):List Str).Nodup from by decide +kernel) rfl (Or.inl rfl)) (qA (qg (i:=1) (show ((["gap", "lack"]:List Str)++([]:List Str):List Str).Nodup from by decide +kernel) rfl (Or.inl rfl)) q1B))),(q1A (zBE hr.units (vV 1) (XD.toV Yg))),(vD 0)⟩))
   (qC 3 (qe (qj (qZ (XE.toV (qZ (XE.toV (qdf q7y qdH rfl z_list q3n (qi (vV 2) qp))) (XE.toV (Xc (Ye (Y7 (Ye (vD 0) (Ye (vD 1) Yl))) Yl))))) (vV 3)))))))
 exact h
noncomputable def qaw:FS:=(Xi (Yn oIx (vOf (Yh 0)) (fC (.int 2))))
noncomputable def q1h:List D->Option O:=mir 1 qaw
abbrev q7a:Stmt:=top 23
theorem qfG:FnScope ["edge"] ["edge"] (Yj q7a):=⟨rfl,rfl,rfl,by decide +kernel,rfl,by decide +kernel,by decide +kernel⟩
theorem qe0 
  (F:Fun K "cost" "cost" q7a f fd) :
  FnOk P w K mg base CX0 1 f fd ["edge"] (spD K 1 q1h):=by
 have h:=fnD (P:=P) (w:=w) (mg:=mg) (base:=base) (k:=0) (body:=qaw) F qfG (λcdv A outer s H E hr =>
   (qe (qj (Yk (vV 0) (XD.toV Yg)))))
 exact h
noncomputable def q0A:FS:=(zAi 1 (dOf (Yh 4)) (dOf (Yh 2)))
noncomputable def q0z:FS:=(Wz (X8 (dOf (Yh 3))) (gN 4) q0A)
noncomputable def q0R:FS:=(Y5 (zBL 1)
  (Y5 (Wz (iEn (Yf (dOf (Yh 0)) Ys)) (gT 2 (Y0 (gN 2) (Y0 (gN 3) Xn))) q0z)
  (XR 1 (Xi (Yh 1)))))
noncomputable def qE:List D->Option O:=mir 5 q0R
abbrev q0M:Stmt:=top 24
theorem qU:FnScope ["parts", "numbers", "number", "part", "thing"] ["parts"] (Yj q0M):=⟨rfl,rfl,rfl,by decide +kernel,rfl,by decide +kernel,by decide +kernel⟩
theorem q3N 
  (F:Fun K "group_numbers" "group_numbers" q0M f fd)
  (z_enumerate:mg "enumerate" = none) :
  FnOk P w K mg base CX0 1 f fd ["parts"] (spD K 1 qE):=by
 have h:=fnD (P:=P) (w:=w) (mg:=mg) (base:=base) (k:=0) (body:=q0R) F qU (λcdv A outer s H E hr =>
   (qb (q5L (i:=1) qU.nd rfl (Or.inl rfl))
   (qb (q06 PassesOwn.never rfl (qdt rfl z_enumerate (Ye (vD 0) Yl)) (q2k rfl (qA (qg (i:=2) qU.nd rfl (Or.inl rfl)) (qA (qg (i:=3) qU.nd rfl (Or.inl rfl)) q1B))) (qe (q06 PassesOwn.never rfl (qt (vD 3)) (qg (i:=4) qU.nd rfl (Or.inl rfl)) (qe (q3u hr.units (pv 1) (vD 4) (vD 2))))))
   (qC 1 (qe (qj (vE 1)))))))
 exact h
noncomputable def q0j:FS:=(zAi 3 (dOf (Yh 4)) (dOf (fIte (tOf (Yn (oEq false) (vOf (zAA 0 (dOf (Yh 4)))) (vOf (Yh 2)))) (Yh 1) (zAA 0 (dOf (Yh 4))))))
noncomputable def q0t:FS:=(Y5 (zBL 3)
  (Y5 (Wz (iDk 0) (gN 4) q0j)
  (XR 3 (Xi (Yh 3)))))
noncomputable def qG:List D->Option O:=mir 5 q0t
abbrev q0u:Stmt:=top 25
theorem q0s:FnScope ["numbers", "one", "other", "joined", "thing"] ["numbers", "one", "other"] (Yj q0u):=⟨rfl,rfl,rfl,by decide +kernel,rfl,by decide +kernel,by decide +kernel⟩
theorem q38 
  (F:Fun K "with_two_joined" "with_two_joined" q0u f fd) :
  FnOk P w K mg base CX0 1 f fd ["numbers", "one", "other"] (spD K 3 qG):=by
 have h:=fnD (P:=P) (w:=w) (mg:=mg) (base:=base) (k:=0) (body:=q0t) F q0s (λcdv A outer s H E hr =>
   (qb (q5L (i:=3) q0s.nd rfl (Or.inl rfl))
   (qb (q06 PassesOwn.never rfl (qdn (pv 0)) (qg (i:=4) q0s.nd rfl (Or.inl rfl)) (qe (q3u hr.units (pv 3) (vD 4) (XE.toD (qaZ (Wn hr.units (XE.toV (q2i hr.units (pv 0) (vD 4))) (vV 2)) (vE 1) (q2i hr.units (pv 0) (vD 4)))))))
   (qC 3 (qe (qj (vE 3)))))))
 exact h
noncomputable def q3j:FS:=(Y5 (XH 6 (eOf (dOf (zAA 3 (dOf (Yn oIx (vOf (Yh 5)) (fC (.int 0))))))))
  (Y5 (XH 7 (eOf (dOf (zAA 3 (dOf (Yn oIx (vOf (Yh 5)) (fC (.int 1))))))))
  (sIf (tOf (Yn (oEq true) (vOf (Yh 6)) (vOf (Yh 7)))) (Y5 (zBa 4 (dOf (Yh 5)))
  (XH 3 (eOf (dOf (Yu qG (Yf (dOf (Yh 3)) (Yf (dOf (Yh 6)) (Yf (dOf (Yh 7)) Ys)))))))) Wm)))
noncomputable def q3Z:FS:=(Y5 (XH 3 (eOf (dOf (Yu qE (Yf (dOf (Yu q1d (Yf (dOf (Yh 0)) (Yf (dOf (Yh 1)) Ys)))) Ys)))))
  (Y5 (XH 4 (zAP Ys))
  (Y5 (Wz (X8 (dOf (zBC q1h (vOf (Yh 2))))) (gN 5) q3j)
  (W1 4))))
noncomputable def qW:List D->Option O:=mir 8 q3Z
abbrev q4g:Stmt:=top 26
theorem q0y:FnScope ["things", "knots", "edges", "numbers", "taken", "edge", "one", "other"] ["things", "knots", "edges"] (Yj q4g):=⟨rfl,rfl,rfl,by decide +kernel,rfl,by decide +kernel,by decide +kernel⟩
theorem qaJ{f_group_numbers:Addr}{d_group_numbers:FuncData}{f_groups:Addr}{d_groups:FuncData}{f_cost:Addr}{d_cost:FuncData}{f_with_two_joined:Addr}{d_with_two_joined:FuncData}
  (F:Fun K "forest" "forest" q4g f fd)
  (c_group_numbers:Cal P w K mg base 1 f_group_numbers d_group_numbers "group_numbers" ["parts"] 1 qE)
  (c_groups:Cal P w K mg base 2 f_groups d_groups "groups" ["things", "ties"] 2 q1d)
  (c_cost:Cal P w K mg base 1 f_cost d_cost "cost" ["edge"] 1 q1h)
  (c_with_two_joined:Cal P w K mg base 1 f_with_two_joined d_with_two_joined "with_two_joined" ["numbers", "one", "other"] 3 qG)
  (z_sorted:mg "sorted" = none) :
  FnOk P w K mg base CX0 4 f fd ["things", "knots", "edges"] (spD K 3 qW):=by
 have h:=fnD (P:=P) (w:=w) (mg:=mg) (base:=base) (k:=3) (body:=q3Z) F q0y (λcdv A outer s H E hr =>
   (qb (qh (i:=3) q0y.nd rfl (Or.inl rfl) (XD.toE (XE.toD (xc c_group_numbers hr (Ye (XE.toD (xc c_groups hr (Ye (vD 0) (Ye (vD 1) Yl)))) Yl)))))
   (qb (qh (i:=4) q0y.nd rfl (Or.inl rfl) (Xc Yl))
   (qb (q06 PassesOwn.never rfl (qt (XE.toD (qcl c_cost hr z_sorted (vV 2)))) (qg (i:=5) q0y.nd rfl (Or.inl rfl)) (qb (qh (i:=6) q0y.nd rfl (Or.inl rfl) (XD.toE (XE.toD (q2i hr.units (pv 3) (XE.toD (Yk (vV 5) (XD.toV Yg)))))))
   (qb (qh (i:=7) q0y.nd rfl (Or.inl rfl) (XD.toE (XE.toD (q2i hr.units (pv 3) (XE.toD (Yk (vV 5) (XD.toV Yg)))))))
   (qe (qY (zBE hr.units (vV 6) (vV 7)) (qb (q1H (pv 4) (vD 5))
   (qe (qh (i:=3) q0y.nd rfl (Or.inl rfl) (XD.toE (XE.toD (xc c_with_two_joined hr (Ye (vD 3) (Ye (vD 6) (Ye (vD 7) Yl))))))))) qz)))))
   (qe (q3y (pv 4)))))))
 exact h
abbrev qS:Stmt:=top 28
theorem q1g:FnScope ["arcs", "numbers", "number", "arc"] ["arcs"] (Yj qS):=⟨rfl,rfl,rfl,by decide +kernel,rfl,by decide +kernel,by decide +kernel⟩
theorem q2O(F:Fun K "numbers_by_start" "numbers_by_start" qS f fd)(z_enumerate:mg "enumerate" = none):FnOk P w K mg base CX0 1 f fd ["arcs"] (spT K):=by
 refine F.ok q1g (λvs H Q E h=>?_) (λcdv A outer s H vs Q E hr h=>?_)
 ·obtain⟨G,as,_,rp,_⟩:=h
  rw[<- rp.len];rfl
 ·exact qe5 (X:=(zBV CX0 P w K mg base ["arcs", "numbers", "number", "arc"] "numbers_by_start" (Yj qS) f cdv A outer s H E).nox) PassesOwn.never rfl q1g.nd rfl rfl rfl (by first|exact Or.inl rfl|exact Or.inr rfl) (by first|exact Or.inl rfl|exact Or.inr rfl) (by first|exact Or.inl rfl|exact Or.inr rfl) (by first|exact .inl rfl|exact .inr rfl) (by first|exact .inl rfl|exact .inr rfl) (by first|exact .inl rfl|exact .inr rfl) rfl z_enumerate (pv 0) (pv 1) (pv 2) (pv 1) (XE.toD (Yk (vV 3) (XD.toV Yg))) (λω e h=>qfC h) rfl ⟨rfl,rfl,rfl,rfl⟩ rfl rfl rfl rfl rfl rfl rfl rfl (λt h=>qbH rfl h) (by intro _;rfl) h
noncomputable def qL:FD:=(dOf (Yn oIx (vOf (Yh 0)) (fC (.int 0))))
noncomputable def qM:FD:=(dOf (Yn oIx (vOf (Yh 0)) (fC (.int 1))))
noncomputable def qX:FS:=(Xi (Yn (oEq false) (vOf (zAY (vOf (XU 1 [] (X8 (dOf (Yh 0))) (gN 0) Xk qL)))) (vOf (zAY (vOf (XU 1 [] (X8 (dOf (Yh 0))) (gN 0) Xk qM))))))
noncomputable def qw:List D->Option O:=mir 1 qX
abbrev qV:Stmt:=top 29
theorem q2c:FnScope ["arcs"] ["arcs"] (Yj qV):=⟨rfl,rfl,rfl,by decide +kernel,rfl,by decide +kernel,by decide +kernel⟩
theorem q1W 
  (F:Fun K "as_many_begin_as_end" "as_many_begin_as_end" qV f fd)
  (z_sorted:mg "sorted" = none) :
  FnOk P w K mg base CX0 1 f fd ["arcs"] (spD K 1 qw):=by
 have h:=fnD (P:=P) (w:=w) (mg:=mg) (base:=base) (k:=0) (body:=qX) F q2c (λcdv A outer s H E hr =>
   (qe (qj (xe_eq hr.units (XE.toV (q7R rfl z_sorted (XE.toV (q0D rfl (blk ["arc"] [] [] rfl (by decide +kernel) (by decide +kernel) rfl trivial) (qt (vD 0)) (qD 0) (λ_ _ _ _=>⟨(qg (i:=0) (show ((["arc"]:List Str)++([]:List Str):List Str).Nodup from by decide +kernel) rfl (Or.inl rfl)),q0r,(XE.toD (Yk (vV 0) (XD.toV Yg)))⟩))))) (XE.toV (q7R rfl z_sorted (XE.toV (q0D rfl (blk ["arc"] [] [] rfl (by decide +kernel) (by decide +kernel) rfl trivial) (qt (vD 0)) (qD 0) (λ_ _ _ _=>⟨(qg (i:=0) (show ((["arc"]:List Str)++([]:List Str):List Str).Nodup from by decide +kernel) rfl (Or.inl rfl)),q0r,(XE.toD (Yk (vV 0) (XD.toV Yg)))⟩)))))))))
 exact h
abbrev q0h:Stmt:=top 30
theorem qy:FnScope ["start", "arcs", "waiting", "trail", "backwards", "here", "number"] ["start", "arcs"] (Yj q0h):=⟨rfl,rfl,rfl,by decide +kernel,rfl,by decide +kernel,by decide +kernel⟩
noncomputable def q0L:List D->Option O:=mRF
theorem q6q{f_n:Addr}{d_n:FuncData}(F:Fun K "round_from" "round_from" q0h f fd)(G_n:FnOk P w K mg base CX0 1 f_n d_n ["arcs"] (spT K))(a_n:mg "numbers_by_start" = some (.ref f_n))(k_n:xk K (.ref f_n)=true)(b_n:Binds K d_n ["arcs"] [])(z_list:mg "list" = none)(z_reversed:mg "reversed" = none):FnOk P w K mg base CX0 2 f fd ["start", "arcs"] (spD K 2 q0L):=by
 refine F.ok qy (λvs H Q E h=>?_) (λcdv A outer s H vs Q E hr h=>?_)
 ·obtain⟨G,ds,r,_,h2,_,h4,_⟩:=h
  rw[<- h4.len];exact h2
 ·have hu:=hu1 (X:=(zBV CX0 P w K mg base ["start", "arcs", "waiting", "trail", "backwards", "here", "number"] "round_from" (Yj q0h) f cdv A outer s H E).nox) hr.units
  exact qfN (X:=(zBV CX0 P w K mg base ["start", "arcs", "waiting", "trail", "backwards", "here", "number"] "round_from" (Yj q0h) f cdv A outer s H E).nox) (f1:=(dOf (Yn oIx (vOf (Yn oIx (vOf (Yh 1)) (vOf (Yh 6)))) (fC (.int 1))))) (f0:=(dOf (Yn oIx (vOf (Yn oIx (vOf (Yh 1)) (vOf (Yh 6)))) (fC (.int 0))))) (XE.toD (Yk (XE.toV (Yk (vV 1) (vV 6))) (XD.toV Yg))) (XE.toD (Yk (XE.toV (Yk (vV 1) (vV 6))) (XD.toV Yg))) (λ_ _ _=>qeK) (λ_ _ _=>qft) rfl h (λp1 p0=>(qu (qT (i:=2) qy.nd rfl (by first|exact Or.inl rfl|exact Or.inr rfl) (q97 G_n (hr.mono (by decide)) rfl a_n k_n b_n .nil pass0 (qr (pv 1) qo rfl)) rfl (by first|exact .inl rfl|exact .inr rfl)) (qu (qT (i:=3) qy.nd rfl (by first|exact Or.inl rfl|exact Or.inr rfl) (q1T qo) rfl (by first|exact .inl rfl|exact .inr rfl)) (qu (qT (i:=4) qy.nd rfl (by first|exact Or.inl rfl|exact Or.inr rfl) (q1T qo) rfl (by first|exact .inl rfl|exact .inr rfl)) (qu (qT (i:=5) qy.nd rfl (by first|exact Or.inl rfl|exact Or.inr rfl) (pv 0) rfl (by first|exact .inl rfl|exact .inr rfl)) (qu (q7E PassesOwn.never (qdi (q2J (pv 3) (by intro _;rfl)) (qaG (q2J (q72 hu (pv 2) (pv 5) (q1T qo) ⟨rfl,rfl,rfl,rfl⟩) (by intro _;rfl)))).pt (q0f (qdj (q2J (q72 hu (pv 2) (pv 5) (q1T qo) ⟨rfl,rfl,rfl,rfl⟩) (by intro _;rfl)) (qu (qT (i:=6) qy.nd rfl (by first|exact Or.inl rfl|exact Or.inr rfl) (q7o PySem.F.plainAttrs_list PySem.F.slot_list_pop PySem.F.type_list_pop q7P (q3B hu (pv 2) (pv 5) (by intro _ _;rfl)) rfl rfl) rfl (by first|exact .inl rfl|exact .inr rfl)) (qu (q0B (q1Z PySem.F.plainAttrs_list PySem.F.slot_list_append PySem.F.type_list_append q0n (pv 3) (qr (pv 6) qo rfl) rfl rfl rfl rfl rfl) rfl) (q0f (qT (i:=5) qy.nd rfl (by first|exact Or.inl rfl|exact Or.inr rfl) p1 rfl (by first|exact .inl rfl|exact .inr rfl))))) (qu (qT (i:=6) qy.nd rfl (by first|exact Or.inl rfl|exact Or.inr rfl) (q7o PySem.F.plainAttrs_list PySem.F.slot_list_pop PySem.F.type_list_pop q7P (pv 3) rfl rfl) rfl (by first|exact .inl rfl|exact .inr rfl)) (qu (q0B (q1Z PySem.F.plainAttrs_list PySem.F.slot_list_append PySem.F.type_list_append q0n (pv 4) (qr (pv 6) qo rfl) rfl rfl rfl rfl rfl) rfl) (q0f (qT (i:=5) qy.nd rfl (by first|exact Or.inl rfl|exact Or.inr rfl) p0 rfl (by first|exact .inl rfl|exact .inr rfl)))))))) (q0f (q3h (q9r rfl z_list rfl z_reversed (qr (pv 4) qo rfl) rfl rfl rfl rfl rfl)))))))))
noncomputable def q3Y:FS:=(Y5 (sIf (zAB (zBU (vOf (Yu qw (Yf (dOf (Yh 1)) Ys))))) sNo Wm)
  (Y5 (XH 2 (eOf (dOf (Yu q0L (Yf (dOf (Yh 0)) (Yf (dOf (Yh 1)) Ys))))))
  (Y5 (sIf (tOf (Yn (oEq true) (vOf (X5 Wp (Yf (vOf (Yh 2)) Ys))) (vOf (X5 Wp (Yf (vOf (Yh 1)) Ys))))) sNo Wm)
  (Xi (Yh 2)))))
noncomputable def q1I:List D->Option O:=mir 3 q3Y
abbrev q47:Stmt:=top 31
theorem q6y:FnScope ["start", "arcs", "row"] ["start", "arcs"] (Yj q47):=⟨rfl,rfl,rfl,by decide +kernel,rfl,by decide +kernel,by decide +kernel⟩
theorem qbx{f_as_many_begin_as_end:Addr}{d_as_many_begin_as_end:FuncData}{f_round_from:Addr}{d_round_from:FuncData}
  (F:Fun K "row_of" "row_of" q47 f fd)
  (c_as_many_begin_as_end:Cal P w K mg base 1 f_as_many_begin_as_end d_as_many_begin_as_end "as_many_begin_as_end" ["arcs"] 1 qw)
  (c_round_from:Cal P w K mg base 2 f_round_from d_round_from "round_from" ["start", "arcs"] 2 q0L)
  (z_len:mg "len" = none) :
  FnOk P w K mg base CX0 3 f fd ["start", "arcs"] (spD K 2 q1I):=by
 have h:=fnD (P:=P) (w:=w) (mg:=mg) (base:=base) (k:=2) (body:=q3Y) F q6y (λcdv A outer s H E hr =>
   (qb (qY (q39 (q1l (XE.toV (xc c_as_many_begin_as_end hr (Ye (vD 1) Yl))))) (qe qa4) qz)
   (qb (qh (i:=2) q6y.nd rfl (Or.inl rfl) (XD.toE (XE.toD (xc c_round_from hr (Ye (vD 0) (Ye (vD 1) Yl))))))
   (qb (qY (zBE hr.units (XE.toV (qB qm q01 rfl z_len q04 (qi (vV 2) qp))) (XE.toV (qB qm q01 rfl z_len q04 (qi (vV 1) qp)))) (qe qa4) qz)
   (qe (qj (vE 2)))))))
 exact h
noncomputable def q1q:FS:=(Y5 (XH 3 (eOf (dOf (Yu q1I (Yf (dOf (Yh 0)) (Yf (dOf (Yn X4 (vOf (Yh 2)) (vOf (zAP (Yf (Wj (Yf (dOf (Yh 1)) (Yf (dOf (Yh 0)) Ys))) Ys))))) Ys))))))
  (Y5 (XH 4 (eOf (dOf (fIdx (vOf (Yh 3)) (dOf (X5 Wp (Yf (vOf (Yh 2)) Ys)))))))
  (Xi (Yn X4 (vOf (fSl (vOf (Yh 3)) (pAt (vOf (Yn X4 (vOf (Yh 4)) (fC (.int 1))))) pNo)) (vOf (fSl (vOf (Yh 3)) pNo (pAt (vOf (Yh 4)))))))))
noncomputable def qO:List D->Option O:=mir 5 q1q
abbrev q1t:Stmt:=top 32
theorem q1o:FnScope ["home", "last", "arcs", "row", "cut"] ["home", "last", "arcs"] (Yj q1t):=⟨rfl,rfl,rfl,by decide +kernel,rfl,by decide +kernel,by decide +kernel⟩
theorem q59{f_row_of:Addr}{d_row_of:FuncData}
  (F:Fun K "row_between" "row_between" q1t f fd)
  (c_row_of:Cal P w K mg base 3 f_row_of d_row_of "row_of" ["start", "arcs"] 2 q1I)
  (z_len:mg "len" = none) :
  FnOk P w K mg base CX0 4 f fd ["home", "last", "arcs"] (spD K 3 qO):=by
 have h:=fnD (P:=P) (w:=w) (mg:=mg) (base:=base) (k:=3) (body:=q1q) F q1o (λcdv A outer s H E hr =>
   (qb (qh (i:=3) q1o.nd rfl (Or.inl rfl) (XD.toE (XE.toD (xc c_row_of hr (Ye (vD 0) (Ye (XE.toD (qZ (vV 2) (XE.toV (Xc (Ye (Y7 (Ye (vD 1) (Ye (vD 0) Yl))) Yl))))) Yl))))))
   (qb (qh (i:=4) q1o.nd rfl (Or.inl rfl) (XD.toE (XE.toD (qcn (vV 3) (XE.toD (qB qm q01 rfl z_len q04 (qi (vV 2) qp)))))))
   (qe (qj (qZ (XE.toV (X6 (vV 3) (WH (XE.toV (qZ (vV 4) (XD.toV Yg)))) W9)) (XE.toV (X6 (vV 3) W9 (WH (vV 4))))))))))
 exact h
noncomputable def q0T:FS:=(Y5 (XH 6 (eOf (dOf (fIte (tOf (Yn oGt (vOf (Yh 5)) (fC (.int 0)))) (Yh 4) (eOf (Wj (Yf (dOf (Yn oIx (vOf (Yh 4)) (fC (.int 1)))) (Yf (dOf (Yn oIx (vOf (Yh 4)) (fC (.int 0)))) Ys))))))))
  (sExt 3 (dOf (Yn zBD (vOf (zAP (Yf (dOf (Yh 6)) Ys))) (vOf (X5 bAbs (Yf (vOf (Yh 5)) Ys)))))))
noncomputable def q0Y:FS:=(Y5 (XH 3 (zAP Ys))
  (Y5 (Wz (iZp (Yf (dOf (Yu q07 (Yf (dOf (Yh 0)) (Yf (dOf (Yh 1)) (Yf (dOf (Yh 2)) Ys))))) (Yf (dOf (Yu q0p (Yf (dOf (Yh 0)) (Yf (dOf (Yh 1)) (Yf (dOf (Yh 2)) Ys))))) Ys))) (gT 2 (Y0 (gN 4) (Y0 (gN 5) Xn))) q0T)
  (W1 3)))
noncomputable def q03:List D->Option O:=mir 7 q0Y
abbrev q0V:Stmt:=top 34
theorem q05:FnScope ["home", "last", "boxes", "arcs", "gap", "lack", "arc"] ["home", "last", "boxes"] (Yj q0V):=⟨rfl,rfl,rfl,by decide +kernel,rfl,by decide +kernel,by decide +kernel⟩
theorem q4w{f_lacks:Addr}{d_lacks:FuncData}{f_gaps:Addr}{d_gaps:FuncData}
  (F:Fun K "lacking_arcs" "lacking_arcs" q0V f fd)
  (c_lacks:Cal P w K mg base 7 f_lacks d_lacks "lacks" ["home", "last", "boxes"] 3 q0p)
  (c_gaps:Cal P w K mg base 6 f_gaps d_gaps "gaps" ["home", "last", "boxes"] 3 q07)
  (z_zip:mg "zip" = none)
  (z_abs:mg "abs" = none) :
  FnOk P w K mg base CX0 8 f fd ["home", "last", "boxes"] (spD K 3 q03):=by
 have h:=fnD (P:=P) (w:=w) (mg:=mg) (base:=base) (k:=7) (body:=q0Y) F q05 (λcdv A outer s H E hr =>
   (qb (qh (i:=3) q05.nd rfl (Or.inl rfl) (Xc Yl))
   (qb (q06 PassesOwn.never rfl (qbg rfl z_zip (Ye (XE.toD (xc c_gaps hr (Ye (vD 0) (Ye (vD 1) (Ye (vD 2) Yl))))) (Ye (XE.toD (xc c_lacks hr (Ye (vD 0) (Ye (vD 1) (Ye (vD 2) Yl))))) Yl))) (q2k rfl (qA (qg (i:=4) q05.nd rfl (Or.inl rfl)) (qA (qg (i:=5) q05.nd rfl (Or.inl rfl)) q1B))) (qb (qh (i:=6) q05.nd rfl (Or.inl rfl) (XD.toE (XE.toD (qaZ (qgj (vV 5) (XD.toV Yg)) (vE 4) (XD.toE (Y7 (Ye (XE.toD (Yk (vV 4) (XD.toV Yg))) (Ye (XE.toD (Yk (vV 4) (XD.toV Yg))) Yl))))))))
   (qe (qb9 (pv 3) (XE.toD (qfS (XE.toV (Xc (Ye (vD 6) Yl))) (XE.toV (qB qcN qg0 rfl z_abs qfO (qi (vV 5) qp)))))))))
   (qe (q3y (pv 3))))))
 exact h
noncomputable def q18:FS:=(Y5 (zBa 3 (Wj (Yf (dOf (Yn oIx (vOf (Yh 5)) (fC (.int 0)))) (Yf (dOf (Yn oIx (vOf (Yh 5)) (fC (.int 1)))) Ys))))
  (zBa 3 (Wj (Yf (dOf (Yn oIx (vOf (Yh 5)) (fC (.int 1)))) (Yf (dOf (Yn oIx (vOf (Yh 5)) (fC (.int 0)))) Ys)))))
noncomputable def q1p:FS:=(Y5 (XH 3 (zAP Ys))
  (Y5 (XH 4 (eOf (dOf (Yu q0q (Yf (dOf (Yh 0)) (Yf (dOf (Yh 1)) (Yf (dOf (Yh 2)) Ys)))))))
  (Y5 (Wz (X8 (dOf (Yu qW (Yf (dOf (Yh 4)) (Yf (dOf (Yu q1c (Yf (dOf (Yh 0)) (Yf (dOf (Yh 1)) (Yf (dOf (Yh 2)) Ys))))) (Yf (dOf (Yu q0v (Yf (dOf (Yh 0)) (Yf (dOf (Yh 1)) (Yf (dOf (Yh 2)) Ys))))) Ys)))))) (gN 5) q18)
  (W1 3))))
noncomputable def q0b:List D->Option O:=mir 6 q1p
abbrev q1n:Stmt:=top 35
theorem q0w:FnScope ["home", "last", "boxes", "arcs", "places", "edge"] ["home", "last", "boxes"] (Yj q1n):=⟨rfl,rfl,rfl,by decide +kernel,rfl,by decide +kernel,by decide +kernel⟩
theorem q4W{f_stops:Addr}{d_stops:FuncData}{f_forest:Addr}{d_forest:FuncData}{f_gap_edges:Addr}{d_gap_edges:FuncData}{f_knots:Addr}{d_knots:FuncData}
  (F:Fun K "forest_arcs" "forest_arcs" q1n f fd)
  (c_stops:Cal P w K mg base 5 f_stops d_stops "stops" ["home", "last", "boxes"] 3 q0q)
  (c_forest:Cal P w K mg base 4 f_forest d_forest "forest" ["things", "knots", "edges"] 3 qW)
  (c_gap_edges:Cal P w K mg base 7 f_gap_edges d_gap_edges "gap_edges" ["home", "last", "boxes"] 3 q0v)
  (c_knots:Cal P w K mg base 8 f_knots d_knots "knots" ["home", "last", "boxes"] 3 q1c) :
  FnOk P w K mg base CX0 9 f fd ["home", "last", "boxes"] (spD K 3 q0b):=by
 have h:=fnD (P:=P) (w:=w) (mg:=mg) (base:=base) (k:=8) (body:=q1p) F q0w (λcdv A outer s H E hr =>
   (qb (qh (i:=3) q0w.nd rfl (Or.inl rfl) (Xc Yl))
   (qb (qh (i:=4) q0w.nd rfl (Or.inl rfl) (XD.toE (XE.toD (xc c_stops hr (Ye (vD 0) (Ye (vD 1) (Ye (vD 2) Yl)))))))
   (qb (q06 PassesOwn.never rfl (qt (XE.toD (xc c_forest hr (Ye (vD 4) (Ye (XE.toD (xc c_knots hr (Ye (vD 0) (Ye (vD 1) (Ye (vD 2) Yl))))) (Ye (XE.toD (xc c_gap_edges hr (Ye (vD 0) (Ye (vD 1) (Ye (vD 2) Yl))))) Yl)))))) (qg (i:=5) q0w.nd rfl (Or.inl rfl)) (qb (q1H (pv 3) (Y7 (Ye (XE.toD (Yk (vV 5) (XD.toV Yg))) (Ye (XE.toD (Yk (vV 5) (XD.toV Yg))) Yl))))
   (qe (q1H (pv 3) (Y7 (Ye (XE.toD (Yk (vV 5) (XD.toV Yg))) (Ye (XE.toD (Yk (vV 5) (XD.toV Yg))) Yl)))))))
   (qe (q3y (pv 3)))))))
 exact h
noncomputable def q1U:FS:=(Y5 (sIf (tOf (Yn oLt (vOf (Yh 0)) (vOf (X5 Wp (Yf (vOf (Yh 2)) Ys))))) (Xi (eOf (Wj (Yf (fC (.str "box")) (Yf (dOf (Yh 0)) (Yf (dOf (Yn oIx (vOf (Yh 1)) (fC (.int 0)))) (Yf (dOf (Yn oIx (vOf (Yh 1)) (fC (.int 1)))) Ys))))))) Wm)
  (Xi (eOf (Wj (Yf (fC (.str "go")) (Yf (dOf (Yn oIx (vOf (Yh 1)) (fC (.int 0)))) (Yf (dOf (Yn oIx (vOf (Yh 1)) (fC (.int 1)))) Ys)))))))
noncomputable def q0O:List D->Option O:=mir 3 q1U
abbrev q1M:Stmt:=top 36
theorem q7H:FnScope ["number", "arc", "boxes"] ["number", "arc", "boxes"] (Yj q1M):=⟨rfl,rfl,rfl,by decide +kernel,rfl,by decide +kernel,by decide +kernel⟩
theorem q6m 
  (F:Fun K "move_along" "move_along" q1M f fd)
  (z_len:mg "len" = none) :
  FnOk P w K mg base CX0 1 f fd ["number", "arc", "boxes"] (spD K 3 q0O):=by
 have h:=fnD (P:=P) (w:=w) (mg:=mg) (base:=base) (k:=0) (body:=q1U) F q7H (λcdv A outer s H E hr =>
   (qb (qY (q6u (vV 0) (XE.toV (qB qm q01 rfl z_len q04 (qi (vV 2) qp)))) (qe (qj (XD.toE (Y7 (Ye zAt (Ye (vD 0) (Ye (XE.toD (Yk (vV 1) (XD.toV Yg))) (Ye (XE.toD (Yk (vV 1) (XD.toV Yg))) Yl)))))))) qz)
   (qe (qj (XD.toE (Y7 (Ye zAt (Ye (XE.toD (Yk (vV 1) (XD.toV Yg))) (Ye (XE.toD (Yk (vV 1) (XD.toV Yg))) Yl)))))))))
 exact h
noncomputable def q5G:FD:=(dOf (Yu q0O (Yf (dOf (Yh 0)) (Yf (dOf (Yn oIx (vOf (Yh 2)) (vOf (Yh 0)))) (Yf (dOf (Yh 1)) Ys)))))
noncomputable def q7U:FS:=(Y5 (XH 3 (eOf (dOf (Yn X4 (vOf (Yu q03 (Yf (dOf (Yh 0)) (Yf (dOf (Yh 1)) (Yf (dOf (Yh 2)) Ys))))) (vOf (Yu q0b (Yf (dOf (Yh 0)) (Yf (dOf (Yh 1)) (Yf (dOf (Yh 2)) Ys)))))))))
  (Y5 (XH 4 (eOf (dOf (Yn X4 (vOf (Yh 2)) (vOf (Yh 3))))))
  (Xi (XU 1 [2,4] (X8 (dOf (Yu qO (Yf (dOf (Yh 0)) (Yf (dOf (Yh 1)) (Yf (dOf (Yh 4)) Ys)))))) (gN 0) Xk q5G))))
noncomputable def q3f:List D->Option O:=mir 5 q7U
abbrev q6Q:Stmt:=top 37
theorem q6U:FnScope ["home", "last", "boxes", "empty", "arcs"] ["home", "last", "boxes"] (Yj q6Q):=⟨rfl,rfl,rfl,by decide +kernel,rfl,by decide +kernel,by decide +kernel⟩
theorem qdz{f_lacking_arcs:Addr}{d_lacking_arcs:FuncData}{f_forest_arcs:Addr}{d_forest_arcs:FuncData}{f_row_between:Addr}{d_row_between:FuncData}{f_move_along:Addr}{d_move_along:FuncData}
  (F:Fun K "tour" "tour" q6Q f fd)
  (c_lacking_arcs:Cal P w K mg base 8 f_lacking_arcs d_lacking_arcs "lacking_arcs" ["home", "last", "boxes"] 3 q03)
  (c_forest_arcs:Cal P w K mg base 9 f_forest_arcs d_forest_arcs "forest_arcs" ["home", "last", "boxes"] 3 q0b)
  (c_row_between:Cal P w K mg base 4 f_row_between d_row_between "row_between" ["home", "last", "arcs"] 3 qO)
  (c_move_along:Cal P w K mg base 1 f_move_along d_move_along "move_along" ["number", "arc", "boxes"] 3 q0O) :
  FnOk P w K mg base CX0 10 f fd ["home", "last", "boxes"] (spD K 3 q3f):=by
 have h:=fnD (P:=P) (w:=w) (mg:=mg) (base:=base) (k:=9) (body:=q7U) F q6U (λcdv A outer s H E hr =>
   (qb (qh (i:=3) q6U.nd rfl (Or.inl rfl) (XD.toE (XE.toD (qZ (XE.toV (xc c_lacking_arcs hr (Ye (vD 0) (Ye (vD 1) (Ye (vD 2) Yl))))) (XE.toV (xc c_forest_arcs hr (Ye (vD 0) (Ye (vD 1) (Ye (vD 2) Yl)))))))))
   (qb (qh (i:=4) q6U.nd rfl (Or.inr rfl) (XD.toE (XE.toD (qZ (vV 2) (vV 3)))))
   (qe (qj (q0D rfl (blk ["number"] ["boxes", "arcs"] [2,4] rfl (by decide +kernel) (by decide +kernel) rfl ⟨⟨rfl,(by first|exact Or.inl rfl|exact Or.inr rfl),rfl⟩,⟨⟨rfl,(by first|exact Or.inl rfl|exact Or.inr rfl),rfl⟩,trivial⟩⟩) (qt (XE.toD (xc c_row_between hr (Ye (vD 0) (Ye (vD 1) (Ye (vD 4) Yl)))))) (qD 0) (λ_ _ _ _=>⟨(qg (i:=0) (show ((["number"]:List Str)++(["boxes", "arcs"]:List Str):List Str).Nodup from by decide +kernel) rfl (Or.inl rfl)),q0r,(XE.toD (xc c_move_along hr (Ye (vD 0) (Ye (XE.toD (Yk (vV 2) (vV 0))) (Ye (vD 1) Yl)))))⟩)))))))
 exact h
noncomputable def q19:FS:=(Y5 (sIf (tOf (Yn oLt (vOf (Yh 1)) (vOf (X5 Wp (Yf (vOf (Yh 0)) Ys))))) (Xi (Yn oIx (vOf (Yh 0)) (vOf (Yh 1)))) Wm)
  (Xi (eOf (fC (.int 0)))))
noncomputable def qJ:List D->Option O:=mir 2 q19
abbrev q1a:Stmt:=top 39
theorem q4I:FnScope ["script", "k"] ["script", "k"] (Yj q1a):=⟨rfl,rfl,rfl,by decide +kernel,rfl,by decide +kernel,by decide +kernel⟩
theorem q4D 
  (F:Fun K "_law_cell_at" "_law_cell_at" q1a f fd)
  (z_len:mg "len" = none) :
  FnOk P w K mg base CX0 1 f fd ["script", "k"] (spD K 2 qJ):=by
 have h:=fnD (P:=P) (w:=w) (mg:=mg) (base:=base) (k:=0) (body:=q19) F q4I (λcdv A outer s H E hr =>
   (qb (qY (q6u (vV 1) (XE.toV (qB qm q01 rfl z_len q04 (qi (vV 0) qp)))) (qe (qj (Yk (vV 0) (vV 1)))) qz)
   (qe (qj (XD.toE Yg)))))
 exact h
noncomputable def q1G:FS:=(Y5 (sIf (tOf (Yn (oEq false) (vOf (Yn oMod (vOf (Yh 0)) (fC (.int 3)))) (fC (.int 0)))) (Xi (Yn zAu (vOf (Yn oMod (vOf (Yn oDiv (vOf (Yh 0)) (fC (.int 3)))) (fC (.int 19)))) (fC (.int 9)))) Wm)
  (Y5 (sIf (tOf (Yn (oEq false) (vOf (Yn oMod (vOf (Yh 0)) (fC (.int 3)))) (fC (.int 1)))) (Xi (Yn zAu (vOf (Yn oMod (vOf (Yn oDiv (vOf (Yh 0)) (fC (.int 3)))) (fC (.int 2001)))) (fC (.int 1000)))) Wm)
  (Xi (Yn zAu (vOf (Yn oMod (vOf (Yn oDiv (vOf (Yh 0)) (fC (.int 3)))) (vOf (Yn X4 (vOf (Yn zCH (fC (.int 2)) (vOf (Yn oPow (fC (.int 10)) (fC (.int 39)))))) (fC (.int 1)))))) (vOf (Yn oPow (fC (.int 10)) (fC (.int 39))))))))
noncomputable def q0i:List D->Option O:=mir 1 q1G
abbrev q1J:Stmt:=top 40
theorem q6T:FnScope ["cell"] ["cell"] (Yj q1J):=⟨rfl,rfl,rfl,by decide +kernel,rfl,by decide +kernel,by decide +kernel⟩
theorem q6k 
  (F:Fun K "_law_place" "_law_place" q1J f fd) :
  FnOk P w K mg base CX0 1 f fd ["cell"] (spD K 1 q0i):=by
 have h:=fnD (P:=P) (w:=w) (mg:=mg) (base:=base) (k:=0) (body:=q1G) F q6T (λcdv A outer s H E hr =>
   (qb (qY (Wn hr.units (XE.toV (qH (vV 0) (XD.toV Yg))) (XD.toV Yg)) (qe (qj (q0S (XE.toV (qH (XE.toV (q08 (vV 0) (XD.toV Yg))) (XD.toV Yg))) (XD.toV Yg)))) qz)
   (qb (qY (Wn hr.units (XE.toV (qH (vV 0) (XD.toV Yg))) (XD.toV Yg)) (qe (qj (q0S (XE.toV (qH (XE.toV (q08 (vV 0) (XD.toV Yg))) (XD.toV Yg))) (XD.toV Yg)))) qz)
   (qe (qj (q0S (XE.toV (qH (XE.toV (q08 (vV 0) (XD.toV Yg))) (XE.toV (qZ (XE.toV (qbf (XD.toV Yg) (XE.toV (qbE (XD.toV Yg) (XD.toV Yg))))) (XD.toV Yg))))) (XE.toV (qbE (XD.toV Yg) (XD.toV Yg)))))))))
 exact h
noncomputable def q2j:FD:=(dOf (Yu q0i (Yf (dOf (Yu qJ (Yf (dOf (Yh 1)) (Yf (dOf (Yn X4 (fC (.int 1)) (vOf (Yh 0)))) Ys)))) Ys)))
noncomputable def q0Z:FS:=(Y5 (XH 7 (eOf (dOf (Yn oIx (vOf (Yh 4)) (vOf (Yn oMod (vOf (Yh 6)) (vOf (Yh 3))))))))
  (Y5 (XH 8 (eOf (dOf (Yn oIx (vOf (Yh 4)) (vOf (Yn oMod (vOf (Yn oDiv (vOf (Yh 6)) (vOf (Yh 3)))) (vOf (Yh 3))))))))
  (Y5 (sIf (tOf (Yn oLt (vOf (X5 Wp (Yf (vOf (Yh 5)) Ys))) (vOf (Yh 1)))) (zBa 5 (Wj (Yf (dOf (Yh 7)) (Yf (dOf (Yh 8)) Ys)))) Wm)
  (sIf (zAF (tOf (Yn oLt (vOf (X5 Wp (Yf (vOf (Yh 5)) Ys))) (vOf (Yh 1)))) (zBo (tOf (Yn (oEq false) (vOf (Yn oMod (vOf (Yn oDiv (vOf (Yh 2)) (fC (.int 4096)))) (fC (.int 3)))) (fC (.int 1)))) (zAF (tOf (Yn (oEq false) (vOf (Yn oMod (vOf (Yn oDiv (vOf (Yh 2)) (fC (.int 4096)))) (fC (.int 3)))) (fC (.int 2)))) (tOf (Yn (oEq false) (vOf (Yn oMod (vOf (Yn oDiv (vOf (Yh 6)) (fC (.int 64)))) (fC (.int 2)))) (fC (.int 1))))))) (zBa 5 (Wj (Yf (dOf (Yh 8)) (Yf (dOf (Yh 7)) Ys)))) Wm))))
noncomputable def q1r:FS:=(Y5 (XH 2 (eOf (dOf (Yn oMod (vOf (Yn zCH (vOf (Yu qJ (Yf (dOf (Yh 0)) (Yf (fC (.int 0)) Ys)))) (fC (.int 48271)))) (fC (.int 65537))))))
  (Y5 (XH 3 (eOf (dOf (Yn zAu (fC (.int 8)) (vOf (Yn oMod (vOf (Yh 2)) (fC (.int 8))))))))
  (Y5 (XH 4 (XU 1 [0] (iRg1 (Yf (vOf (Yh 3)) Ys)) (gN 0) Xk q2j))
  (XR 4 (Y5 (XH 5 (zAP Ys))
  (Y5 (Wz (X8 (dOf (fSl (vOf (Yh 0)) (pAt (fC (.int 9))) (pAt (vOf (Yn X4 (fC (.int 9)) (vOf (Yn oIx (vOf (zAP (Yf (dOf (Yh 1)) (Yf (fC (.int 3)) (Yf (fC (.int 1)) (Yf (fC (.int 5)) (Yf (fC (.int 0)) (Yf (fC (.int 2)) (Yf (dOf (Yh 1)) (Yf (fC (.int 4)) Ys)))))))))) (vOf (Yn oMod (vOf (Yn oDiv (vOf (Yh 2)) (fC (.int 512)))) (fC (.int 8)))))))))))) (gN 6) q0Z)
  (Y5 (XH 9 (eOf (dOf (Yn oIx (vOf (Yh 4)) (vOf (Yn oMod (vOf (Yn oDiv (vOf (Yh 2)) (fC (.int 8)))) (vOf (Yh 3))))))))
  (Y5 (sIf (tOf (Yn (oEq false) (vOf (Yn oMod (vOf (Yn oDiv (vOf (Yh 2)) (fC (.int 12288)))) (fC (.int 2)))) (fC (.int 0)))) (XR 5 (Xi (eOf (Wj (Yf (dOf (Yh 9)) (Yf (dOf (Yh 9)) (Yf (dOf (Yh 5)) Ys))))))) Wm)
  (XR 5 (Xi (eOf (Wj (Yf (dOf (Yh 9)) (Yf (dOf (Yn oIx (vOf (Yh 4)) (vOf (Yn oMod (vOf (Yn oDiv (vOf (Yh 2)) (fC (.int 64)))) (vOf (Yh 3)))))) (Yf (dOf (Yh 5)) Ys)))))))))))))))
noncomputable def q0c:List D->Option O:=mir 10 q1r
abbrev q1s:Stmt:=top 41
theorem qx:FnScope ["script", "most", "head", "many", "spots", "boxes", "cell", "one", "other", "home"] ["script", "most"] (Yj q1s):=⟨rfl,rfl,rfl,by decide +kernel,rfl,by decide +kernel,by decide +kernel⟩
theorem q5H{f__law_cell_at:Addr}{d__law_cell_at:FuncData}{f__law_place:Addr}{d__law_place:FuncData}
  (F:Fun K "_law_errand" "_law_errand" q1s f fd)
  (c__law_cell_at:Cal P w K mg base 1 f__law_cell_at d__law_cell_at "_law_cell_at" ["script", "k"] 2 qJ)
  (c__law_place:Cal P w K mg base 1 f__law_place d__law_place "_law_place" ["cell"] 1 q0i)
  (z_range:mg "range" = none)
  (z_len:mg "len" = none) :
  FnOk P w K mg base CX0 2 f fd ["script", "most"] (spD K 2 q0c):=by
 have h:=fnD (P:=P) (w:=w) (mg:=mg) (base:=base) (k:=1) (body:=q1r) F qx (λcdv A outer s H E hr =>
   (qb (qh (i:=2) qx.nd rfl (Or.inl rfl) (XD.toE (XE.toD (qH (XE.toV (qbf (XE.toV (xc c__law_cell_at hr (Ye (vD 0) (Ye Yg Yl)))) (XD.toV Yg))) (XD.toV Yg)))))
   (qb (qh (i:=3) qx.nd rfl (Or.inl rfl) (XD.toE (XE.toD (q0S (XD.toV Yg) (XE.toV (qH (vV 2) (XD.toV Yg)))))))
   (qb (q0W (i:=4) rfl qx.nd rfl rfl (blk ["k"] ["script"] [0] rfl (by decide +kernel) (by decide +kernel) rfl ⟨⟨rfl,(by first|exact Or.inl rfl|exact Or.inr rfl),rfl⟩,trivial⟩) (q6i rfl z_range (qi (vV 3) qp)) (qD 0) (λ_ _ _ _=>⟨(qg (i:=0) (show ((["k"]:List Str)++(["script"]:List Str):List Str).Nodup from by decide +kernel) rfl (Or.inl rfl)),q0r,(XE.toD (xc c__law_place hr (Ye (XE.toD (xc c__law_cell_at hr (Ye (vD 1) (Ye (XE.toD (qZ (XD.toV Yg) (vV 0))) Yl)))) Yl)))⟩))
   (qC 4 (qb (qh (i:=5) qx.nd rfl (Or.inl rfl) (Xc Yl))
   (qb (q06 PassesOwn.never rfl (qt (XE.toD (X6 (vV 0) (WH (XD.toV Yg)) (WH (XE.toV (qZ (XD.toV Yg) (XE.toV (Yk (XE.toV (Xc (Ye (vD 1) (Ye Yg (Ye Yg (Ye Yg (Ye Yg (Ye Yg (Ye (vD 1) (Ye Yg Yl)))))))))) (XE.toV (qH (XE.toV (q08 (vV 2) (XD.toV Yg))) (XD.toV Yg))))))))))) (qg (i:=6) qx.nd rfl (Or.inl rfl)) (qb (qh (i:=7) qx.nd rfl (Or.inl rfl) (XD.toE (XE.toD (Yk (vV 4) (XE.toV (qH (vV 6) (vV 3)))))))
   (qb (qh (i:=8) qx.nd rfl (Or.inl rfl) (XD.toE (XE.toD (Yk (vV 4) (XE.toV (qH (XE.toV (q08 (vV 6) (vV 3))) (vV 3)))))))
   (qb (qY (q6u (XE.toV (qB qm q01 rfl z_len q04 (qi (vV 5) qp))) (vV 1)) (qe (q1H (pv 5) (Y7 (Ye (vD 7) (Ye (vD 8) Yl))))) qz)
   (qe (qY (XW.toT (q4t (q6u (XE.toV (qB qm q01 rfl z_len q04 (qi (vV 5) qp))) (vV 1)) (q3x (XW.toT (q4m (Wn hr.units (XE.toV (qH (XE.toV (q08 (vV 2) (XD.toV Yg))) (XD.toV Yg))) (XD.toV Yg)) (q4s (XW.toT (q4t (Wn hr.units (XE.toV (qH (XE.toV (q08 (vV 2) (XD.toV Yg))) (XD.toV Yg))) (XD.toV Yg)) (q3x (Wn hr.units (XE.toV (qH (XE.toV (q08 (vV 6) (XD.toV Yg))) (XD.toV Yg))) (XD.toV Yg))))))))))) (qe (q1H (pv 5) (Y7 (Ye (vD 8) (Ye (vD 7) Yl))))) qz))))))
   (qb (qh (i:=9) qx.nd rfl (Or.inl rfl) (XD.toE (XE.toD (Yk (vV 4) (XE.toV (qH (XE.toV (q08 (vV 2) (XD.toV Yg))) (vV 3)))))))
   (qb (qY (Wn hr.units (XE.toV (qH (XE.toV (q08 (vV 2) (XD.toV Yg))) (XD.toV Yg))) (XD.toV Yg)) (qC 5 (qe (qj (XD.toE (Y7 (Ye (vD 9) (Ye (vD 9) (Ye (vD 5) Yl)))))))) qz)
   (qC 5 (qe (qj (XD.toE (Y7 (Ye (vD 9) (Ye (XE.toD (Yk (vV 4) (XE.toV (qH (XE.toV (q08 (vV 2) (XD.toV Yg))) (vV 3))))) (Ye (vD 5) Yl)))))))))))))))))
 exact h
noncomputable def q6L:FD:=(Wj (Yf (dOf (Yh 0)) (Yf (dOf (Yh 1)) (Yf (dOf (Yn zAu (vOf (Yh 1)) (vOf (Yh 0)))) Ys))))
noncomputable def q6z:FD:=(Wj (Yf (dOf (Yn oIx (vOf (Yh 0)) (fC (.int 0)))) (Yf (dOf (Yn oIx (vOf (Yh 0)) (fC (.int 1)))) Ys)))
noncomputable def q7T:FT:=(tOf (Yn (oEq false) (vOf (Yn oIx (vOf (Yh 0)) (fC (.int 0)))) (fC (.str "go"))))
noncomputable def q6G:FD:=(dOf (Yh 0))
noncomputable def q7j:FS:=(sIf (zBo (tOf (Yn (zBS true) (vOf (Yn oIx (vOf (Yh 10)) (fC (.int 1)))) (vOf (Yh 4)))) (tOf (Yn (zBS true) (vOf (Yn oIx (vOf (Yh 10)) (fC (.int 2)))) (vOf (Yh 4))))) (Xi (eOf (fC (.bl false)))) Wm)
noncomputable def q7k:FT:=(zAF (tOf (Yn oLe (vOf (Yn oIx (vOf (Yh 0)) (fC (.int 1)))) (vOf (Yh 1)))) (tOf (Yn oLe (vOf (Yh 2)) (vOf (Yn oIx (vOf (Yh 0)) (fC (.int 2)))))))
noncomputable def q78:FD:=(dOf (Yh 0))
noncomputable def q7x:FT:=(zAF (tOf (Yn oLe (vOf (Yn oIx (vOf (Yh 0)) (fC (.int 2)))) (vOf (Yh 1)))) (tOf (Yn oLe (vOf (Yh 2)) (vOf (Yn oIx (vOf (Yh 0)) (fC (.int 1)))))))
noncomputable def q7f:FD:=(dOf (Yh 0))
noncomputable def q6w:FS:=(Y5 (sAsg (dOf (Yn oIx (vOf (Yh 5)) (vOf (Yh 11)))) (gT 2 (Y0 (gN 12) (Y0 (gN 13) Xn))))
  (Y5 (XH 14 (eOf (dOf (X5 Wp (Yf (vOf (XU 1 [12,13] (X8 (dOf (Yh 8))) (gN 0) q7k q78)) Ys)))))
  (Y5 (XH 15 (eOf (dOf (X5 Wp (Yf (vOf (XU 1 [12,13] (X8 (dOf (Yh 8))) (gN 0) q7x q7f)) Ys)))))
  (Y5 (XH 16 (eOf (dOf (X5 bInt (Yf (vOf (Yn (zBS false) (vOf (Yn oIx (vOf (Yh 5)) (vOf (Yh 11)))) (vOf (Yh 7)))) Ys)))))
  (sIf (zBo (tOf (Yn (oEq true) (vOf (Yh 14)) (vOf (Yn X4 (vOf (X5 zBb (Yf (vOf (Yn oIx (vOf (Yh 9)) (vOf (Yh 11)))) (Yf (fC (.int 0)) Ys)))) (vOf (Yh 16)))))) (tOf (Yn (oEq true) (vOf (Yh 15)) (vOf (Yn X4 (vOf (X5 zBb (Yf (vOf (Yn zAu (fC (.int 0)) (vOf (Yn oIx (vOf (Yh 9)) (vOf (Yh 11)))))) (Yf (fC (.int 0)) Ys)))) (vOf (Yh 16))))))) (Xi (eOf (fC (.bl false)))) Wm)))))
noncomputable def q9t:FS:=(Y5 (sAsg (dOf (Yu q0c (Yf (dOf (Yh 0)) (Yf (fC (.int 14)) Ys)))) (gT 3 (Y0 (gN 1) (Y0 (gN 2) (Y0 (gN 3) Xn)))))
  (Y5 (XH 4 (eOf (dOf (Yu q0q (Yf (dOf (Yh 1)) (Yf (dOf (Yh 2)) (Yf (dOf (Yh 3)) Ys)))))))
  (Y5 (XH 5 (eOf (dOf (Yu q07 (Yf (dOf (Yh 1)) (Yf (dOf (Yh 2)) (Yf (dOf (Yh 3)) Ys)))))))
  (Y5 (XH 6 (XU 2 [] (X8 (dOf (Yh 5))) (gT 2 (Y0 (gN 0) (Y0 (gN 1) Xn))) Xk q6L))
  (XR 6 (Y5 (XH 7 (XU 1 [] (X8 (dOf (Yu qW (Yf (dOf (Yh 4)) (Yf (dOf (Yu q1c (Yf (dOf (Yh 1)) (Yf (dOf (Yh 2)) (Yf (dOf (Yh 3)) Ys))))) (Yf (dOf (Yh 6)) Ys)))))) (gN 0) Xk q6z))
  (XR 7 (Y5 (XH 8 (XU 1 [] (X8 (dOf (Yu q3f (Yf (dOf (Yh 1)) (Yf (dOf (Yh 2)) (Yf (dOf (Yh 3)) Ys)))))) (gN 0) q7T q6G))
  (XR 8 (Y5 (XH 9 (eOf (dOf (Yu q0p (Yf (dOf (Yh 1)) (Yf (dOf (Yh 2)) (Yf (dOf (Yh 3)) Ys)))))))
  (Y5 (Wz (X8 (dOf (Yh 8))) (gN 10) q7j)
  (Y5 (Wz (iRg1 (Yf (vOf (X5 Wp (Yf (vOf (Yh 5)) Ys))) Ys)) (gN 11) q6w)
  (Xi (eOf (fC (.bl true))))))))))))))))
noncomputable def q3C:List D->Option O:=mir 17 q9t
abbrev q3o:Stmt:=top 42
theorem qQ:FnScope ["script", "home", "last", "boxes", "places", "some", "edges", "more", "empty", "told", "move", "k", "left", "right", "rights", "lefts", "once"] ["script"] (Yj q3o):=⟨rfl,rfl,rfl,by decide +kernel,rfl,by decide +kernel,by decide +kernel⟩
theorem qf3{f__law_errand:Addr}{d__law_errand:FuncData}{f_stops:Addr}{d_stops:FuncData}{f_gaps:Addr}{d_gaps:FuncData}{f_forest:Addr}{d_forest:FuncData}{f_knots:Addr}{d_knots:FuncData}{f_tour:Addr}{d_tour:FuncData}{f_lacks:Addr}{d_lacks:FuncData}
  (F:Fun K "law" "law" q3o f fd)
  (c__law_errand:Cal P w K mg base 2 f__law_errand d__law_errand "_law_errand" ["script", "most"] 2 q0c)
  (c_stops:Cal P w K mg base 5 f_stops d_stops "stops" ["home", "last", "boxes"] 3 q0q)
  (c_gaps:Cal P w K mg base 6 f_gaps d_gaps "gaps" ["home", "last", "boxes"] 3 q07)
  (c_forest:Cal P w K mg base 4 f_forest d_forest "forest" ["things", "knots", "edges"] 3 qW)
  (c_knots:Cal P w K mg base 8 f_knots d_knots "knots" ["home", "last", "boxes"] 3 q1c)
  (c_tour:Cal P w K mg base 10 f_tour d_tour "tour" ["home", "last", "boxes"] 3 q3f)
  (c_lacks:Cal P w K mg base 7 f_lacks d_lacks "lacks" ["home", "last", "boxes"] 3 q0p)
  (z_len:mg "len" = none)
  (z_range:mg "range" = none)
  (z_int:mg "int" = none)
  (z_max:mg "max" = none) :
  FnOk P w K mg base CX0 11 f fd ["script"] (spD K 1 q3C):=by
 have h:=fnD (P:=P) (w:=w) (mg:=mg) (base:=base) (k:=10) (body:=q9t) F qQ (λcdv A outer s H E hr =>
   (qb (qaV (XE.toD (xc c__law_errand hr (Ye (vD 0) (Ye Yg Yl)))) (q2k rfl (qA (qg (i:=1) qQ.nd rfl (Or.inl rfl)) (qA (qg (i:=2) qQ.nd rfl (Or.inl rfl)) (qA (qg (i:=3) qQ.nd rfl (Or.inl rfl)) q1B)))))
   (qb (qh (i:=4) qQ.nd rfl (Or.inl rfl) (XD.toE (XE.toD (xc c_stops hr (Ye (vD 1) (Ye (vD 2) (Ye (vD 3) Yl)))))))
   (qb (qh (i:=5) qQ.nd rfl (Or.inl rfl) (XD.toE (XE.toD (xc c_gaps hr (Ye (vD 1) (Ye (vD 2) (Ye (vD 3) Yl)))))))
   (qb (q0W (i:=6) rfl qQ.nd rfl rfl (blk ["left", "right"] [] [] rfl (by decide +kernel) (by decide +kernel) rfl trivial) (qt (vD 5)) (qbr (q1y (qD 0) (q1y (qD 1) q5Y))) (λ_ _ _ _=>⟨(q2k rfl (qA (qg (i:=0) (show ((["left", "right"]:List Str)++([]:List Str):List Str).Nodup from by decide +kernel) rfl (Or.inl rfl)) (qA (qg (i:=1) (show ((["left", "right"]:List Str)++([]:List Str):List Str).Nodup from by decide +kernel) rfl (Or.inl rfl)) q1B))),q0r,(Y7 (Ye (vD 0) (Ye (vD 1) (Ye (XE.toD (q0S (vV 1) (vV 0))) Yl))))⟩))
   (qC 6 (qb (q0W (i:=7) rfl qQ.nd rfl rfl (blk ["edge"] [] [] rfl (by decide +kernel) (by decide +kernel) rfl trivial) (qt (XE.toD (xc c_forest hr (Ye (vD 4) (Ye (XE.toD (xc c_knots hr (Ye (vD 1) (Ye (vD 2) (Ye (vD 3) Yl))))) (Ye (vD 6) Yl)))))) (qD 0) (λ_ _ _ _=>⟨(qg (i:=0) (show ((["edge"]:List Str)++([]:List Str):List Str).Nodup from by decide +kernel) rfl (Or.inl rfl)),q0r,(Y7 (Ye (XE.toD (Yk (vV 0) (XD.toV Yg))) (Ye (XE.toD (Yk (vV 0) (XD.toV Yg))) Yl)))⟩))
   (qC 7 (qb (q0W (i:=8) rfl qQ.nd rfl rfl (blk ["move"] [] [] rfl (by decide +kernel) (by decide +kernel) rfl trivial) (qt (XE.toD (xc c_tour hr (Ye (vD 1) (Ye (vD 2) (Ye (vD 3) Yl)))))) (qD 0) (λ_ _ _ _=>⟨(qg (i:=0) (show ((["move"]:List Str)++([]:List Str):List Str).Nodup from by decide +kernel) rfl (Or.inl rfl)),(q1A (Wn hr.units (XE.toV (Yk (vV 0) (XD.toV Yg))) (XD.toV zAt))),(vD 0)⟩))
   (qC 8 (qb (qh (i:=9) qQ.nd rfl (Or.inl rfl) (XD.toE (XE.toD (xc c_lacks hr (Ye (vD 1) (Ye (vD 2) (Ye (vD 3) Yl)))))))
   (qb (q06 PassesOwn.never rfl (qt (vD 8)) (qg (i:=10) qQ.nd rfl (Or.inl rfl)) (qe (qY (XW.toT (q4m (q5N hr.units (XE.toV (Yk (vV 10) (XD.toV Yg))) (vV 4)) (q4s (q5N hr.units (XE.toV (Yk (vV 10) (XD.toV Yg))) (vV 4))))) (qe (qj (XD.toE W0))) qz)))
   (qb (q06 PassesOwn.never rfl (q6i rfl z_range (qi (XE.toV (qB qm q01 rfl z_len q04 (qi (vV 5) qp))) qp)) (qg (i:=11) qQ.nd rfl (Or.inl rfl)) (qb (qaV (XE.toD (Yk (vV 5) (vV 11))) (q2k rfl (qA (qg (i:=12) qQ.nd rfl (Or.inr rfl)) (qA (qg (i:=13) qQ.nd rfl (Or.inr rfl)) q1B))))
   (qb (qh (i:=14) qQ.nd rfl (Or.inl rfl) (XD.toE (XE.toD (qB qm q01 rfl z_len q04 (qi (XE.toV (q0D rfl (blk ["move"] ["left", "right"] [12,13] rfl (by decide +kernel) (by decide +kernel) rfl ⟨⟨rfl,(by first|exact Or.inl rfl|exact Or.inr rfl),rfl⟩,⟨⟨rfl,(by first|exact Or.inl rfl|exact Or.inr rfl),rfl⟩,trivial⟩⟩) (qt (vD 8)) (qD 0) (λ_ _ _ _=>⟨(qg (i:=0) (show ((["move"]:List Str)++(["left", "right"]:List Str):List Str).Nodup from by decide +kernel) rfl (Or.inl rfl)),(q1A (XW.toT (q4t (q6v (XE.toV (Yk (vV 0) (XD.toV Yg))) (vV 1)) (q3x (q6v (vV 2) (XE.toV (Yk (vV 0) (XD.toV Yg)))))))),(vD 0)⟩))) qp)))))
   (qb (qh (i:=15) qQ.nd rfl (Or.inl rfl) (XD.toE (XE.toD (qB qm q01 rfl z_len q04 (qi (XE.toV (q0D rfl (blk ["move"] ["left", "right"] [12,13] rfl (by decide +kernel) (by decide +kernel) rfl ⟨⟨rfl,(by first|exact Or.inl rfl|exact Or.inr rfl),rfl⟩,⟨⟨rfl,(by first|exact Or.inl rfl|exact Or.inr rfl),rfl⟩,trivial⟩⟩) (qt (vD 8)) (qD 0) (λ_ _ _ _=>⟨(qg (i:=0) (show ((["move"]:List Str)++(["left", "right"]:List Str):List Str).Nodup from by decide +kernel) rfl (Or.inl rfl)),(q1A (XW.toT (q4t (q6v (XE.toV (Yk (vV 0) (XD.toV Yg))) (vV 1)) (q3x (q6v (vV 2) (XE.toV (Yk (vV 0) (XD.toV Yg)))))))),(vD 0)⟩))) qp)))))
   (qb (qh (i:=16) qQ.nd rfl (Or.inl rfl) (XD.toE (XE.toD (qdf qbe qeT rfl z_int qay (qi (XE.toV (qfK hr.units (XE.toV (Yk (vV 5) (vV 11))) (vV 7))) qp)))))
   (qe (qY (XW.toT (q4m (zBE hr.units (vV 14) (XE.toV (qZ (XE.toV (qB (q5S rfl) q8V rfl z_max qaB (qi (XE.toV (Yk (vV 9) (vV 11))) (qi (XD.toV Yg) qp)))) (vV 16)))) (q4s (zBE hr.units (vV 15) (XE.toV (qZ (XE.toV (qB (q5S rfl) q8V rfl z_max qaB (qi (XE.toV (q0S (XD.toV Yg) (XE.toV (Yk (vV 9) (vV 11))))) (qi (XD.toV Yg) qp)))) (vV 16))))))) (qe (qj (XD.toE W0))) qz)))))))
   (qe (qj (XD.toE W0))))))))))))))))
 exact h
end
set_option hygiene false
local macro_rules|`(tactic| simp_arith $c:optConfig [$xs,*])=>`(tactic| simp $c only[q4i,q4E,q4N,q7r,q7Z,q4J,e_wd,q7B,e_wz,q4M,q81,q5d,q9z,q7Y,q7m,q9n,q9W,q9R,q73,q9N,q4Q,q5j,qal,qaq,qah,q9Y,q5h,q5k,qI,q5K,q5i,qa6,qap,q5A,q4T,e_if,q7C,q7s,q9H,q56,q5y,q7O,q5C,qag,zAz,q9F,q4o,q2S,q5g,q4R,q9u,e_fs,qar,e_ag,e_gn,e_gt,e_gc,e_g0,qaf,q5s,q4K,e_c,e_e,e_ed,e_d,q58,q5f,e_v,q50,q5u,q5z,e_op,e_o2,q6E,e_cl,q5q,q5b,e_ac,e_ca,e_an,q9q,q9B,q9X,e_bl,q9K,e_sl,e_po,e_pa,e_ap,q9j,q7l,q7h,q9M,q2T,q3i,e_t,e_tr,q85,e_ta,qam,q9P,e_to,qae,q6J,e_tn,q6W,q4U,q4e,q6I,e_va,q9U,q88,q7A,qak,q7J,Wy,q4X,q4Y,q4V,q3J,q4O,q80,q71,q5n,q7n,q89,q7L,q5c,q9I,q9Q,qac,at0,at1,at2,q3t,q3v,zBR,entry,yM,yn,zL,xU,zB,zg,yc,ZD,yF,yA,xi,wC,wD,yq,xF,Zh,Zi,Z7,Z8,Z9,Zj,Zk,Zl,Zm,Zn,Zo,Zp,Zq,ZS,↓reduceIte,ww,Zr,xj,y9,ym,ZJ,wu,YA,xy,ZX,y8,beq_self_eq_true,zy,$xs,*])
set_option hygiene true
noncomputable def Yp(p:Int×Int):D:=.tup [.int p.1,.int p.2]
theorem q8M{ns:List Int}{k:Int}(h:0 <= k):qJ [.scr ns,.int k]=some (.sh (.int (ns.getD k.toNat 0))):=by
 unfold qJ q19
 by_cases hk:k < ns.length
 ·simp_arith[hk,decide_true,q0k h hk]
  simp[zS,zD (show k.toNat < ns.length by omega)]
 ·simp_arith[hk,decide_false]
  simp[zS,zn (show ns.length <= k.toNat by omega)]
noncomputable def place(c:Int):Int:=if c % 3=0 then c / 3 % 19 - 9 else if c % 3=1 then c / 3 % 2001 - 1000 else c / 3 % (2*10 ^ 39+1) - 10 ^ 39
theorem qcZ{c:Int}:q0i [.int c]=some (.sh (.int (place c))):=by
 unfold q0i q1G;have h8:oPow (.int 10) (.int 39)=some (.sh (.int (10 ^ 39))):=rfl;have h9:∀ x,zCH (.int 2) (.int x)=some (.sh (.int (2*x))):=λx=>qbU (by decide) (by decide);unfold place
 by_cases a:c % 3=0
 ·simp_arith[h8,h9,a]
 ·by_cases b:c % 3=1
  ·simp_arith[h8,h9,b]
   rfl
  ·have a':(c % 3 == 0)=false:=by simpa using a
   have b':(c % 3 == 1)=false:=by simpa using b
   simp_arith[h8,h9,a',b',a,b]
theorem qdx{xs:List Int}{i:Int}(h0:0 <= i)(h1:i < xs.length):∃ y,atI (xs.map D.int) i=some (.int y):=by
 rw[q0k h0 (by rw[zB];exact h1)];exact⟨_,by rw[xK]⟩
theorem q4z{xs:List Int}{c m:Int}(hm:0 < m)(h1:(xs.length:Int)=m):∃ y,atI (xs.map D.int) (c % m)=some (.int y) :=
 qdx (Int.emod_nonneg _ (by omega)) (by rw[h1];exact Int.emod_lt_of_pos _ hm)
theorem qf7{ds:List D}{i:Int}(P:D->Prop)(h0:0 <= i)(h1:i < ds.length)(h:∀ d∈ds,P d):∃ d,atI ds i=some d/\P d :=
 ⟨_,q0k h0 h1,h _ (yU _)⟩
theorem errand{ns:List Int}{most:Int}(h0:0 <= most)(h1:most <= 1000):∃ (home last:Int) (bs:List (Int×Int)),q0c [.scr ns,.int most]=some (.sh (.tup [.int home,.int last,.lst (bs.map Yp)]))/\(bs.length:Int) <= most:=by
 obtain⟨head,hh⟩:∃ h,ns.getD 0 0*48271 % 65537=h:=⟨_,rfl⟩;obtain⟨many,hm⟩:∃ h,8 - head % 8=h:=⟨_,rfl⟩;have hm0:0 < many:=by omega
 have hm8:many <= 8:=by omega
 have hmul:∀ x:Int,zCH (.int x) (.int 48271)=some (.sh (.int (x*48271))):=λx=>qbP (by decide) (by decide);have hdm:∀ x:Int,oDiv (.int x) (.int many)=some (.sh (.int (x / many))):=λx=>q3v hm0 (by omega);have hmm:∀ x:Int,oMod (.int x) (.int many)=some (.sh (.int (x % many))):=λx=>q3t hm0;have hr:rg1I (some [.int many])=some (upTo 0 many.toNat):=qdk ⟨by omega,by omega⟩;have hl:(upTo 0 many.toNat).length <= 1000000:=by rw[qcS];omega
 unfold q0c q1r;have hc0:=q8M (ns:=ns) (k:=0) (by decide);simp_arith[hc0,hmul,hh,hm,hdm,hmm,hr,Wy hl,inW,zAm];rw[q2R (onI λk=>place (ns.getD (1+k).toNat 0))]
 case h =>
  intro d hd;obtain⟨i,hi,rfl⟩:=qbM hd;unfold q2j;simp_arith[q8M (ns:=ns) (k:=1+(0+(i:Int))) (by omega),qcZ,onI]
 rw[qbT (λk=>place (ns.getD (1+k).toNat 0))];generalize hsp:(List.map (λi:Nat=>place (ns.getD (1+(0+(i:Int))).toNat 0)) (zf many.toNat))=spots;have hsl:(spots.length:Int)=many:=by rw[<- hsp,zB,zo];omega
 simp_arith[qI];have h8:0 <= head / 512 % 8/\head / 512 % 8 < 8:=by omega
 obtain⟨top,ht,_⟩:=qf7 (ds:=[.int most,.int 3,.int 1,.int 5,.int 0,.int 2,.int most,.int 4]) (i:=head / 512 % 8) (λd=>∃ k,d=D.int k) h8.1 h8.2 (by
  intro d hd;simp only[zF,zi,or_false] at hd;rcases hd with rfl|rfl|rfl|rfl|rfl|rfl|rfl|rfl <;> exact⟨_,rfl⟩)
 obtain⟨k,rfl⟩:=‹∃ k,top=D.int k›;simp_arith[ht,oSl];generalize cutD ns (some 9) (some (9+k))=cells;obtain⟨ω',e,bs,x6,x7,x8,rfl,hb⟩:=qbV (g:=gN 6) (b:=q0Z) (cells.map D.int)
  (λpre ω=>∃ (bs:List (Int×Int)) (x6 x7 x8:Option W),ω=[some (.sh (.scr ns)),some (.sh (.int most)),some (.sh (.int head)),some (.sh (.int many)),some (.sh (.lst (spots.map D.int))),some (.ow (bs.map Yp)),x6,x7,x8,none]/\(bs.length:Int) <= most)
  (λpre d post ω hd ⟨bs,x6,x7,x8,hω,hb⟩=>by
   obtain⟨c,hc,rfl⟩:∃ c,c∈cells/\D.int c=d:=by
    have:d∈cells.map D.int:=by rw[hd];simp
    obtain⟨c,h1,h2⟩:=z8.mp this;exact⟨c,h1,h2⟩
   subst hω;refine⟨_,rfl,?_⟩;obtain⟨one,h1⟩:=q4z (c:=c) hm0 hsl;obtain⟨other,h2⟩:=q4z (c:=c / many) hm0 hsl;unfold q0Z;have hlen:(bs.map Yp).length < 1000000:=by rw[zB];omega
   simp_arith[hdm,hmm,h1,h2,zB,zAz hlen]
   by_cases hc1:(bs.length:Int) < most
   ·simp_arith[hc1,decide_true,zAz hlen,zC,zB]
    have hlen2:(bs.map Yp++[D.tup [D.int one,D.int other]]).length < 1000000:=by rw[zC,zB,zU];omega
    have e1:bs.map Yp++[D.tup [D.int one,D.int other]]=(bs++[(one,other)]).map Yp:=by rw[zY];rfl
    generalize hq:(decide (((bs.length+1:Nat):Int) < most) && _)=q;cases q with
    | true =>
     have:=(wP.mp hq).1;have:=of_decide_eq_true this;simp_arith[zAz hlen2];refine⟨bs++[(one,other)]++[(other,one)],_,_,_,by rw[zY,<- e1];rfl,?_⟩;rw[zC,zC,zU,zU];omega
    | false =>
     simp_arith[qI];refine⟨bs++[(one,other)],_,_,_,by rw[<- e1],?_⟩;rw[zC,zU];omega
   ·simp_arith[hc1,decide_false,xj]
    exact⟨bs,_,_,_,rfl,hb⟩)
  ⟨[],none,none,none,rfl,by simpa using h0⟩
 obtain⟨home,g1⟩:=q4z (c:=head / 8) hm0 hsl;obtain⟨last,g2⟩:=q4z (c:=head / 64) hm0 hsl;simp only[yc] at e;simp_arith[e,hdm,hmm,g1,g2]
 by_cases hq:head / 12288 % 2=0
 ·simp_arith[hq]
  exact⟨home,home,bs,rfl,hb⟩
 ·have hq':(head / 12288 % 2 == 0)=false:=by simpa using hq
  simp_arith[hq',hmm,hdm,g2];exact⟨home,last,bs,rfl,hb⟩
inductive Rch (es:List (Int×Int)) (a:Int):Int->Prop where
 | refl:Rch es a a
 | step {b c:Int}:Rch es a b->((b,c)∈es\/(c,b)∈es)->Rch es a c
theorem Rch.trans{es:List (Int×Int)}{a b c:Int}(h:Rch es a b)(h':Rch es b c):Rch es a c:=by
 induction h' with
 | refl=>exact h
 | step _ e ih=>exact ih.step e
theorem Rch.symm{es:List (Int×Int)}{a b:Int}(h:Rch es a b):Rch es b a:=by
 induction h with
 | refl=>exact .refl
 | step _ e ih=>exact(Rch.refl.step e.symm).trans ih
theorem Rch.inv{es:List (Int×Int)}{a:Int}(P:Int->Prop)(h0:P a)(hs:∀ b c,P b->((b,c)∈es\/(c,b)∈es)->P c){c:Int}(h:Rch es a c):P c:=by
 induction h with
 | refl=>exact h0
 | step _ e ih=>exact hs _ _ ih e
theorem q3P{α β:Type}(f:α->β):∀ (ks:List Int) (xs:List α) (k:Int),Yw ks (xs.map f) k=(Yw ks xs k).map f
 | [],_,_=>rfl
 | _::_,[],_=>rfl
 | k'::ks,x::xs,k=>by
  show (if k'=k then some (f x) else Yw ks (xs.map f) k)=(if k'=k then some x else Yw ks xs k).map f
  by_cases z:k'=k
  ·rw[if_pos z,if_pos z];rfl
  ·rw[if_neg z,if_neg z,q3P f ks xs k]
theorem q1X{α:Type}:∀ {ks:List Int} {xs:List α} {k:Int},ks.length=xs.length->(Yw ks xs k).isSome=decide (k∈ks)
 | [],[],_,_=>rfl
 | [],_::_,_,h=>by simp at h
 | _::_,[],_,h=>by simp at h
 | k'::ks,x::xs,k,h=>by
  show (if k'=k then some x else Yw ks xs k).isSome=_
  by_cases z:k'=k
  ·rw[if_pos z];simp[z]
  ·have z':¬k=k':=λy=>z y.symm
   rw[if_neg z,q1X (by simpa using h)];simp[z']
theorem q40:∀ (ks:List Int) (xss:List (List Int)) (a' b a:Int),Yw ks (WK ks xss a' b) a=(Yw ks xss a).map λxs=>if a=a' then xs++[b] else xs
 | [],_,_,_,_=>rfl
 | _::_,[],_,_,_=>rfl
 | k::ks,x::xss,a',b,a=>by
  unfold WK
  by_cases z:k=a'
  ·rw[if_pos z]
   show (if k=a then some (x++[b]) else Yw ks xss a)=(if k=a then some x else Yw ks xss a).map _
   by_cases y:k=a
   ·rw[if_pos y,if_pos y,yn,if_pos (y▸z)]
   ·rw[if_neg y,if_neg y]
    have:¬a=a':=λe=>y (z.trans e.symm);cases Yw ks xss a with
    | none=>rfl
    | some v=>rw[yn,if_neg this]
  ·rw[if_neg z]
   show (if k=a then some x else Yw ks (WK ks xss a' b) a)=(if k=a then some x else Yw ks xss a).map _
   by_cases y:k=a
   ·have:¬a=a':=λe=>z (y.trans e)
    rw[if_pos y,if_pos y,yn,if_neg this]
   ·rw[if_neg y,if_neg y];exact q40 ks xss a' b a
theorem qds(ts:List Int)(a:Int)(ha:a∈ts):∀ (es:List (Int×Int)),∃ xs,Yw ts (nbT ts es) a=some xs/\∀ c,c∈xs↔((a,c)∈es\/(c,a)∈es):=by
 intro es;have key:∀ (post pre:List (Int×Int)) (T:List (List Int)) (xs:List Int),Yw ts T a=some xs->(∀ c,c∈xs↔((a,c)∈pre\/(c,a)∈pre))->∃ xs',Yw ts (post.foldl (Xz ts) T) a=some xs'/\∀ c,c∈xs'↔((a,c)∈pre++post\/(c,a)∈pre++post):=by
  intro post
  induction post with
  | nil=>intro pre T xs h1 h2;exact⟨xs,h1,by rw[zr];exact h2⟩
  | cons e post ih =>
   intro pre T xs h1 h2;have h3:Yw ts (Xz ts T e) a=some (let ys:=if a=e.1 then xs++[e.2] else xs;if a=e.2 then ys++[e.1] else ys):=by
    unfold Xz;rw[q40,q40,h1];rfl
   obtain⟨xs',g1,g2⟩:=ih (pre++[e]) (Xz ts T e) _ h3 (λc=>by
    obtain⟨e1,e2⟩:=e;have m:∀ x y:Int,(x,y)∈pre++[(e1,e2)]↔(x,y)∈pre\/(x=e1/\y=e2):=λx y=>by simp
    rw[m,m]
    by_cases y1:a=e1 <;> by_cases y2:a=e2 <;> simp[y1,y2,h2] <;> (try subst y1) <;> (try subst y2) <;> simp_all <;> grind)
   refine⟨xs',g1,λc=>?_⟩;rw[g2,zK];rfl
 have h0:Yw ts (ts.map λ_=>([]:List Int)) a=some []:=by
  have:(Yw ts (ts.map λ_=>([]:List Int)) a).isSome=true:=by rw[q1X (by rw[zB]),decide_eq_true ha]
  obtain⟨x,hx⟩:=yl.mp this;rw[q3P] at hx ⊢;obtain⟨y,hy,e⟩:=wG.mp hx;rw[hy];rfl
 obtain⟨xs',g1,g2⟩:=key es [] _ [] h0 (by simp);exact⟨xs',g1,by simpa using g2⟩
structure Ok (ts:List Int) (es:List (Int×Int)):Prop where
 nd:ts.Nodup
 inn:∀ e∈es,e.1∈ts/\e.2∈ts
 l1:ts.length < 64
 l2:es.length <= 1000
noncomputable def nbD(ts:List Int)(es:List (Int×Int)):List D:=(nbT ts es).map λxs=>.lst (xs.map D.int)
theorem q6p{ts:List Int}{es:List (Int×Int)}(h:Ok ts es):q0I [.lst (ts.map D.int),.lst (es.map Yi)]=some (.sh (.dic ts (nbD ts es))):=by
 have hl:=h.l1;have e:nbM (ts.map D.int) (es.map Yi)=some (.dic ts (nbD ts es)):=by
  unfold nbM;rw[q0o,q2d];exact if_pos ⟨h.nd,h.inn,by omega,h.l2⟩
 show outM ((nbM (ts.map D.int) (es.map Yi)).map _)=_;rw[e];rfl
theorem Rch.mem{ts:List Int}{es:List (Int×Int)}(h:Ok ts es){a c:Int}(ha:a∈ts)(r:Rch es a c):c∈ts :=
 r.inv (λx=>x∈ts) ha λb c _ e=>by
  rcases e with e|e
  ·exact(h.inn _ e).2
  ·exact(h.inn _ e).1
noncomputable def Xy(F:List Int):List D:=F.map λ_=>.bl true
theorem q67(F:List Int):F.length=(Xy F).length:=by unfold Xy;rw[zB]
theorem q90{F:List Int}{c:Int}(h:c∉F):X3 F c=F++[c]/\putA F (Xy F) c (.bl true)=Xy (F++[c]):=by
 unfold X3 putA Xy;rw[if_neg h,if_neg h,zY];exact⟨rfl,rfl⟩
theorem q17:∀ {F ts:List Int},F.Nodup->(∀ c∈F,c∈ts)->F.length <= ts.length
 | [],_,_,_=>zz _
 | a::r,ts,hn,hs=>by
  obtain⟨h1,h2⟩:=yS.mp hn;have ha:=hs a zG;have:=q17 (F:=r) (ts:=ts.erase a) h2 λc hc=>(List.mem_erase_of_ne (show c≠a from λz=>h1 (by rw[<- z];exact hc))).mpr (hs c (zH _ hc));rw[List.length_erase_of_mem ha] at this;have hp:0 < ts.length:=List.length_pos_of_mem ha;rw[zL];omega
structure GI (ts:List Int) (es:List (Int×Int)) (a:Int) (F Wt:List Int):Prop where
 nd:F.Nodup
 st:a∈F
 wl:Wt.length <= F.length
 w:∀ c∈Wt,c∈F
 r:∀ c∈F,Rch es a c
 cl:∀ b∈F,b∉Wt->∀ c,((b,c)∈es\/(c,b)∈es)->c∈F
theorem q8o{ts:List Int}{es:List (Int×Int)}(h:Ok ts es){a:Int}(ha:a∈ts) :
  ∃ F:List Int,q0P [.int a,.dic ts (nbD ts es)]=some (.fr ((Yt F).map D.int))/\F.Nodup/\∀ c,c∈F↔Rch es a c:=by
 unfold q0P q2y;simp_arith[qI];have hl1:=h.l1;obtain⟨ω',e,F,x4,x5,rfl,gi⟩:=qeQ (fc:=q1e) (fb:=q2b) (n:=1000000)
  (λω=>∃ (F Wt:List Int) (x4 x5:Option W),ω=[some (.sh (.int a)),some (.sh (.dic ts (nbD ts es))),some (.od F (Xy F)),some (.ow (Wt.map D.int)),x4,x5]/\GI ts es a F Wt)
  (λω=>match ω with
   | [_,_,some (.od F _),some (.ow w),_,_]=>(ts.length - F.length)+w.length
   | _=>0)
  (λω=>∃ (F:List Int) (x4 x5:Option W),ω=[some (.sh (.int a)),some (.sh (.dic ts (nbD ts es))),some (.od F (Xy F)),some (.ow []),x4,x5]/\GI ts es a F [])
  (λω ⟨F,Wt,x4,x5,hω,gi⟩ hf=>by
   subst hω;unfold q1e at hf;simp -implicitDefEqProofs only[q4i,q4E,q4N,q7r,q7Z,q4J,e_wd,q7B,e_wz,q4M,q81,q5d,q9z,q7Y,q7m,q9n,q9W,q9R,q73,q9N,q4Q,q5j,qal,qaq,qah,q9Y,q5h,q5k,qI,q5K,q5i,qa6,qap,q5A,q4T,e_if,q7C,q7s,q9H,q56,q5y,q7O,q5C,qag,zAz,q9F,q4o,q2S,q5g,q4R,q9u,e_fs,qar,e_ag,e_gn,e_gt,e_gc,e_g0,qaf,q5s,q4K,e_c,e_e,e_ed,e_d,q58,q5f,e_v,q50,q5u,q5z,e_op,e_o2,q6E,e_cl,q5q,q5b,e_ac,e_ca,e_an,q9q,q9B,q9X,e_bl,q9K,e_sl,e_po,e_pa,e_ap,q9j,q7l,q7h,q9M,q2T,q3i,e_t,e_tr,q85,e_ta,qam,q9P,e_to,qae,q6J,e_tn,q6W,q4U,q4e,q6I,e_va,q9U,q88,q7A,qak,q7J,Wy,q4X,q4Y,q4V,q3J,q4O,q80,q71,q5n,q7n,q89,q7L,q5c,q9I,q9Q,qac,at0,at1,at2,q3t,q3v,zBR,entry,yM,yn,zL,xU,zB,zg,yc,ZD,yF,yA,xi,wC,wD,yq,xF,Zh,Zi,Z7,Z8,Z9,Zj,Zk,Zl,Zm,Zn,Zo,Zp,Zq,ZS,↓reduceIte,ww,Zr,xj,y9,ym,ZJ,wu,YA,xy,ZX,y8,beq_self_eq_true,zy] at hf;cases Wt with
   | nil=>exact⟨F,x4,x5,rfl,gi⟩
   | cons w r=>cases hf)
  (λω ⟨F,Wt,x4,x5,hω,gi⟩=>by
   subst hω;refine⟨!Wt.isEmpty,?_,λhk=>?_⟩
   ·unfold q1e
    simp_arith[qI];cases Wt <;> rfl
   ·obtain⟨Wr,here,rfl⟩:∃ Wr here,Wt=Wr++[here]:=by
     cases Wt with
     | nil=>cases hk
     | cons w r=>exact⟨(w::r).dropLast,(w::r).getLast (by simp),(wS _).symm⟩
    have hF:here∈F:=gi.w here (by simp);have hts:here∈ts:=(gi.r here hF).mem h ha;obtain⟨xs,v1,v2⟩:=qds ts here hts es;have vd:Yw ts (nbD ts es) here=some (.lst (xs.map D.int)):=by unfold nbD;rw[q3P,v1];rfl
    have ew:(Wr++[here]).map D.int=Wr.map D.int++[D.int here]:=by rw[zY];rfl
    have ffl:=q17 gi.nd λc hc=>(gi.r c hc).mem h ha;unfold q2b;rw[ew];simp_arith[qet,vd];obtain⟨ω',e,F',W',x5',rfl,i1,i2,i3,i4,i5,i6,i7,i8⟩:=qF (g:=gN 5) (b:=q2e) D.int xs
     (λpre ω=>∃ (F' W':List Int) (x5:Option W),ω=[some (.sh (.int a)),some (.sh (.dic ts (nbD ts es))),some (.od F' (Xy F')),some (.ow (W'.map D.int)),some (.sh (.int here)),x5]/\F'.Nodup/\(∀ c∈F,c∈F')/\(∀ c∈Wr,c∈W')/\(∀ c∈W',c∈F')/\(∀ c∈F',Rch es a c)/\(∀ c∈F',c∈F\/c∈W')/\(∀ c∈pre,c∈F')/\F'.length+Wr.length=F.length+W'.length)
     (λpre c post ω hd ⟨F',W',x5,hω,i1,i2,i3,i4,i5,i6,i7,i8⟩=>by
      subst hω;refine⟨_,rfl,?_⟩;have hcx:c∈xs:=by rw[hd];simp
      have hcr:Rch es a c:=(gi.r here hF).step ((v2 c).mp hcx);have fl:=q17 i1 λc hc=>(i5 c hc).mem h ha;have hs:(Yw F' (Xy F') c).isSome=decide (c∈F'):=q1X (q67 F');unfold q2e
      by_cases hc:c∈F'
      ·simp_arith[hs,hc,decide_true]
       exact⟨F',W',_,rfl,i1,i2,i3,i4,i5,i6,λx hx=>(by rcases zN.mp hx with y|y;exact i7 x y;cases zT.mp y;exact hc),i8⟩
      ·obtain⟨p1,p2⟩:=q90 hc
       have hwl:(W'.map D.int).length < 1000000:=by
        rw[zB];have:=gi.wl;rw[zC,zU] at this;omega
       simp_arith[hs,hc,decide_false,q2o (show F'.length < 1000000 by omega),p1,p2,zAz hwl];refine⟨F'++[c],W'++[c],_,by rw[zY];rfl,?_,λx hx=>zV _ (i2 x hx),λx hx=>zV _ (i3 x hx),λx hx=>?_,λx hx=>?_,λx hx=>?_,λx hx=>?_,by rw[zC,zC,zU];omega⟩
       ·rw[yV]
        exact⟨i1,by simp,λx hx y hy z=>by cases zT.mp hy;exact hc (z▸hx)⟩
       ·rcases zN.mp hx with y|y
        ·exact zV _ (i4 x y)
        ·exact zQ _ y
       ·rcases zN.mp hx with y|y
        ·exact i5 x y
        ·cases zT.mp y;exact hcr
       ·rcases zN.mp hx with y|y
        ·exact(i6 x y).elim .inl λz=>.inr (zV _ z)
        ·exact .inr (zQ _ y)
       ·rcases zN.mp hx with y|y
        ·exact zV _ (i7 x y)
        ·exact zQ _ y)
     (ω:=[some (.sh (.int a)),some (.sh (.dic ts (nbD ts es))),some (.od F (Xy F)),some (.ow (Wr.map D.int)),some (.sh (.int here)),x5])
     ⟨F,Wr,x5,rfl,gi.nd,λc hc=>hc,λc hc=>hc,λc hc=>gi.w c (zV _ hc),gi.r,λc hc=>.inl hc,λc hc=>(by cases hc),rfl⟩
    have fl':=q17 i1 λc hc=>(i5 c hc).mem h ha;simp_arith[e];have wl0:=gi.wl;rw[zC,zU] at wl0;refine⟨⟨F',W',_,_,rfl,i1,i2 a gi.st,by omega,i4,i5,λb hb hw c hc=>?_⟩,?_⟩
    ·rcases i6 b hb with y|y
     ·by_cases z:b=here
      ·subst z
       exact i7 c ((v2 c).mpr hc)
      ·exact i2 c (gi.cl b y (λm=>by rcases zN.mp m with m|m;exact hw (i3 b m);exact z (zT.mp m)) c hc)
     ·exact absurd y hw
    ·show (ts.length - F'.length)+(W'.map D.int).length < (ts.length - F.length)+(Wr.map D.int++[D.int here]).length
     rw[zB,zC,zB,zU];omega)
  (ω:=[some (.sh (.int a)),some (.sh (.dic ts (nbD ts es))),some (.od [a] [.bl true]),some (.ow [.int a]),none,none])
  ⟨[a],[a],none,none,rfl,by simp,by simp,zJ _,λc hc=>hc,λc hc=>by cases zT.mp hc;exact .refl,λb hb hw=>absurd hb hw⟩
  (by show (ts.length - 1)+1 < 1000000;omega)
 have fl:=q17 gi.nd λc hc=>(gi.r c hc).mem h ha;simp_arith[e,qcs (show F.length < 64 by omega)];exact⟨F,rfl,gi.nd,λc=>⟨gi.r c,λr=>r.inv (λx=>x∈F) gi.st λb c hb hc=>gi.cl b hb (by simp) c hc⟩⟩
noncomputable def gD(g:List Int):D:=.lst (g.map D.int)
structure Cls (ts:List Int) (es:List (Int×Int)) (g:List Int) (a:Int):Prop where
 inn:a∈ts
 up:g.Pairwise (· < ·)
 mem:∀ c,c∈g↔Rch es a c
 hd:g.head?=some a
theorem qe1{F:List Int}(h:F.Nodup):(Yt F).Pairwise (· < ·):=by
 have h1:(Yt F).Nodup:=(qq (l:=F)).nodup_iff.mpr h;have h2:=q0m (l:=F);have:=List.Pairwise.and h2 h1;exact this.imp λ{a b} h=>(by have h1:=h.1;have h2:=h.2;omega)
theorem qeX{ts:List Int}{es:List (Int×Int)}{F:List Int}{a:Int}(ha:a∈ts)(hn:F.Nodup)(hm:∀ c,c∈F↔Rch es a c)(least:∀ c∈F,a <= c):Cls ts es (Yt F) a:=by
 have pm:=qq (l:=F);have up:=qe1 hn;refine⟨ha,up,λc=>by rw[pm.mem_iff,hm],?_⟩;have haF:a∈Yt F:=pm.mem_iff.mpr ((hm a).mpr .refl);cases q:Yt F with
 | nil=>rw[q] at haF;cases haF
 | cons b r =>
  rw[q] at haF up;have hb:a <= b:=least b (pm.mem_iff.mp (by rw[q];exact zG));rcases zF.mp haF with rfl|hr
  ·rfl
  ·have:=(zb.mp up).1 a hr
   omega
structure GS (ts:List Int) (es:List (Int×Int)) (gs:List (List Int)) (hs:List Int):Prop where
 len:gs.length=hs.length
 cls:∀ (j:Nat) g a,gs[j]?=some g->hs[j]?=some a->Cls ts es g a
 up:hs.Pairwise (· < ·)
theorem GS.snoc{ts:List Int}{es:List (Int×Int)}{gs:List (List Int)}{hs:List Int}(h:GS ts es gs hs){g:List Int}{a:Int}(c:Cls ts es g a)(hu:∀ b∈hs,b < a):GS ts es (gs++[g]) (hs++[a]):=by
 refine⟨by rw[zC,zC,h.len];rfl,λj g' a' e1 e2=>?_,?_⟩
 ·rcases zu j gs.length with z|z
  ·rw[zc z] at e1
   rw[zc (by rw[<- h.len];exact z)] at e2;exact h.cls j g' a' e1 e2
  ·rw[zW z] at e1
   rw[zW (by rw[<- h.len];exact z),<- h.len] at e2;cases hj:j - gs.length with
   | zero=>rw[hj] at e1 e2;cases e1;cases e2;exact c
   | succ n=>rw[hj] at e1;cases e1
 ·rw[zX]
  exact⟨h.up,by simp,λb hb c hc=>by cases zT.mp hc;exact hu b hb⟩
theorem GS.one{ts:List Int}{es:List (Int×Int)}{gs:List (List Int)}{hs:List Int}(h:GS ts es gs hs){g:List Int}(hg:g∈gs):∃ a∈hs,Cls ts es g a:=by
 obtain⟨j,hj,rfl⟩:=ze.mp hg;have hj2:j < hs.length:=by rw[<- h.len];exact hj
 exact⟨hs[j],yU _,h.cls j _ _ (zD hj) (zD hj2)⟩
theorem qbC{ts:List Int}{es:List (Int×Int)}(h:Ok ts es):∃ gs hs,q1d [.lst (ts.map D.int),.lst (es.map Yi)]=some (.fr (gs.map gD))/\GS ts es gs hs/\(∀ t∈ts,∃ g∈gs,t∈g)/\gs.length <= ts.length:=by
 unfold q1d q3T;have hl1:=h.l1;have sp:=qq (l:=ts);have sl:=q0m (l:=ts);simp_arith[q6p h,qdr hl1];obtain⟨ω',e,gs,hs,Gd,x5,x6,x7,rfl,i1,i2,i3,i4,i5,i6⟩:=qF (g:=gN 5) (b:=q3c) D.int (Yt ts)
  (λpre ω=>∃ (gs:List (List Int)) (hs Gd:List Int) (x5 x6 x7:Option W),ω=[some (.sh (.lst (ts.map D.int))),some (.sh (.lst (es.map Yi))),some (.sh (.dic ts (nbD ts es))),some (.od Gd (Xy Gd)),some (.ow (gs.map gD)),x5,x6,x7]/\GS ts es gs hs/\Gd.Nodup/\(∀ c,c∈Gd↔∃ g∈gs,c∈g)/\(∀ t∈pre,t∈Gd)/\(∀ a∈hs,a∈pre)/\gs.length <= pre.length)
  (λpre t post ω hd ⟨gs,hs,Gd,x5,x6,x7,hω,i1,i2,i3,i4,i5,i6⟩=>by
   subst hω;refine⟨_,rfl,?_⟩;have ht:t∈ts:=sp.mem_iff.mp (by rw[hd];simp);have hs1:(Yw Gd (Xy Gd) t).isSome=decide (t∈Gd):=q1X (q67 Gd);have gts:∀ c∈Gd,c∈ts:=λc hc=>by
    obtain⟨g,hg,hcg⟩:=(i3 c).mp hc;obtain⟨a,_,cl⟩:=i1.one hg;exact((cl.mem c).mp hcg).mem h cl.inn
   have plen:pre.length <= ts.length:=by rw[<- sp.length_eq,hd,zC];omega
   unfold q3c
   by_cases hc:t∈Gd
   ·simp_arith[hs1,hc,decide_true]
    exact⟨gs,hs,Gd,_,_,_,rfl,i1,i2,i3,λx hx=>(by rcases zN.mp hx with y|y;exact i4 x y;cases zT.mp y;exact hc),λa ha=>zV _ (i5 a ha),by rw[zC];omega⟩
   ·obtain⟨F,f1,f2,f3⟩:=q8o h ht
    have least:∀ c∈F,t <= c:=λc hcF=>by
     rcases Int.lt_or_le c t with z|z
     ·exfalso
      have rc:=(f3 c).mp hcF;have hcs:c∈Yt ts:=sp.mem_iff.mpr (rc.mem h ht);rw[hd] at hcs sl;have hcp:c∈pre:=by
       rcases zN.mp hcs with y|y
       ·exact y
       ·rcases zF.mp y with rfl|y
        ·omega
        ·have:=(zb.mp (zX.mp sl).2.1).1 c y
         omega
      obtain⟨g,hg,hcg⟩:=(i3 c).mp (i4 c hcp);obtain⟨a,_,cl⟩:=i1.one hg;exact hc ((i3 t).mpr ⟨g,hg,(cl.mem t).mpr (((cl.mem c).mp hcg).trans rc.symm)⟩)
     ·exact z
    have cl:=qeX ht f2 f3 least;have dis:∀ c∈Yt F,c∉Gd:=λc hcg hcG=>by
     obtain⟨g,hg,hcg'⟩:=(i3 c).mp hcG;obtain⟨a,_,cl'⟩:=i1.one hg;exact hc ((i3 t).mpr ⟨g,hg,(cl'.mem t).mpr (((cl'.mem c).mp hcg').trans ((cl.mem c).mp hcg).symm)⟩)
    have hgl:(gs.map gD).length < 1000000:=by rw[zB];omega
    simp_arith[hs1,hc,decide_false,f1,zAz hgl];obtain⟨ω',e,x7',rfl⟩:=qF (g:=gN 7) (b:=q37) D.int (Yt F)
     (λpre' ω=>∃ (x7:Option W),ω=[some (.sh (.lst (ts.map D.int))),some (.sh (.lst (es.map Yi))),some (.sh (.dic ts (nbD ts es))),some (.od (Gd++pre') (Xy (Gd++pre'))),some (.ow (gs.map gD++[.lst ((Yt F).map D.int)])),some (.sh (.int t)),some (.sh (.lst ((Yt F).map D.int))),x7])
     (λpre' c post' ω hd' ⟨x7,hω⟩=>by
      subst hω;refine⟨_,rfl,?_⟩;have ndF:(Yt F).Nodup:=(qq (l:=F)).nodup_iff.mpr f2;have hnew:c∉Gd++pre':=λm=>by
       rcases zN.mp m with y|y
       ·exact dis c (by rw[hd'];simp) y
       ·rw[hd',yV] at ndF
        exact ndF.2.2 c y c zG rfl
      obtain⟨p1,p2⟩:=q90 hnew;have hlen:(Gd++pre').length < 1000000:=by
       have z1:=q17 i2 gts;have z2:pre'.length <= ts.length:=by
        have a1:(Yt F).length <= ts.length:=by
         rw[(qq (l:=F)).length_eq];exact q17 f2 λc hc=>((f3 c).mp hc).mem h ht
        rw[hd',zC] at a1;omega
       rw[zC];omega
      unfold q37;simp_arith[q2o hlen,p1,p2,zK];exact⟨_,rfl⟩)
     (ω:=[some (.sh (.lst (ts.map D.int))),some (.sh (.lst (es.map Yi))),some (.sh (.dic ts (nbD ts es))),some (.od Gd (Xy Gd)),some (.ow (gs.map gD++[.lst ((Yt F).map D.int)])),some (.sh (.int t)),some (.sh (.lst ((Yt F).map D.int))),x7]) ⟨x7,by rw[zr]⟩
    simp_arith[e];refine⟨gs++[Yt F],hs++[t],Gd++Yt F,_,_,_,by rw[zY];rfl,i1.snoc cl λb hb=>?_,?_,λc=>?_,λx hx=>?_,λa ha=>?_,by rw[zC,zC,zU,zU];omega⟩
    ·have hbp:=i5 b hb
     rw[hd] at sl;have le:b <= t:=(zX.mp sl).2.2 b hbp t zG;have ne:b≠t:=λz=>hc (i4 t (z▸hbp));omega
    ·rw[yV]
     exact⟨i2,(qq (l:=F)).nodup_iff.mpr f2,λx hx y hy z=>dis y hy (z▸hx)⟩
    ·rw[zN,i3]
     constructor
     ·rintro(⟨g,hg,hcg⟩|hcF)
      ·exact⟨g,zV _ hg,hcg⟩
      ·exact⟨_,zQ _ (zT.mpr rfl),hcF⟩
     ·rintro⟨g,hg,hcg⟩
      rcases zN.mp hg with y|y
      ·exact .inl ⟨g,y,hcg⟩
      ·cases zT.mp y;exact .inr hcg
    ·rcases zN.mp hx with y|y
     ·exact zV _ (i4 x y)
     ·cases zT.mp y
      exact zQ _ ((cl.mem t).mpr .refl)
    ·rcases zN.mp ha with y|y
     ·exact zV _ (i5 a y)
     ·exact zQ _ y)
  (ω:=[some (.sh (.lst (ts.map D.int))),some (.sh (.lst (es.map Yi))),some (.sh (.dic ts (nbD ts es))),some (.od [] []),some (.ow []),none,none,none])
  ⟨[],[],[],none,none,none,rfl,⟨rfl,λj g a e=>(by simp at e),.nil⟩,xO,by simp,by simp,by simp,zJ _⟩
 simp_arith[e];refine⟨gs,hs,rfl,i1,λt ht=>?_,by rw[<- sp.length_eq];exact i6⟩;exact(i3 t).mp (i4 t (sp.mem_iff.mpr ht))
noncomputable def WC:D->Bool
 | .int _=>true
 | _=>false
noncomputable def nsD:D->Bool
 | .scr _=>false
 | .exc _=>false
 | .dic _ _=>false
 | _=>true
noncomputable def noScr:D->Bool
 | .scr _=>false
 | .exc _=>false
 | .dic _ _=>false
 | .tup [a,b]=>nsD a && nsD b
 | _=>true
noncomputable def isBoxL:List D->Bool
 | []=>false
 | [_]=>false
 | [a,b]=>WC a && WC b
 | _::_::_::_=>false
noncomputable def zBB:D->Bool
 | .tup ds=>isBoxL ds
 | _=>false
theorem q2v{d:D}(h:nsD d=true):qR [d]=some (.sh (.bl (WC d))):=by
 cases d <;> first|rfl|cases h
theorem qfW{d:D}(h:noScr d=true):q1V [d]=some (.sh (.bl (zBB d))):=by
 unfold q1V q3L
 match d,h with
 | .non,_=>rfl
 | .bl _,_=>rfl
 | .int _,_=>rfl
 | .str _,_=>rfl
 | .lst _,_=>rfl
 | .tup [],_=>rfl
 | .tup [_],_=>simp_arith[qI];rfl
 | .tup [a,b],h =>
  have h':=wP.mp (show (_ && _)=true from h);have ha:=q2v h'.1;have hb:=q2v h'.2;simp_arith[ha,hb];simp_arith[show (((0+1+1:Nat):Int) == 2)=true from rfl,ha,hb];cases a <;> cases b <;> rfl
 | .tup (a::b::c::r),_ =>
  have hn:(((a::b::c::r).length:Int) == 2)=false:=by
   simp only[zL,beq_eq_false_iff_ne,ne_eq];omega
  simp only[zL] at hn;simp_arith[hn];rfl
theorem q83:∀ (q:D->Bool) (ds:List D),allB (ds.map λd=>D.bl (q d))=some (ds.all q)
 | _,[]=>rfl
 | q,d::ds=>by
  show (allB (ds.map λd=>D.bl (q d))).map _=_;rw[q83 q ds];rfl
theorem qau{h l:D}{ds:List D}(hh:nsD h=true)(hl:nsD l=true)(hd:∀ d∈ds,noScr d=true)(hlen:ds.length <= 1000000) :
  q0e [h,l,.lst ds]=some (.sh (.bl (WC h && (WC l && ds.all zBB)))):=by
 unfold q0e q25;have e1:=q2v hh;have e2:=q2v hl;simp_arith[e1,e2,Wy hlen];cases WC h <;> cases WC l <;> simp_arith[e2,Wy hlen] <;> first|rfl|skip
 rw[q2R (λd=>D.bl (zBB d))]
 ·simp_arith[bAll,q83]
 ·intro d hd'
  unfold q36;simp_arith[inW,qfW (hd d hd')]
noncomputable def flat(bs:List (Int×Int)):List Int:=bs.flatMap λp=>[p.1,p.2]
noncomputable def plc(h l:Int)(bs:List (Int×Int)):List Int:=h::l::flat bs
theorem qcD(bs:List (Int×Int))(p:Int×Int):flat (bs++[p])=flat bs++[p.1,p.2]:=by simp[flat]
theorem q2E(bs:List (Int×Int)):(flat bs).length=2*bs.length:=by
 induction bs with
 | nil=>rfl
 | cons p r ih=>simp[flat] at ih ⊢;omega
theorem qeH(h l:Int)(bs:List (Int×Int))(p:Int×Int):plc h l (bs++[p])=plc h l bs++[p.1,p.2]:=by unfold plc;rw[qcD];rfl
theorem zAc(x:Int):nsD (.int x)=true:=rfl
theorem qbk(p:Int×Int):zBB (Yp p)=true:=rfl
theorem qb7(bs:List (Int×Int)):(bs.map Yp).all zBB=true:=by
 rw[List.all_map];exact xq.mpr λp _=>qbk p
theorem qaz{h l:Int}{bs:List (Int×Int)}(hb:bs.length <= 1000):q0e [.int h,.int l,.lst (bs.map Yp)]=some (.sh (.bl true)):=by
 have:=qau (h:=.int h) (l:=.int l) (ds:=bs.map Yp) (zAc h) (zAc l) (λd hd=>by
  obtain⟨p,_,rfl⟩:=z8.mp hd;rfl) (by rw[zB];omega)
 rw[qb7] at this;exact this
theorem qcL{h l:Int}{bs:List (Int×Int)}(hb:bs.length <= 1000):q00 [.int h,.int l,.lst (bs.map Yp)]=some (.sh .non):=by
 unfold q00 q16;simp_arith[qaz hb]
theorem q4f{h l:Int}{bs:List (Int×Int)}(hb:bs.length <= 30):q0q [.int h,.int l,.lst (bs.map Yp)]=some (.fr ((Y1 (plc h l bs)).map D.int)):=by
 unfold q0q q5B;simp_arith[qcL (show bs.length <= 1000 by omega)];obtain⟨ω',e,x4,rfl⟩:=qF (g:=gN 4) (b:=q3M) Yp bs
  (λpre ω=>∃ x4,ω=[some (.sh (.int h)),some (.sh (.int l)),some (.sh (.lst (bs.map Yp))),some (.ow ((plc h l pre).map D.int)),x4])
  (λpre p post ω hd ⟨x4,hω⟩=>by
   subst hω;refine⟨_,rfl,?_⟩;unfold q3M;have hl:(plc h l pre).length <= 1000:=by
    have:=congrArg xX hd;rw[zC,zL] at this;show (flat pre).length+1+1 <= 1000;rw[q2E];omega
   have e1:=q4o (i:=3) (ω:=[some (.sh (.int h)),some (.sh (.int l)),some (.sh (.lst (bs.map Yp))),some (.ow ((plc h l pre).map D.int)),some (.sh (Yp p))]) (ds:=(plc h l pre).map D.int) (ds':=[.int p.1,.int p.2]) (by rw[zB,zL,zU];omega);simp_arith[qI];show zAe (extS 3 _ (some (Yp p)) _) _;rw[show Yp p=D.tup [.int p.1,.int p.2] from rfl] at e1 ⊢;rw[e1,qeH,zY];exact⟨_,rfl⟩)
  (ω:=[some (.sh (.int h)),some (.sh (.int l)),some (.sh (.lst (bs.map Yp))),some (.ow [.int h,.int l]),none]) ⟨none,rfl⟩
 simp_arith[e];have hlen:(plc h l bs).length < 64:=by
  show (flat bs).length+1+1 < 64;rw[q2E];omega
 have:Wd (vOf (Yh 3)) [some (.sh (.int h)),some (.sh (.int l)),some (.sh (.lst (bs.map Yp))),some (.ow ((plc h l bs).map D.int)),x4]=some (.fr ((Y1 (plc h l bs)).map D.int)):=by
  show zAX (.lst ((plc h l bs).map D.int))=_;show (intsOf ((plc h l bs).map D.int)).bind _=_;rw[q0o];exact if_pos (qeN hlen)
 simp_arith[this]
noncomputable def Ym(P:List Int):List (Int×Int):=P.zip (P.drop 1)
theorem q0C(P:List Int):(Ym P).length=P.length - 1:=by
 unfold Ym;rw[xV,yE];omega
theorem qbQ{P:List Int}{i:Nat}(h:i+1 < P.length):(Ym P)[i]?=some (P[i],P[i+1]):=by
 unfold Ym;rw[yy];refine⟨zD (by omega),?_⟩;show (P.drop 1)[i]?=some P[i+1];rw[xQ,Nat.add_comm 1 i];exact zD h
theorem q60:∀ (xs ys:List Int),ZI pairD (xs.map D.int) (ys.map D.int)=(xs.zip ys).map Yp
 | [],_=>rfl
 | _::_,[]=>rfl
 | x::xs,y::ys=>by
  show _::ZI pairD (xs.map D.int) (ys.map D.int)=_::(xs.zip ys).map Yp;rw[q60 xs ys];rfl
theorem qca(ds:List D):cutD ds (some 1) none=ds.drop 1:=by
 unfold cutD;have e:HT.sIx ds.length 0 (some 1)=min 1 ds.length:=HT.q57 ds.length 0 1;rw[e,HT.q44];cases ds with
 | nil=>rfl
 | cons d r =>
  have:min 1 (d::r).length=1:=by rw[zL];omega
  rw[this];show List.take _ r=r;rw[zL,xP,ZB]
theorem q2g{h l:Int}{bs:List (Int×Int)}(hb:bs.length <= 30):q07 [.int h,.int l,.lst (bs.map Yp)]=some (.fr ((Ym (Y1 (plc h l bs))).map Yp)):=by
 unfold q07 q6D;have hz:WB [.lst ((Y1 (plc h l bs)).map D.int),.lst (cutD ((Y1 (plc h l bs)).map D.int) (some 1) none)]=some (.fr ((Ym (Y1 (plc h l bs))).map Yp)):=by
  rw[qca,<- wt];show some (R.fr (ZI pairD _ _))=_;rw[q60];rfl
 simp_arith[q4f hb,qdc,hz]
structure Stp (P:List Int):Prop where
 ne:P≠[]
 rise:P.Pairwise (· < ·)
 len:P.length <= 1000
theorem stp(h l:Int){bs:List (Int×Int)}(hb:bs.length <= 30):Stp (Y1 (plc h l bs)):=by
 refine⟨λe=>?_,q0H,?_⟩
 ·have:h∈Y1 (plc h l bs):=q20.mpr (by simp[plc])
  rw[e] at this;simp at this
 ·have:(Y1 (plc h l bs)).length <= (plc h l bs).length:=q23 _
  have h2:(plc h l bs).length=2*bs.length+2:=by show (flat bs).length+1+1=_;rw[q2E]
  omega
theorem Stp.lt{P:List Int}(S:Stp P){i j:Nat}(hi:i < P.length)(hj:j < P.length)(h:i < j):P[i] < P[j]:=yL.mp S.rise i j hi hj h
theorem Stp.le{P:List Int}(S:Stp P){i j:Nat}(hi:i < P.length)(hj:j < P.length)(h:i <= j):P[i] <= P[j]:=by
 rcases zu i j with z|z
 ·exact yg (S.lt hi hj z)
 ·have:i=j:=by omega
  subst this;exact yD _
theorem Stp.amid{P:List Int}(S:Stp P){i:Nat}(h:i+1 < P.length){x:Int}(hx:x∈P):x <= P[i]\/P[i+1] <= x:=by
 obtain⟨j,hj,rfl⟩:=ze.mp hx;rcases zu i j with z|z
 ·right;exact S.le h hj z
 ·left;exact S.le hj (by omega) z
theorem q2n(a b:Int):Yp (a,b)=.tup [.int a,.int b]:=rfl
noncomputable def over(s g:Int)(q:Int×Int):Bool:=decide (s <= q.1) && decide (q.2 <= g)
theorem q7u(s g a b:Int):q02 [.int s,.int g,.tup [.int a,.int b]]=some (.sh (.bl (over s g (a,b)))):=by
 unfold q02 q1N over;simp_arith[qI]
noncomputable def rts(bs:List (Int×Int))(q:Int×Int):Int:=((bs.filter λp=>over p.1 p.2 q).length:Nat)
noncomputable def lfs(bs:List (Int×Int))(q:Int×Int):Int:=((bs.filter λp=>over p.2 p.1 q).length:Nat)
noncomputable def onP(f:Int->Int->Bool):D->Bool
 | .tup [.int a,.int b]=>f a b
 | _=>false
theorem q6c(f:Int->Int->Bool)(bs:List (Int×Int)):((bs.map Yp).filter (onP f)).map (λd=>d)=(bs.filter λp=>f p.1 p.2).map Yp:=by
 rw[List.map_id',ZT];rfl
theorem q4j{bs:List (Int×Int)}{q:Int×Int}(hb:bs.length <= 1000):q0E [.lst (bs.map Yp),Yp q]=some (.sh (.tup [.int (rts bs q),.int (lfs bs q)])):=by
 unfold q0E q2Z;have hl:(bs.map Yp).length <= 1000000:=by rw[zB];omega
 obtain⟨a,b⟩:=q;have c1:Xf (gN 0) q2z q2F (bs.map Yp) [none,some (.sh (.tup [.int a,.int b]))]=some ((bs.filter λp=>over p.1 p.2 (a,b)).map Yp):=by
  rw[<- q6c (λs g=>over s g (a,b))];refine q62 (onP λs g=>over s g (a,b)) (λd=>d) (bs.map Yp) λd hd=>?_;obtain⟨⟨s,g⟩,_,rfl⟩:=z8.mp hd;unfold q2z q2F;simp_arith[q2n,q7u];exact⟨rfl,λ_=>trivial⟩
 have c2:Xf (gN 0) q2B q2u (bs.map Yp) [none,some (.sh (.tup [.int a,.int b]))]=some ((bs.filter λp=>over p.2 p.1 (a,b)).map Yp):=by
  rw[<- q6c (λs g=>over g s (a,b))];refine q62 (onP λs g=>over g s (a,b)) (λd=>d) (bs.map Yp) λd hd=>?_;obtain⟨⟨s,g⟩,_,rfl⟩:=z8.mp hd;unfold q2B q2u;simp_arith[q2n,q7u];exact⟨rfl,λ_=>trivial⟩
 simp_arith[q2n,Wy hl,inW,zAm,c1,c2];rfl
noncomputable def Yr(h l:Int)(bs:List (Int×Int))(q:Int×Int):Int:=rts [(h,l)] q - lfs [(h,l)] q - rts bs q+lfs bs q
theorem qe6{h l:Int}{bs:List (Int×Int)}{q:Int×Int}(hb:bs.length <= 1000):q34 [.int h,.int l,.lst (bs.map Yp),Yp q]=some (.sh (.int (Yr h l bs q))):=by
 unfold q34 q6A;have e1:=q4j (bs:=[(h,l)]) (q:=q) (by show 1 <= 1000;decide);have e2:=q4j (bs:=bs) (q:=q) hb;rw[zg,yc,q2n] at e1;simp_arith[e1,e2];rfl
theorem q3K{h l:Int}{bs:List (Int×Int)}(hb:bs.length <= 30):q0p [.int h,.int l,.lst (bs.map Yp)]=some (.fr (((Ym (Y1 (plc h l bs))).map (Yr h l bs)).map D.int)):=by
 unfold q0p q4P;have S:=stp h l hb;have hl:((Ym (Y1 (plc h l bs))).map Yp).length <= 1000000:=by rw[zB,q0C];have:=S.len;omega
 simp_arith[q2g hb,Wy hl,inW,zAm];rw[q2R (λd=>match d with|.tup [.int a,.int b]=>D.int (Yr h l bs (a,b))|d=>d)]
 case h =>
  intro d hd;obtain⟨⟨a,b⟩,_,rfl⟩:=z8.mp hd;unfold q6x;have e:=qe6 (h:=h) (l:=l) (bs:=bs) (q:=(a,b)) (by omega);rw[q2n] at e ⊢;simp_arith[e]
 rw[yR,yR];rfl
noncomputable def ov(s g:Int)(q:Int×Int):Int:=if over s g q=true then 1 else if over g s q=true then -1 else 0
theorem q4a(f:Int×Int->Int):∀ L:List (Int×Int),zAk (L.map Yp) ((L.map f).map D.int)=L.map λq=>D.tup [Yp q,.int (f q)]
 | []=>rfl
 | q::r=>by
  show D.tup [Yp q,.int (f q)]::zAk (r.map Yp) ((r.map f).map D.int)=_;rw[q4a f r];rfl
noncomputable def snd0:D->Bool
 | .tup [_,.int k]=>!(k == 0)
 | _=>false
noncomputable def fst0:D->D
 | .tup [x,_]=>x
 | d=>d
theorem q9k(f:Int×Int->Int)(L:List (Int×Int)):Xf (gT 2 (Y0 (gN 0) (Y0 (gN 1) Xn))) q2K q3U (L.map λq=>D.tup [Yp q,.int (f q)]) [none,none]=some ((L.filter λq=>!(f q == 0)).map Yp):=by
 have:=q22 (g:=gT 2 (Y0 (gN 0) (Y0 (gN 1) Xn))) (c:=q2K) (f:=q3U) (λw=>∃ a b,w=[a,b]) snd0 fst0 (L.map λq=>D.tup [Yp q,.int (f q)]) (ω:=[none,none]) ⟨_,_,rfl⟩ (λd hd w ⟨a,b,hw⟩=>by
  obtain⟨q,_,rfl⟩:=z8.mp hd;subst hw;refine⟨[some (.sh (Yp q)),some (.sh (.int (f q)))],rfl,⟨_,_,rfl⟩,?_,λ_=>rfl⟩;unfold q2K;simp_arith[qI];rfl)
 rw[this,ZT,yR];rfl
theorem q7G{h l:Int}{bs:List (Int×Int)}(hb:bs.length <= 30):q1c [.int h,.int l,.lst (bs.map Yp)]=some (.fr ((bs++[(h,l)]++(Ym (Y1 (plc h l bs))).filter λq=>!(Yr h l bs q == 0)).map Yp)):=by
 unfold q1c q5D;have S:=stp h l hb;have hg:=q2g (h:=h) (l:=l) hb;have hk:=q3K (h:=h) (l:=l) hb;have hL:(Ym (Y1 (plc h l bs))).length <= 1000:=by rw[q0C];have:=S.len;omega
 generalize Ym (Y1 (plc h l bs))=L at hg hk hL ⊢;have hl:(L.map λq=>D.tup [Yp q,.int (Yr h l bs q)]).length <= 1000000:=by rw[zB];omega
 have hf:=yj (λq=>!(Yr h l bs q == 0)) L;simp_arith[hg,hk,q4a,Wy hl,inW,q9k (Yr h l bs)];have a1:X4 (.lst (bs.map Yp)) (.lst [.tup [.int h,.int l]])=some (.fr (bs.map Yp++[.tup [.int h,.int l]])):=q1C (by rw[zB,zU];omega);have a2:X4 (.lst (bs.map Yp++[.tup [.int h,.int l]])) (.lst ((L.filter λq=>!(Yr h l bs q == 0)).map Yp))=some (.fr (bs.map Yp++[.tup [.int h,.int l]]++(L.filter λq=>!(Yr h l bs q == 0)).map Yp)):=q1C (by rw[zC,zB,zB,zU];omega);simp_arith[a1,a2];rw[zY,zY];rfl
theorem q2I{α:Type}{g:FG}{c:FT}{f:FD}(P:WSt->Prop)(q:α->Bool)(B F:α->D):∀ (xs:List α) {ω:WSt},P ω ->
  (∀ x∈xs,∀ ω,P ω->∃ w,g (B x) ω=some w/\P w/\c w=some (q x)/\(q x=true->f w=some (F x)))->Xf g c f (xs.map B) ω=some ((xs.filter q).map F)
 | [],_,_,_=>rfl
 | x::xs,ω,h,t=>by
  obtain⟨w,h1,h2,h3,h4⟩:=t x zG ω h;have ih:=q2I P q B F xs h2 (λe he=>t e (zH _ he));rw[zg,Xf,h1,yM,h3,yM];cases hq:q x with
  | true=>rw[if_pos rfl,h4 hq,yM,ih,w8 hq];rfl
  | false=>rw[if_neg (by decide),ih,w9 (by rw[hq];decide)]
theorem q1u{α:Type}{i:Nat}{c:FT}{f:FD}(q:α->Bool)(B F:α->D)(xs:List α){ω:WSt}(h:∀ x∈xs,c (ω.set i (some (.sh (B x))))=some (q x)/\(q x=true->f (ω.set i (some (.sh (B x))))=some (F x))):Xf (gN i) c f (xs.map B) ω=some ((xs.filter q).map F) :=
 q2I (g:=gN i) (c:=c) (f:=f) (λw=>∀ x,w.set i x=ω.set i x) q B F xs (ω:=ω) (λx=>rfl) λd hd w hw =>
  ⟨w.set i (some (.sh (B d))),rfl,λx=>by rw[Z2,hw],by rw[hw];exact(h d hd).1,λz=>by rw[hw];exact(h d hd).2 z⟩
theorem q0K{α:Type}{i:Nat}{f:FD}(B F:α->D)(xs:List α){ω:WSt}(h:∀ x∈xs,f (ω.set i (some (.sh (B x))))=some (F x)):Xf (gN i) Xk f (xs.map B) ω=some (xs.map F):=by
 have:=q1u (c:=Xk) (i:=i) (f:=f) (λ_=>true) B F xs (ω:=ω) λx hx=>⟨rfl,λ_=>h x hx⟩;rw[this,xv.mpr (λ_ _=>rfl)]
noncomputable def edD(q:Int×Int):D:=.tup [.int q.1,.int q.2,.int (q.2 - q.1)]
noncomputable def Pz(h l:Int)(bs:List (Int×Int)):List Int:=Y1 (plc h l bs)
noncomputable def Kn(h l:Int)(bs:List (Int×Int)):List (Int×Int):=bs++[(h,l)]++(Ym (Pz h l bs)).filter λq=>!(Yr h l bs q == 0)
theorem q7c{h l:Int}{bs:List (Int×Int)}(hb:bs.length <= 30):(Ym (Pz h l bs)).length <= 1000:=by
 rw[q0C];have:=(stp h l hb).len;unfold Pz;omega
theorem q53(h l:Int)(bs:List (Int×Int)):(Pz h l bs).Pairwise (· < ·):=q0H
theorem qax{h l:Int}{bs:List (Int×Int)}(hb:bs.length <= 30):(Pz h l bs).length < 64:=by
 have h1:(Pz h l bs).length <= (plc h l bs).length:=q23 _;have h2:(plc h l bs).length=2*bs.length+2:=by show (flat bs).length+1+1=_;rw[q2E]
 omega
theorem qbY{h l:Int}{bs:List (Int×Int)}(hb:bs.length <= 30):q0v [.int h,.int l,.lst (bs.map Yp)]=some (.fr ((Ym (Pz h l bs)).map edD)):=by
 unfold q0v q26;have hl:((Ym (Pz h l bs)).map Yp).length <= 1000000:=by rw[zB];have:=q7c (h:=h) (l:=l) hb;omega
 have cm:=q0K (i:=0) (f:=q1K) Yp edD (Ym (Pz h l bs)) (ω:=[none]) (λq hq=>by
  obtain⟨a,b⟩:=q;unfold q1K Yp edD;simp_arith[qI])
 have g:=q2g (h:=h) (l:=l) hb;rw[show Y1 (plc h l bs)=Pz h l bs from rfl] at g;simp_arith[g,Wy hl,inW,zAm,cm]
structure Gap (h l:Int) (bs:List (Int×Int)) (g:Int×Int):Prop where
 lt:g.1 < g.2
 h:h <= g.1\/g.2 <= h
 l:l <= g.1\/g.2 <= l
 b:∀ b∈bs,(b.1 <= g.1\/g.2 <= b.1)/\(b.2 <= g.1\/g.2 <= b.2)
noncomputable def zBs(c:Int):Int:=if c < 0 then -c else c
theorem qK{h l:Int}{bs:List (Int×Int)}(p:Int):p∈Pz h l bs↔p=h\/p=l\/∃ b∈bs,p=b.1\/p=b.2:=by
 unfold Pz;rw[q20];unfold plc flat;simp only[zF,xL,zi,or_false]
theorem q6M{P:List Int}{g:Int×Int}(h:g∈Ym P):∃ (i:Nat) (hi:i+1 < P.length),g=(P[i],P[i+1]):=by
 obtain⟨i,hi,rfl⟩:=ze.mp h;have hi':=hi;rw[q0C] at hi';have e:=qbQ (P:=P) (i:=i) (by omega);refine⟨i,by omega,?_⟩;rw[zD hi] at e;exact zw e
theorem qN{P:List Int}{g:Int×Int}(h:g∈Ym P):g.1∈P/\g.2∈P:=by
 obtain⟨i,hi,rfl⟩:=q6M h;exact⟨yU _,yU _⟩
theorem q75{h l:Int}{bs:List (Int×Int)}(hb:bs.length <= 30):∀ g∈Ym (Pz h l bs),Gap h l bs g:=λg hg=>by
 have S:=stp h l hb;obtain⟨i,hi,rfl⟩:=q6M hg;have am:∀ x∈Pz h l bs,x <= (Pz h l bs)[i]\/(Pz h l bs)[i+1] <= x:=λx hx=>Stp.amid (P:=Pz h l bs) S hi hx;exact⟨Stp.lt (P:=Pz h l bs) S (by omega) hi (by omega),am h ((qK h).mpr (.inl rfl)),am l ((qK l).mpr (.inr (.inl rfl))),λb hb=>⟨am _ ((qK _).mpr (.inr (.inr ⟨b,hb,.inl rfl⟩))),am _ ((qK _).mpr (.inr (.inr ⟨b,hb,.inr rfl⟩)))⟩⟩
theorem qg3{h l:Int}{bs:List (Int×Int)}{e:Int×Int}(he:e∈Kn h l bs):e.1∈Pz h l bs/\e.2∈Pz h l bs:=by
 unfold Kn at he;rcases zN.mp he with he|he
 ·rcases zN.mp he with he|he
  ·exact⟨(qK _).mpr (.inr (.inr ⟨e,he,.inl rfl⟩)),(qK _).mpr (.inr (.inr ⟨e,he,.inr rfl⟩))⟩
  ·cases zT.mp he
   exact⟨(qK _).mpr (.inl rfl),(qK _).mpr (.inr (.inl rfl))⟩
 ·exact qN (yv.mp he).1
noncomputable def xR(x p q:Int):Int:=if p < x/\x <= q then 1 else 0
noncomputable def chi(x y:Int):Int:=if x <= y then 1 else 0
theorem qbs(x p q:Int):xR x p q - xR x q p=chi x q - chi x p:=by
 unfold xR chi
 by_cases h1:x <= p <;> by_cases h2:x <= q
 ·rw[if_neg (by omega),if_neg (by omega),if_pos h2,if_pos h1];rfl
 ·rw[if_neg (by omega),if_pos (by omega),if_neg h2,if_pos h1]
 ·rw[if_pos (by omega),if_neg (by omega),if_pos h2,if_neg h1]
 ·rw[if_neg (by omega),if_neg (by omega),if_neg h2,if_neg h1]
theorem q8P{g:Int×Int}{x p q:Int}(hp:p <= g.1\/g.2 <= p)(hq:q <= g.1\/g.2 <= q)(h1:g.1 < x)(h2:x <= g.2):xR x p q=if over p q g=true then 1 else 0:=by
 unfold xR over
 by_cases z1:p <= g.1 <;> by_cases z2:g.2 <= q
 ·rw[if_pos (by omega),if_pos (by rw[decide_eq_true z1,decide_eq_true z2];rfl)]
 ·rw[if_neg (by omega),if_neg (by rw[decide_eq_false z2];simp)]
 ·rw[if_neg (by omega),if_neg (by rw[decide_eq_false z1];simp)]
 ·rw[if_neg (by omega),if_neg (by rw[decide_eq_false z1];simp)]
theorem q5I(F:Int×Int->Bool):∀ bs:List (Int×Int),(bs.map λb=>if F b=true then (1:Int) else 0).sum=((bs.filter F).length:Nat)
 | []=>rfl
 | b::bs=>by
  rw[zg,yr,q5I F bs,yJ]
  split <;> simp <;> omega
theorem qda{h l:Int}{bs:List (Int×Int)}{g:Int×Int}(G:Gap h l bs g){x:Int}(h1:g.1 < x)(h2:x <= g.2):(bs.map λb=>xR x b.1 b.2).sum=rts bs g/\(bs.map λb=>xR x b.2 b.1).sum=lfs bs g:=by
 unfold rts lfs;rw[<- q5I,<- q5I];exact⟨congrArg _ (ya λb hb=>q8P (G.b b hb).1 (G.b b hb).2 h1 h2),congrArg _ (ya λb hb=>q8P (G.b b hb).2 (G.b b hb).1 h1 h2)⟩
theorem q1j(a b:Int)(r:List Int):Ym (a::b::r)=(a,b)::Ym (b::r):=rfl
noncomputable def sts(as:List (Int×Int)):List Int:=as.map (·.1)
noncomputable def gls(as:List (Int×Int)):List Int:=as.map (·.2)
theorem q87:∀ (a b:List Int),PyData.eqvAll (D.pys (a.map D.int)) (D.pys (b.map D.int))=decide (a=b)
 | [],[]=>rfl
 | [],_::_=>rfl
 | _::_,[]=>rfl
 | x::a,y::b=>by
  show (x == y && PyData.eqvAll (D.pys (a.map D.int)) (D.pys (b.map D.int)))=_;rw[q87 a b]
  by_cases z:x=y
  ·subst z
   simp
  ·have:(x == y)=false:=by simpa using z
   rw[this];simp[z]
theorem q4c(a:List Int):shp (.lst (a.map D.int))=true:=q94 2 (by decide) λd hd=>by
 obtain⟨m,_,rfl⟩:=z8.mp hd;exact⟨rfl,by show 0 <= 2;decide⟩
theorem qcF(a b:List Int):oEq false (.lst (a.map D.int)) (.lst (b.map D.int))=some (.sh (.bl (decide (a=b)))):=by
 unfold oEq;rw[q4c,q4c];show some (R.sh (.bl (PyData.eqvAll (D.pys (a.map D.int)) (D.pys (b.map D.int)))))=_;rw[q87]
theorem qer{as:List (Int×Int)}(hl:as.length <= 9000):qw [.lst (as.map Yi)]=some (.sh (.bl (decide ((sts as).Perm (gls as))))):=by
 unfold qw qX;have hl2:(as.map Yi).length <= 1000000:=by rw[zB];omega
 have c1:=q0K (i:=0) (f:=qL) Yi (λp=>D.int p.1) as (ω:=[none]) (λp _=>by
  unfold qL Yi;simp_arith[qI])
 have c2:=q0K (i:=0) (f:=qM) Yi (λp=>D.int p.2) as (ω:=[none]) (λp _=>by
  unfold qM Yi;simp_arith[qI])
 have e1:(as.map λp=>D.int p.1)=(sts as).map D.int:=by unfold sts;rw[yR];rfl
 have e2:(as.map λp=>D.int p.2)=(gls as).map D.int:=by unfold gls;rw[yR];rfl
 rw[e1] at c1;rw[e2] at c2;have s1:=q4E (ns:=sts as) (by unfold sts;rw[zB];omega);have s2:=q4E (ns:=gls as) (by unfold gls;rw[zB];omega);have q:oEq false (.lst ((Yt (sts as)).map D.int)) (.lst ((Yt (gls as)).map D.int))=some (.sh (.bl (decide ((sts as).Perm (gls as))))):=by
  rw[qcF,decide_eq_decide.mpr (qbX (l:=sts as) (m:=gls as))]
 simp_arith[Wy hl2,inW,zAm,c1,c2,s1,s2,q]
noncomputable def Y6(as:List (Int×Int))(n:Nat):Int:=(as.getD n (0,0)).1
noncomputable def XX(as:List (Int×Int))(n:Nat):Int:=(as.getD n (0,0)).2
inductive Wlk (as:List (Int×Int)):Int->List Nat->Int->Prop where
 | nil (a:Int):Wlk as a [] a
 | cons {a b:Int} {n:Nat} {r:List Nat} (h:Y6 as n=a) (t:Wlk as (XX as n) r b):Wlk as a (n::r) b
theorem Wlk.app{as:List (Int×Int)}{a b c:Int}{r q:List Nat}(h:Wlk as a r b)(h':Wlk as b q c):Wlk as a (r++q) c:=by
 induction h with
 | nil _=>exact h'
 | cons e _ ih=>exact .cons e (ih h')
theorem Wlk.snoc{as:List (Int×Int)}{a b:Int}{r:List Nat}{n:Nat}(h:Wlk as a r b)(e:Y6 as n=b):Wlk as a (r++[n]) (XX as n):=h.app (.cons e (.nil _))
theorem Wlk.last{as:List (Int×Int)}:∀ {r:List Nat} {a b:Int} {n:Nat},Wlk as a (r++[n]) b->b=XX as n/\Wlk as a r (Y6 as n)
 | [],a,b,n,h=>by
  cases h with
  | cons e t=>cases t;exact⟨rfl,by rw[<- e];exact .nil _⟩
 | m::r,a,b,n,h=>by
  cases h with
  | cons e t =>
   obtain⟨h1,h2⟩:=Wlk.last t;exact⟨h1,.cons e h2⟩
noncomputable def cS(as:List (Int×Int))(U:List Nat)(v:Int):Nat:=U.countP λn=>decide (Y6 as n=v)
noncomputable def cD(as:List (Int×Int))(U:List Nat)(v:Int):Nat:=U.countP λn=>decide (XX as n=v)
noncomputable def ind(v h:Int):Int:=if v=h then 1 else 0
def bal(as:List (Int×Int))(U:List Nat)(h x:Int):Prop:=∀ v,(cS as U v:Int) - cD as U v=ind v h - ind v x
structure HI (as:List (Int×Int)) (s:Int) (U T B:List Nat) (h:Int):Prop where
 all:(U++(T++B)).Perm (zf as.length)
 inv:∃ x T0 T1,T=T0++T1/\Wlk as s T0 x/\Wlk as x T1 h/\Wlk as x B.reverse s/\bal as U h x
 shut:∀ n∈B,∀ m∈U,Y6 as m≠XX as n
theorem qdX{as:List (Int×Int)}{U U':List Nat}{n:Nat}(h:U.Perm (n::U'))(v:Int):cS as U v=cS as U' v+if Y6 as n=v then 1 else 0:=by
 unfold cS;rw[h.countP_eq,xM];simp
theorem qeh{as:List (Int×Int)}{U U':List Nat}{n:Nat}(h:U.Perm (n::U'))(v:Int):cD as U v=cD as U' v+if XX as n=v then 1 else 0:=by
 unfold cD;rw[h.countP_eq,xM];simp
theorem HI.start{as:List (Int×Int)}{s:Int}{U:List Nat}(hU:U.Perm (zf as.length))(hb:∀ v,cS as U v=cD as U v):HI as s U [] [] s :=
 ⟨by simpa using hU,⟨s,[],[],rfl,.nil _,.nil _,.nil _,λv=>by rw[hb v];omega⟩,λn hn=>by cases hn⟩
theorem HI.push{as:List (Int×Int)}{s h:Int}{U U' T B:List Nat}{n:Nat}(I:HI as s U T B h)(hn:U.Perm (n::U'))(hs:Y6 as n=h):HI as s U' (T++[n]) B (XX as n):=by
 obtain⟨x,T0,T1,rfl,w0,w1,w2,b⟩:=I.inv;refine⟨?_,⟨x,T0,T1++[n],by rw[zK],w0,w1.snoc hs,w2,λv=>?_⟩,λk hk m hm=>I.shut k hk m (hn.mem_iff.mpr (zH _ hm))⟩
 ·refine yw ?_ I.all
  have h1:(U++((T0++T1)++B)).Perm ((n::U')++((T0++T1)++B)):=hn.append_right _;refine yw ?_ h1.symm;rw[zK (T0++T1) [n] B];have h2:(U'++((T0++T1)++([n]++B))).Perm (U'++([n]++((T0++T1)++B))):=yH _ (by
   rw[<- zK,<- zK];exact yu _ yb)
  refine h2.trans ?_;show (U'++(n::((T0++T1)++B))).Perm (n::(U'++((T0++T1)++B)));exact wx
 ·have:=b v
  have e1:=qdX (as:=as) hn v;have e2:=qeh (as:=as) hn v;unfold ind at this ⊢;rw[hs] at e1
  by_cases z1:v=h <;> by_cases z2:v=XX as n
  ·rw[if_pos z1.symm] at e1;rw[if_pos z2.symm] at e2;rw[if_pos z1] at this;rw[if_pos z2];omega
  ·rw[if_pos z1.symm] at e1;rw[if_neg (λq=>z2 q.symm)] at e2;rw[if_pos z1] at this;rw[if_neg z2];omega
  ·rw[if_neg (λq=>z1 q.symm)] at e1;rw[if_pos z2.symm] at e2;rw[if_neg z1] at this;rw[if_pos z2];omega
  ·rw[if_neg (λq=>z1 q.symm)] at e1;rw[if_neg (λq=>z2 q.symm)] at e2;rw[if_neg z1] at this;rw[if_neg z2];omega
theorem q8N{as:List (Int×Int)}{U:List Nat}{v:Int}(h:∀ m∈U,Y6 as m≠v):cS as U v=0:=by
 unfold cS;rw[Zb];intro m hm;simpa using h m hm
theorem stuck{as:List (Int×Int)}{U:List Nat}{h x:Int}(b:bal as U h x)(hs:∀ m∈U,Y6 as m≠h):h=x:=by
 have:=b h;rw[q8N hs] at this;unfold ind at this;rw[if_pos rfl] at this
 by_cases z:h=x
 ·exact z
 ·rw[if_neg z] at this;omega
theorem HI.pop{as:List (Int×Int)}{s h:Int}{U T B:List Nat}{n:Nat}(I:HI as s U (T++[n]) B h)(hs:∀ m∈U,Y6 as m≠h):HI as s U T (B++[n]) (Y6 as n):=by
 obtain⟨x,T0,T1,e,w0,w1,w2,b⟩:=I.inv;have hx:=stuck b hs;subst hx;have w:Wlk as s (T++[n]) h:=by rw[e];exact w0.app w1
 obtain⟨e1,e2⟩:=w.last;refine⟨?_,⟨Y6 as n,T,[],by rw[zr],e2,.nil _,?_,λv=>by have:=b v;omega⟩,λk hk m hm=>?_⟩
 ·refine yw (yH _ ?_) I.all
  rw[zK];exact yH _ yb
 ·rw[xI]
  exact .cons rfl (by rw[<- e1];exact w2)
 ·rcases zN.mp hk with y|y
  ·exact I.shut k y m hm
  ·cases zT.mp y
   rw[<- e1];exact hs m hm
structure Rnd (as:List (Int×Int)) (s:Int) (row U:List Nat):Prop where
 all:(U++row).Perm (zf as.length)
 walk:Wlk as s row s
 s0:∀ m∈U,Y6 as m≠s
 shut:∀ n∈row,∀ m∈U,Y6 as m≠XX as n
 even:∀ v,cS as U v=cD as U v
theorem HI.done{as:List (Int×Int)}{s h:Int}{U B:List Nat}(I:HI as s U [] B h)(hs:∀ m∈U,Y6 as m≠h):Rnd as s B.reverse U:=by
 obtain⟨x,T0,T1,e,w0,w1,w2,b⟩:=I.inv;obtain⟨rfl,rfl⟩:=List.append_eq_nil_iff.mp e.symm;cases w0;cases w1;refine⟨?_,w2,hs,λn hn=>I.shut n (yZ.mp hn),λv=>by have:=b v;omega⟩;have:=I.all;rw[yF] at this;exact(yH _ (List.reverse_perm B)).trans this
theorem Wlk.mem{as:List (Int×Int)}{V:Int->Prop}:∀ {r:List Nat} {a b:Int},Wlk as a r b->V a->(∀ n∈r,V (XX as n))->∀ n∈r,V (Y6 as n)
 | [],_,_,_,_,_,n,hn=>by cases hn
 | m::r,a,b,h,ha,hv,n,hn=>by
  cases h with
  | cons e t =>
   rcases zF.mp hn with rfl|hn
   ·rw[e];exact ha
   ·exact t.mem (hv m zG) (λk hk=>hv k (zH _ hk)) n hn
theorem Rnd.full{as:List (Int×Int)}{s:Int}{row U:List Nat}(R:Rnd as s row U)(hr:∀ a∈as,Rch as s a.1):row.length=as.length:=by
 have hU:U=[]:=by
  cases U with
  | nil=>rfl
  | cons m U' =>
   exfalso
   let V:Int->Prop:=λv=>v=s\/∃ n∈row,XX as n=v
   have out:∀ v,V v->∀ k∈m::U',Y6 as k≠v:=λv hv k hk=>by
    rcases hv with rfl|⟨n,hn,rfl⟩
    ·exact R.s0 k hk
    ·exact R.shut n hn k hk
   have inn:∀ v,V v->∀ k∈m::U',XX as k≠v:=λv hv k hk e=>by
    have h1:=q8N (as:=as) (out v hv);have h2:=R.even v;rw[h1] at h2;have:cD as (m::U') v=0:=h2.symm;unfold cD at this;rw[Zb] at this;exact this k hk (by simpa using e)
   have row_of:∀ (n:Nat),n < as.length->(V (Y6 as n)\/V (XX as n))->n∈row:=λn hn hv=>by
    have:n∈(m::U')++row:=R.all.mem_iff.mpr (yk.mpr hn);rcases zN.mp this with y|y
    ·rcases hv with hv|hv
     ·exact absurd rfl (out _ hv n y)
     ·exact absurd rfl (inn _ hv n y)
    ·exact y
   have sv:∀ n∈row,V (Y6 as n):=R.walk.mem (V:=V) (.inl rfl) λn hn=>.inr ⟨n,hn,rfl⟩;have cl:∀ c,Rch as s c->V c:=λc h=>h.inv V (.inl rfl) λb c hb e=>by
    rcases e with e|e
    ·obtain⟨n,hn,he⟩:=ze.mp e
     have es:Y6 as n=b/\XX as n=c:=by
      unfold Y6 XX;rw[zS,zD hn,he];exact⟨rfl,rfl⟩
     exact .inr ⟨n,row_of n hn (.inl (by rw[es.1];exact hb)),es.2⟩
    ·obtain⟨n,hn,he⟩:=ze.mp e
     have es:Y6 as n=c/\XX as n=b:=by
      unfold Y6 XX;rw[zS,zD hn,he];exact⟨rfl,rfl⟩
     rw[<- es.1];exact sv n (row_of n hn (.inr (by rw[es.2];exact hb)))
   have hm:m < as.length:=yk.mp (R.all.mem_iff.mp (by simp));have hrm:=hr _ (yU hm);have es:Y6 as m=(as[m]).1:=by unfold Y6;rw[zS,zD hm];rfl
   exact out _ (cl _ (by rw[<- es] at hrm;exact hrm)) m zG rfl
 have:=R.all.length_eq;rw[hU,yF,zo] at this;exact this
noncomputable def cst(l:List Nat):List Int:=l.map λ(n:Nat)=>(n:Int)
structure WT (as:List (Int×Int)) (ks:List Int) (xss:List (List Int)) (U:List Nat):Prop where
 len:ks.length=xss.length
 nd:U.Nodup
 mem:∀ (v k:Int),k∈Xd ks xss v↔∃ n:Nat,k=n/\n∈U/\Y6 as n=v
 gn:∀ v,(Xd ks xss v).Nodup
theorem q32:∀ {ks:List Int} {xss:List (List Int)} (h v:Int),ks.length=xss.length->Xd ks (Xv ks xss h) v=if v=h then (Xd ks xss h).dropLast else Xd ks xss v
 | [],[],h,v,_=>by
  show ([]:List Int)=if v=h then ([]:List Int).dropLast else []
  split <;> rfl
 | [],_::_,_,_,hl=>by simp at hl
 | _::_,[],_,_,hl=>by simp at hl
 | k::ks,x::xss,h,v,hl=>by
  have ih:=q32 (ks:=ks) (xss:=xss) h v (by simpa using hl);unfold Xd at ih ⊢;show (Yw (k::ks) (if k=h then x.dropLast::xss else x::Xv ks xss h) v).getD []=if v=h then ((if k=h then some x else Yw ks xss h).getD []).dropLast else (if k=v then some x else Yw ks xss v).getD []
  by_cases z:k=h
  ·rw[if_pos z,if_pos z]
   show (if k=v then some x.dropLast else Yw ks xss v).getD []=_
   by_cases y:k=v
   ·rw[if_pos y,if_pos (by rw[<- y,z])];rfl
   ·rw[if_neg y,if_neg (λe=>y (by rw[z,e])),if_neg y]
  ·rw[if_neg z,if_neg z]
   show (if k=v then some x else Yw ks (Xv ks xss h) v).getD []=_
   by_cases y:k=v
   ·rw[if_pos y,if_neg (λe=>z (by rw[y,e])),if_pos y]
   ·rw[if_neg y,ih,if_neg y]
theorem q5Z:∀ (ks:List Int) (xss:List (List Int)) (h:Int),(Xv ks xss h).length=xss.length
 | [],_,_=>rfl
 | _::_,[],_=>rfl
 | k::ks,x::xss,h=>by
  show (if k=h then x.dropLast::xss else x::Xv ks xss h).length=_
  split
  ·rfl
  ·rw[zL,q5Z,zL]
theorem q7v{l:List Int}{k a:Int}(nd:l.Nodup)(e:l.getLast?=some k):a∈l.dropLast↔a∈l/\a≠k:=by
 have hl:l=l.dropLast++[k]:=by
  have hne:l≠[]:=λz=>by rw[z] at e;cases e
  have:=wS hne;rw[List.getLast?_eq_getLast hne] at e;rw[zw e] at this;exact this.symm
 rw[hl] at nd;have nd':=yV.mp nd
 constructor
 ·intro h
  exact⟨by rw[hl];exact zV _ h,λz=>nd'.2.2 a h k (by simp) z⟩
 ·rintro⟨h1,h2⟩
  rw[hl] at h1;rcases zN.mp h1 with y|y
  ·exact y
  ·exact absurd (zT.mp y) h2
theorem WT.pop{as:List (Int×Int)}{ks:List Int}{xss:List (List Int)}{U:List Nat}(W:WT as ks xss U){h:Int}{m:Nat}(e:(Xd ks xss h).getLast?=some (m:Int)):WT as ks (Xv ks xss h) (U.erase m):=by
 have hm:(m:Int)∈Xd ks xss h:=ZY e;obtain⟨n,en,hn,hs⟩:=(W.mem h m).mp hm;have:n=m:=by omega
 subst this;refine⟨by rw[q5Z];exact W.len,W.nd.erase _,λv k=>?_,λv=>?_⟩
 ·rw[q32 h v W.len]
  by_cases z:v=h
  ·rw[if_pos z,q7v (W.gn h) e,W.mem h]
   constructor
   ·rintro⟨⟨n',rfl,h1,h2⟩,h3⟩
    exact⟨n',rfl,(W.nd.mem_erase_iff).mpr ⟨λq=>h3 (by rw[q]),h1⟩,by rw[z];exact h2⟩
   ·rintro⟨n',rfl,h1,h2⟩
    obtain⟨a,b⟩:=(W.nd.mem_erase_iff).mp h1;exact⟨⟨n',rfl,b,by rw[<- z];exact h2⟩,λq=>a (by omega)⟩
  ·rw[if_neg z,W.mem v]
   constructor
   ·rintro⟨n',rfl,h1,h2⟩
    exact⟨n',rfl,(W.nd.mem_erase_iff).mpr ⟨λq=>z (by rw[<- h2,q,hs]),h1⟩,h2⟩
   ·rintro⟨n',rfl,h1,h2⟩
    exact⟨n',rfl,((W.nd.mem_erase_iff).mp h1).2,h2⟩
 ·rw[q32 h v W.len]
  split
  ·exact(W.gn h).sublist (List.dropLast_sublist _)
  ·exact W.gn v
theorem q9f{as:List (Int×Int)}{m:Nat}:(as.getD ((m:Int)).toNat (0,0)).1=Y6 as m/\(as.getD ((m:Int)).toNat (0,0)).2=XX as m:=by
 rw[yh];exact⟨rfl,rfl⟩
theorem q86{as:List (Int×Int)}{s:Int}(hl:as.length <= 9000){ks:List Int}:∀ (n:Nat) (xss:List (List Int)) (U T B:List Nat) (h:Int),HI as s U T B h->WT as ks xss U->2*U.length+T.length < n ->
  ∃ row U',Xj as ks n xss (cst T) (cst B) h=some (cst row)/\Rnd as s row U'
 | 0,_,_,_,_,_,_,_,hn=>absurd hn (xz _)
 | n+1,xss,U,T,B,h,I,W,hn=>by
  have tot:U.length+(T.length+B.length)=as.length:=by
   have:=I.all.length_eq;rw[zC,zC,zo] at this;exact this
  unfold Xj;cases e:(Xd ks xss h).getLast? with
  | some k =>
   obtain⟨m,rfl,hm,hs⟩:=(W.mem h k).mp (ZY e);have hlt:m < as.length:=yk.mp (I.all.mem_iff.mp (zV _ hm));have pm:=List.perm_cons_erase hm;have I':=I.push pm hs;have ul:U.length=(U.erase m).length+1:=by have:=pm.length_eq;rw[zL] at this;exact this
   obtain⟨row,U',r1,r2⟩:=q86 hl n (Xv ks xss h) (U.erase m) (T++[m]) B _ I' (W.pop e) (by rw[zC,zU];omega);refine⟨row,U',?_,r2⟩;show (if 0 <= (m:Int)/\(m:Int) < as.length/\(cst T).length < 1000000 then Xj as ks n (Xv ks xss h) (cst T++[(m:Int)]) (cst B) (as.getD ((m:Int)).toNat (0,0)).2 else none)=_;rw[if_pos ⟨by omega,by omega,by unfold cst;rw[zB];omega⟩,q9f.2];rw[show cst T++[(m:Int)]=cst (T++[m]) by unfold cst;rw[zY];rfl];exact r1
  | none =>
   have hem:Xd ks xss h=[]:=xt.mp e;have hs:∀ m∈U,Y6 as m≠h:=λm hm z=>by
    have:(m:Int)∈Xd ks xss h:=(W.mem h m).mpr ⟨m,rfl,hm,z⟩;rw[hem] at this;cases this
   rcases List.eq_nil_or_concat T with rfl|⟨T0,m,rfl⟩
   ·refine⟨B.reverse,U,?_,I.done hs⟩
    show some (cst B).reverse=_;unfold cst;rw[YH]
   ·rw[List.concat_eq_append] at I hn tot ⊢
    have hlt:m < as.length:=yk.mp (I.all.mem_iff.mp (zQ _ (zV _ (by simp))));have I':=I.pop hs;rw[zC,zU] at hn tot;obtain⟨row,U',r1,r2⟩:=q86 hl n xss U T0 (B++[m]) _ I' W (by omega);refine⟨row,U',?_,r2⟩;have ec:cst (T0++[m])=cst T0++[(m:Int)]:=by unfold cst;rw[zY];rfl
    rw[ec];show (match (cst T0++[(m:Int)]).getLast? with
     | some k=>if 0 <= k/\k < as.length/\(cst B).length < 1000000 then Xj as ks n xss (cst T0++[(m:Int)]).dropLast (cst B++[k]) (as.getD k.toNat (0,0)).1 else none
     | none=>some (cst B).reverse)=_
    rw[List.getLast?_concat];show (if 0 <= (m:Int)/\(m:Int) < as.length/\(cst B).length < 1000000 then Xj as ks n xss (cst T0++[(m:Int)]).dropLast (cst B++[(m:Int)]) (as.getD ((m:Int)).toNat (0,0)).1 else none)=_;rw[if_pos ⟨by omega,by omega,by unfold cst;rw[zB];omega⟩,q9f.1,List.dropLast_concat];rw[show cst B++[(m:Int)]=cst (B++[m]) by unfold cst;rw[zY];rfl];exact r1
theorem q3R:∀ {ks:List Int} {xss:List (List Int)} (a b v:Int),ks.length=xss.length->a∈ks->Xd ks (WK ks xss a b) v=if v=a then Xd ks xss v++[b] else Xd ks xss v
 | [],_,_,_,_,_,h=>by cases h
 | _::_,[],_,_,_,hl,_=>by simp at hl
 | k::ks,x::xss,a,b,v,hl,ha=>by
  unfold Xd;show (Yw (k::ks) (if k=a then (x++[b])::xss else x::WK ks xss a b) v).getD []=if v=a then ((if k=v then some x else Yw ks xss v).getD [])++[b] else (if k=v then some x else Yw ks xss v).getD []
  by_cases z:k=a
  ·rw[if_pos z]
   show (if k=v then some (x++[b]) else Yw ks xss v).getD []=_
   by_cases y:k=v
   ·rw[if_pos y,if_pos (by rw[<- y,z]),if_pos y];rfl
   ·rw[if_neg y,if_neg (λe=>y (by rw[z,e])),if_neg y]
  ·rw[if_neg z]
   have ha':a∈ks:=(zF.mp ha).resolve_left λe=>z e.symm;have ih:=q3R (ks:=ks) (xss:=xss) a b v (by simpa using hl) ha';unfold Xd at ih;show (if k=v then some x else Yw ks (WK ks xss a b) v).getD []=_
   by_cases y:k=v
   ·rw[if_pos y,if_neg (λe=>z (by rw[y,e])),if_pos y]
   ·rw[if_neg y,ih,if_neg y]
theorem q6Y:∀ {ks:List Int} {xss:List (List Int)} (a v:Int),ks.length=xss.length->Xd (ks++[a]) (xss++[[]]) v=Xd ks xss v
 | [],[],a,v,_=>by
  unfold Xd;show (if a=v then some [] else none).getD []=_
  split <;> rfl
 | [],_::_,_,_,hl=>by simp at hl
 | _::_,[],_,_,hl=>by simp at hl
 | k::ks,x::xss,a,v,hl=>by
  have ih:=q6Y (ks:=ks) (xss:=xss) a v (by simpa using hl);unfold Xd at ih ⊢;show (if k=v then some x else Yw (ks++[a]) (xss++[[]]) v).getD []=(if k=v then some x else Yw ks xss v).getD []
  by_cases y:k=v
  ·rw[if_pos y,if_pos y]
  ·rw[if_neg y,if_neg y,ih]
theorem qdd(as:List (Int×Int)):∀ n:Nat,n <= as.length->(byS as n).1.length=(byS as n).2.length/\∀ v,Xd (byS as n).1 (byS as n).2 v=cst ((zf n).filter λj=>decide (Y6 as j=v))
 | 0,_=>⟨rfl,λv=>rfl⟩
 | n+1,hn=>by
  obtain⟨h1,h2⟩:=qdd as n (by omega);have hlt:n < as.length:=by omega
  have eb:byS as (n+1)=XQ (byS as n) n (Y6 as n):=by
   show (match as[n]? with|some a=>XQ (byS as n) n a.1|none=>byS as n)=_;rw[zD hlt];unfold Y6;rw[zS,zD hlt];rfl
  have er:∀ v,cst ((zf (n+1)).filter λj=>decide (Y6 as j=v))=if v=Y6 as n then cst ((zf n).filter λj=>decide (Y6 as j=v))++[(n:Int)] else cst ((zf n).filter λj=>decide (Y6 as j=v)):=λv=>by
   rw[YQ,wX]
   by_cases z:v=Y6 as n
   ·rw[if_pos z]
    have:([n].filter λj=>decide (Y6 as j=v))=[n]:=by rw[yJ,if_pos (decide_eq_true z.symm)];rfl
    rw[this];unfold cst;rw[zY];rfl
   ·rw[if_neg z]
    have:([n].filter λj=>decide (Y6 as j=v))=[]:=by rw[yJ,if_neg (by simpa using λe=>z e.symm)];rfl
    rw[this,zr]
  rw[eb];unfold XQ
  by_cases ha:Y6 as n∈(byS as n).1
  ·rw[if_pos ha]
   exact⟨by show (byS as n).1.length=(WK _ _ _ _).length;rw[q3S];exact h1,λv=>by
    show Xd (byS as n).1 (WK (byS as n).1 (byS as n).2 (Y6 as n) n) v=_;rw[q3R _ _ v h1 ha,er v,h2 v]⟩
  ·rw[if_neg ha]
   have hl':((byS as n).1++[Y6 as n]).length=((byS as n).2++[[]]).length:=by rw[zC,zC,h1];rfl
   exact⟨by show ((byS as n).1++[Y6 as n]).length=(WK _ _ _ _).length;rw[q3S];exact hl',λv=>by
    show Xd ((byS as n).1++[Y6 as n]) (WK ((byS as n).1++[Y6 as n]) ((byS as n).2++[[]]) (Y6 as n) n) v=_;rw[q3R _ _ v hl' (by simp),q6Y _ v h1,er v,h2 v]⟩
theorem qfd{l:List Nat}(h:l.Nodup):(cst l).Nodup:=by
 unfold cst YY;rw[wp];exact h.imp λ{a b} z e=>z (by omega)
theorem qct(as:List (Int×Int)):WT as (byS as as.length).1 (byS as as.length).2 (zf as.length):=by
 obtain⟨h1,h2⟩:=qdd as as.length (zJ _);refine⟨h1,YJ,λv k=>?_,λv=>by rw[h2 v];exact qfd (YJ.filter _)⟩;rw[h2 v];unfold cst;rw[z8]
 constructor
 ·rintro⟨n,hn,rfl⟩
  obtain⟨a,b⟩:=yv.mp hn;exact⟨n,rfl,a,of_decide_eq_true b⟩
 ·rintro⟨n,rfl,a,b⟩
  exact⟨n,yv.mpr ⟨a,decide_eq_true b⟩,rfl⟩
theorem q3H{α:Type}(d:α):∀ bs:List α,(zf bs.length).map (λk=>bs.getD k d)=bs:=λbs=>by
 apply List.ext_getElem
 ·rw[zB,zo]
 ·intro i h1 h2
  rw[xK,List.getElem_range,zS,zD h2];rfl
theorem q4p(as:List (Int×Int))(v:Int):cS as (zf as.length) v=(sts as).count v/\cD as (zf as.length) v=(gls as).count v:=by
 have h:∀ f:Int×Int->Int,(zf as.length).countP (λn=>decide (f (as.getD n (0,0))=v))=(as.map f).count v:=λf=>by
  have e:=q3H (0,0) as;have:(as.map f)=(zf as.length).map λn=>f (as.getD n (0,0)):=by
   have:=congrArg (List.map f) e;rw[yR] at this;exact this.symm
  rw[this,List.count,wA];rfl
 exact⟨h (·.1),h (·.2)⟩
theorem qcM{as:List (Int×Int)}{s:Int}(hl:as.length <= 9000)(hp:(sts as).Perm (gls as)):∃ row U,WS s as=some (cst row)/\Rnd as s row U:=by
 have hb:∀ v,cS as (zf as.length) v=cD as (zf as.length) v:=λv=>by
  rw[(q4p as v).1,(q4p as v).2,hp.count_eq]
 obtain⟨row,U,r1,r2⟩:=q86 (s:=s) hl 100000 (byS as as.length).2 (zf as.length) [] [] s (HI.start (.refl _) hb) (qct as) (by rw[zo,xU];omega);exact⟨row,U,by unfold WS;rw[if_pos hl];exact r1,r2⟩
theorem q9c(v y:Int):(if y=v then (1:Int) else 0)=chi v y - chi (v+1) y:=by
 unfold chi
 by_cases a:v <= y <;> by_cases b:v+1 <= y <;> by_cases c:y=v <;> simp[a,b,c] <;> omega
noncomputable def flw(x:Int)(as:List (Int×Int)):Int:=(as.map λa=>chi x a.2 - chi x a.1).sum
theorem q1z(x:Int)(a b:List (Int×Int)):flw x (a++b)=flw x a+flw x b:=by unfold flw;rw[zY,List.sum_append]
theorem q1O(x:Int)(a:Int×Int)(b:List (Int×Int)):flw x (a::b)=(chi x a.2 - chi x a.1)+flw x b:=by unfold flw;rw[zg,yr]
theorem q9g(v:Int):∀ as:List (Int×Int),((as.countP λa=>decide (a.1=v):Nat):Int) - (as.countP λa=>decide (a.2=v):Nat)=flw (v+1) as - flw v as
 | []=>rfl
 | a::as=>by
  have ih:=q9g v as;have i1:=q9c v a.1;have i2:=q9c v a.2;rw[q1O,q1O,xM,xM]
  by_cases z1:a.1=v <;> by_cases z2:a.2=v <;> simp only[z1,z2,decide_true,decide_false,if_true,if_false,zy,Int.natCast_add,Int.natCast_one,YK,Z6] at i1 i2 ⊢ <;> omega
theorem qas(xs:List (Int×Int)):(zf xs.length).map (λk=>xs.getD k (0,0))=xs:=by
 apply yt;intro i;rw[za];rcases zu i xs.length with z|z
 ·rw[xG z,yn,zS,zD z];rfl
 ·rw[zn (by simpa using z),zn z];rfl
theorem qaE(as:List (Int×Int))(v:Int):cS as (zf as.length) v=(as.countP λa=>decide (a.1=v))/\cD as (zf as.length) v=(as.countP λa=>decide (a.2=v)):=by
 have e:=qas as
 constructor
 ·conv=>rhs;rw[<- e]
  rw[wA];rfl
 ·conv=>rhs;rw[<- e]
  rw[wA];rfl
theorem q8d{as:List (Int×Int)}(h:∀ x,flw x as=0)(v:Int):cS as (zf as.length) v=cD as (zf as.length) v:=by
 rw[(qaE as v).1,(qaE as v).2];have:=q9g v as;rw[h,h] at this;omega
theorem q6V(x:Int):∀ (r:List Int) (k:Int),(k::r).Pairwise (· < ·)->(∃ g∈Ym (k::r),g.1 < x/\x <= g.2/\∀ c:Int×Int->Int,((Ym (k::r)).map λg=>c g*(chi x g.2 - chi x g.1)).sum=c g)\/(∀ p∈k::r,∀ q∈k::r,chi x p=chi x q)
 | [],k,_=>.inr λp hp q hq=>by rw[zT.mp hp,zT.mp hq]
 | k1::r,k,h=>by
  obtain⟨h1,h2⟩:=zb.mp h;have kk:=h1 k1 zG;have low:∀ p∈k1::r,k1 <= p:=λp hp=>by
   rcases zF.mp hp with rfl|hp
   ·exact yD _
   ·exact yg ((zb.mp h2).1 p hp)
  by_cases a:x <= k
  ·refine .inr λp hp q hq=>?_
   have:∀ p∈k::k1::r,chi x p=1:=λp hp=>by
    unfold chi;rcases zF.mp hp with rfl|hp
    ·rw[if_pos a]
    ·have:=low p hp;rw[if_pos (by omega)]
   rw[this p hp,this q hq]
  ·by_cases b:x <= k1
   ·refine .inl ⟨(k,k1),by rw[q1j];exact zG,by simp only;omega,b,λc=>?_⟩
    have c0:chi x k1 - chi x k=1:=by unfold chi;rw[if_pos b,if_neg a];rfl
    have z:((Ym (k1::r)).map λg=>c g*(chi x g.2 - chi x g.1)).sum=0:=by
     have:∀ g∈Ym (k1::r),c g*(chi x g.2 - chi x g.1)=0:=λg hg=>by
      obtain⟨m1,m2⟩:=qN hg;have:=low _ m1;have:=low _ m2;unfold chi;rw[if_pos (by omega),if_pos (by omega),YB,Int.mul_zero]
     rw[ya this];clear this
     induction Ym (k1::r) with
     | nil=>rfl
     | cons g gs ih=>rw[zg,yr,ih];rfl
    rw[q1j,zg,yr,z];simp only[c0];omega
   ·have c0:chi x k1 - chi x k=0:=by unfold chi;rw[if_neg b,if_neg a];rfl
    rcases q6V x r k1 h2 with⟨g,hg,g1,g2,g3⟩|h3
    ·refine .inl ⟨g,by rw[q1j];exact zH _ hg,g1,g2,λc=>?_⟩
     rw[q1j,zg,yr,g3];simp only[c0];omega
    ·refine .inr λp hp q hq=>?_
     have e:∀ p∈k::k1::r,chi x p=chi x k1:=λp hp=>by
      rcases zF.mp hp with rfl|hp
      ·omega
      ·exact h3 p hp k1 zG
     rw[e p hp,e q hq]
noncomputable def repA(c:Int)(g:Int×Int):List (Int×Int):=zh c.toNat (g.1,g.2)++zh (-c).toNat (g.2,g.1)
theorem q5o(c:Int):∀ n:Nat,(zh n c).sum=n*c
 | 0=>by simp
 | n+1=>by rw[yA,yr,q5o c n];rw[show ((n+1:Nat):Int)=(n:Int)+1 by omega,Int.add_mul];omega
theorem qcH(x c:Int)(g:Int×Int):flw x (repA c g)=c*(chi x g.2 - chi x g.1):=by
 unfold repA;rw[q1z];unfold flw;rw[wE,wE,q5o,q5o];rcases Int.le_total 0 c with z|z
 ·rw[show (-c).toNat=0 by omega,Zc z];simp
 ·rw[show c.toNat=0 by omega,Zc (show 0 <= -c by omega)]
  simp only[YK,Int.zero_mul,YC];rw[show chi x g.1 - chi x g.2=-(chi x g.2 - chi x g.1) by omega,Int.neg_mul_neg]
noncomputable def WE(c:Int×Int->Int)(G:List (Int×Int)):List (Int×Int):=G.flatMap λg=>repA (c g) g
theorem q6R(x:Int)(c:Int×Int->Int):∀ G:List (Int×Int),flw x (WE c G)=(G.map λg=>c g*(chi x g.2 - chi x g.1)).sum
 | []=>rfl
 | g::G=>by
  show flw x (repA (c g) g++WE c G)=_;rw[q1z,qcH,q6R x c G,zg,yr]
theorem qc1{c:Int×Int->Int}{G:List (Int×Int)}{g:Int×Int}(hg:g∈G)(hc:c g≠0):(g.1,g.2)∈WE c G\/(g.2,g.1)∈WE c G:=by
 unfold WE repA;rcases Int.lt_or_gt_of_ne hc with z|z
 ·refine .inr (xL.mpr ⟨g,hg,zQ _ (wF.mpr ⟨by omega,rfl⟩)⟩)
 ·refine .inl (xL.mpr ⟨g,hg,zV _ (wF.mpr ⟨by omega,rfl⟩)⟩)
theorem qfJ{c:Int×Int->Int}{G:List (Int×Int)}{a:Int×Int}(h:a∈WE c G):∃ g∈G,a=(g.1,g.2)\/a=(g.2,g.1):=by
 obtain⟨g,hg,h⟩:=xL.mp h;rcases zN.mp h with h|h
 ·exact⟨g,hg,.inl (wF.mp h).2⟩
 ·exact⟨g,hg,.inr (wF.mp h).2⟩
noncomputable def twoA(F:List (Int×Int)):List (Int×Int):=F.flatMap λe=>[e,(e.2,e.1)]
theorem q7V(x:Int):∀ F:List (Int×Int),flw x (twoA F)=0
 | []=>rfl
 | e::F=>by
  show flw x ([e,(e.2,e.1)]++twoA F)=0;rw[q1z,q7V x F,q1O,q1O];unfold flw;simp only[yc,List.sum_nil];omega
theorem Rch.mono{es fs:List (Int×Int)}{a c:Int}(h:∀ e∈es,e∈fs)(r:Rch es a c):Rch fs a c:=by
 induction r with
 | refl=>exact .refl
 | step _ e ih=>exact ih.step (e.elim (λz=>.inl (h _ z)) λz=>.inr (h _ z))
noncomputable def XN(f:Int->Int)(a b:Int):Int->Int:=λx=>if f x=b then a else f x
def Tells(ts:List Int)(es:List (Int×Int))(f:Int->Int):Prop:=∀ x∈ts,∀ y∈ts,f x=f y↔Rch es x y
theorem Tells.skip{ts:List Int}{es:List (Int×Int)}{f:Int->Int}(h:Tells ts es f){p q:Int}(hp:p∈ts)(hq:q∈ts)(e:f p=f q):Tells ts (es++[(p,q)]) f:=by
 intro x hx y hy;rw[h x hx y hy];have pq:=(h p hp q hq).mp e;refine⟨λr=>r.mono λe he=>zV _ he,λr=>?_⟩;refine Rch.inv (λz=>Rch es x z) .refl (λb c hb hbc=>?_) r;have key:∀ {u v:Int},(u,v)∈es++[(p,q)]->Rch es u v:=λ{u v} m=>by
  rcases zN.mp m with m|m
  ·exact Rch.refl.step (.inl m)
  ·cases zT.mp m;exact pq
 rcases hbc with m|m
 ·exact hb.trans (key m)
 ·exact hb.trans (key m).symm
theorem Tells.join{ts:List Int}{es:List (Int×Int)}{f:Int->Int}(h:Tells ts es f)(inn:∀ e∈es,e.1∈ts/\e.2∈ts){p q:Int}(hp:p∈ts)(hq:q∈ts):Tells ts (es++[(p,q)]) (XN f (f p) (f q)):=by
 intro x hx y hy;have up:∀ {u v:Int},Rch es u v->Rch (es++[(p,q)]) u v:=λr=>r.mono λe he=>zV _ he;have pq:Rch (es++[(p,q)]) p q:=Rch.refl.step (.inl (by simp))
 constructor
 ·intro e
  unfold XN at e
  by_cases h1:f x=f q
  ·rw[if_pos h1] at e
   by_cases h2:f y=f q
   ·exact up ((h x hx y hy).mp (by rw[h1,h2]))
   ·rw[if_neg h2] at e
    exact((up ((h x hx q hq).mp h1)).trans pq.symm).trans (up ((h p hp y hy).mp e))
  ·rw[if_neg h1] at e
   by_cases h2:f y=f q
   ·rw[if_pos h2] at e
    exact((up ((h x hx p hp).mp e)).trans pq).trans (up ((h q hq y hy).mp h2.symm))
   ·rw[if_neg h2] at e
    exact up ((h x hx y hy).mp e)
 ·intro r
  have key:∀ {u v:Int},(u,v)∈es++[(p,q)]->u∈ts/\v∈ts/\XN f (f p) (f q) u=XN f (f p) (f q) v:=λ{u v} m=>by
   rcases zN.mp m with m|m
   ·obtain⟨a,b⟩:=inn _ m
    have e:=(h u a v b).mpr (Rch.refl.step (.inl m));exact⟨a,b,by unfold XN;rw[e]⟩
   ·cases zT.mp m
    refine⟨hp,hq,?_⟩;unfold XN;rw[if_pos rfl]
    by_cases z:f p=f q
    ·rw[if_pos z]
    ·rw[if_neg z]
  exact(Rch.inv (λz=>z∈ts/\XN f (f p) (f q) x=XN f (f p) (f q) z) ⟨hx,rfl⟩ (λb c hb hbc=>by
   rcases hbc with m|m
   ·obtain⟨a1,a2,a3⟩:=key m;exact⟨a2,hb.2.trans a3⟩
   ·obtain⟨a1,a2,a3⟩:=key m;exact⟨a1,hb.2.trans a3.symm⟩) r).2
noncomputable def lst1(f:Int->Int)(ts:List Int)(a:Int):Bool:=ts.all λc=>f c != f a || decide (a <= c)
noncomputable def many(f:Int->Int)(ts:List Int):Nat:=(ts.filter (lst1 f ts)).length
theorem q2w{f:Int->Int}{ts:List Int}{a:Int}:lst1 f ts a=true↔∀ c∈ts,f c=f a->a <= c:=by
 unfold lst1;rw[xq]
 constructor
 ·intro h c hc e
  have:=h c hc;simp[e] at this;exact this
 ·intro h c hc
  by_cases e:f c=f a
  ·simp[h c hc e]
  ·simp[e]
theorem qd2{l:List Int}(h:l.Pairwise (· < ·)):l.Nodup:=h.imp λa b=>by omega
theorem qaR{ts:List Int}(P:Int->Prop)[DecidablePred P]{p:Int}(hp:p∈ts)(h:P p):∃ a∈ts,P a/\∀ c∈ts,P c->a <= c:=by
 induction ts with
 | nil=>cases hp
 | cons t r ih =>
  by_cases z:∃ x∈r,P x
  ·obtain⟨x,hx,px⟩:=z
   have ih':∃ a∈r,P a/\∀ c∈r,P c->a <= c:=by
    clear ih hp
    induction r generalizing x with
    | nil=>cases hx
    | cons u r ih2 =>
     by_cases y:∃ w∈r,P w
     ·obtain⟨w,hw,pw⟩:=y
      obtain⟨a,a1,a2,a3⟩:=ih2 w hw pw
      by_cases pu:P u
      ·by_cases l:u <= a
       ·exact⟨u,zG,pu,λc hc pc=>(zF.mp hc).elim (λe=>by rw[e];exact yD _) λhc=>yP l (a3 c hc pc)⟩
       ·exact⟨a,zH _ a1,a2,λc hc pc=>(zF.mp hc).elim (λe=>by rw[e];omega) λhc=>a3 c hc pc⟩
      ·exact⟨a,zH _ a1,a2,λc hc pc=>(zF.mp hc).elim (λe=>absurd (e▸pc) pu) λhc=>a3 c hc pc⟩
     ·have pu:P u:=(zF.mp hx).elim (λe=>e▸px) λhx=>absurd ⟨x,hx,px⟩ y
      exact⟨u,zG,pu,λc hc pc=>(zF.mp hc).elim (λe=>by rw[e];exact yD _) λhc=>absurd ⟨c,hc,pc⟩ y⟩
   obtain⟨a,a1,a2,a3⟩:=ih'
   by_cases pt:P t
   ·by_cases l:t <= a
    ·exact⟨t,zG,pt,λc hc pc=>(zF.mp hc).elim (λe=>by rw[e];exact yD _) λhc=>yP l (a3 c hc pc)⟩
    ·exact⟨a,zH _ a1,a2,λc hc pc=>(zF.mp hc).elim (λe=>by rw[e];omega) λhc=>a3 c hc pc⟩
   ·exact⟨a,zH _ a1,a2,λc hc pc=>(zF.mp hc).elim (λe=>absurd (e▸pc) pt) λhc=>a3 c hc pc⟩
  ·have pt:P t:=(zF.mp hp).elim (λe=>e▸h) λhx=>absurd ⟨p,hx,h⟩ z
   exact⟨t,zG,pt,λc hc pc=>(zF.mp hc).elim (λe=>by rw[e];exact yD _) λhc=>absurd ⟨c,hc,pc⟩ z⟩
theorem q8r{l:List Int}(hn:l.Nodup){P Q:Int->Bool}{m:Int}(hm:m∈l)(pm:P m=true)(h:∀ c∈l,Q c=(P c && c != m)):(l.filter Q).length+1=(l.filter P).length:=by
 induction l with
 | nil=>cases hm
 | cons a r ih =>
  obtain⟨n1,n2⟩:=yS.mp hn;rw[yJ,yJ,h a zG]
  by_cases e:a=m
  ·subst e
   have:r.filter Q=r.filter P:=List.filter_congr λc hc=>by
    rw[h c (zH _ hc)];have:(c != a)=true:=by simp;intro z;exact n1 (z▸hc)
    rw[this,y9]
   simp[pm,this]
  ·have hm':m∈r:=(zF.mp hm).elim (λz=>absurd z.symm e) id
   have ih':=ih n2 hm' λc hc=>h c (zH _ hc);have e':(a != m)=true:=by simpa using e
   rw[e',y9];cases P a with
   | true=>simp;omega
   | false=>simpa using ih'
theorem qav{ts:List Int}{f:Int->Int}(hn:ts.Nodup){p q:Int}(hp:p∈ts)(hq:q∈ts)(ne:f p≠f q):many (XN f (f p) (f q)) ts+1=many f ts:=by
 obtain⟨a,a1,a2,a3⟩:=qaR (λc=>f c=f p) hp rfl;obtain⟨b,b1,b2,b3⟩:=qaR (λc=>f c=f q) hq rfl;have ab:a≠b:=λz=>ne (by rw[<- a2,<- b2,z]);have hmax:max a b=a\/max a b=b:=by omega
 have la:lst1 f ts a=true:=q2w.mpr λc hc e=>a3 c hc (by rw[e,a2]);have lb:lst1 f ts b=true:=q2w.mpr λc hc e=>b3 c hc (by rw[e,b2]);refine q8r hn (m:=max a b) (hmax.elim (λz=>by rw[z];exact a1) λz=>by rw[z];exact b1) (hmax.elim (λz=>by rw[z];exact la) λz=>by rw[z];exact lb) λc hc=>?_;rw[Bool.eq_iff_iff,yI,q2w,q2w,bne_iff_ne];have jf:∀ x,XN f (f p) (f q) x=if f x=f q then f p else f x:=λ_=>rfl
 constructor
 ·intro h
  refine⟨λd hd e=>h d hd (by rw[jf,jf,e]),λz=>?_⟩;rcases hmax with y|y
  ·have:=h b b1 (by rw[jf,jf,if_pos b2,z,y,a2,if_neg ne])
   omega
  ·have:=h a a1 (by rw[jf,jf,a2,if_neg ne,z,y,if_pos b2])
   omega
 ·rintro⟨h1,h2⟩ d hd e
  rw[jf,jf] at e
  by_cases y1:f d=f q
  ·rw[if_pos y1] at e
   by_cases y2:f c=f q
   ·exact h1 d hd (by rw[y1,y2])
   ·rw[if_neg y2] at e
    have c1:=h1 a a1 (by rw[a2,e]);have c2:=a3 c hc e.symm;have c3:=b3 d hd y1;omega
  ·rw[if_neg y1] at e
   by_cases y2:f c=f q
   ·rw[if_pos y2] at e
    have c1:=h1 b b1 (by rw[b2,y2]);have c2:=b3 c hc y2;have c3:=a3 d hd e;omega
   ·rw[if_neg y2] at e
    exact h1 d hd e
noncomputable abbrev Eg:=Int×Int×Int
noncomputable def XL(e:Eg):Int×Int:=(e.1,e.2.1)
noncomputable def Xo(e:Eg):Int:=e.2.2
noncomputable def zAf(s:(Int->Int)×List Eg)(e:Eg):(Int->Int)×List Eg:=if s.1 e.1=s.1 e.2.1 then s else (XN s.1 (s.1 e.1) (s.1 e.2.1),s.2++[e])
noncomputable def XZ(f:Int->Int)(es:List Eg):(Int->Int)×List Eg:=es.foldl zAf (f,[])
theorem q1Y(f:Int->Int)(es:List Eg)(e:Eg):XZ f (es++[e])=zAf (XZ f es) e:=by unfold XZ;rw[wo];rfl
theorem q1m{α:Type}{P:List α->Prop}(h0:P [])(hs:∀ l a,P l->P (l++[a]))(l:List α):P l:=by
 have:∀ l:List α,P l.reverse:=λl=>by
  induction l with
  | nil=>exact h0
  | cons a r ih=>rw[wk];exact hs _ _ ih
 have:=this l.reverse
 rwa [xB] at this
theorem q9T{ts:List Int}{kn:List (Int×Int)}{f:Int->Int}(hn:ts.Nodup)(h:Tells ts kn f)(inn:∀ e∈kn,e.1∈ts/\e.2∈ts)(es:List Eg):(∀ e∈es,e.1∈ts/\e.2.1∈ts)->Tells ts (kn++es.map XL) (XZ f es).1/\many (XZ f es).1 ts+(XZ f es).2.length=many f ts:=by
 refine q1m (P:=λes=>(∀ e∈es,e.1∈ts/\e.2.1∈ts)->Tells ts (kn++es.map XL) (XZ f es).1/\many (XZ f es).1 ts+(XZ f es).2.length=many f ts) (λ_=>⟨by rw[yc,zr];exact h,rfl⟩) (λl e ih he=>?_) es;obtain⟨h1,h2⟩:=ih λx hx=>he x (zV _ hx);obtain⟨p1,p2⟩:=he e (by simp);have inn':∀ x∈kn++l.map XL,x.1∈ts/\x.2∈ts:=λx hx=>by
  rcases zN.mp hx with m|m
  ·exact inn x m
  ·obtain⟨y,hy,rfl⟩:=z8.mp m
   exact he y (zV _ hy)
 rw[q1Y,zY,<- zK];unfold zAf
 by_cases z:(XZ f l).1 e.1=(XZ f l).1 e.2.1
 ·rw[if_pos z]
  exact⟨h1.skip p1 p2 z,h2⟩
 ·rw[if_neg z]
  refine⟨h1.join inn' p1 p2,?_⟩;have:=qav hn p1 p2 z;show many (XN _ _ _) ts+((XZ f l).2++[e]).length=_;rw[zC,zU];omega
theorem q42(f:Int->Int)(es:List Eg):(XZ f es).2.Sublist es:=by
 refine q1m (P:=λes=>(XZ f es).2.Sublist es) (YD _) (λl e ih=>?_) es;rw[q1Y];unfold zAf
 split
 ·exact ih.trans (List.sublist_append_left _ _)
 ·exact ih.append (YD _)
theorem Cls.low{ts:List Int}{es:List (Int×Int)}{g:List Int}{a:Int}(c:Cls ts es g a):∀ x∈g,a <= x:=λx hx=>by
 have h:=c.hd;have u:=c.up;cases g with
 | nil=>cases hx
 | cons b r =>
  cases h;rcases zF.mp hx with rfl|hx
  ·exact yD _
  ·exact yg ((zb.mp u).1 x hx)
theorem GS.apart{ts:List Int}{es:List (Int×Int)}{gs:List (List Int)}{hs:List Int}(h:GS ts es gs hs){i j:Nat}{g g':List Int}{c:Int}(e1:gs[i]?=some g)(e2:gs[j]?=some g')(h1:c∈g)(h2:c∈g'):i=j:=by
 have li:=(zj.mp e1).1;have lj:=(zj.mp e2).1;rw[h.len] at li lj;have c1:=h.cls i g _ e1 (zD li);have c2:=h.cls j g' _ e2 (zD lj);have r1:=(c1.mem c).mp h1;have r2:=(c2.mem c).mp h2;have a1:=c1.low _ ((c1.mem _).mpr (r1.trans r2.symm));have a2:=c2.low _ ((c2.mem _).mpr (r2.trans r1.symm));rcases Nat.lt_trichotomy i j with z|z|z
 ·have:=yL.mp h.up i j li lj z;omega
 ·exact z
 ·have:=yL.mp h.up j i lj li z;omega
theorem q8I:∀ {gs:List (List Int)},(∀ g∈gs,g.Nodup)->(∀ (i j:Nat) g g' c,gs[i]?=some g->gs[j]?=some g'->c∈g->c∈g'->i=j)->gs.flatten.Nodup
 | [],_,_=>xO
 | g::gs,h1,h2=>by
  rw[yC,yV];refine⟨h1 g zG,q8I (λg hg=>h1 g (zH _ hg)) (λi j a b c e1 e2 m1 m2=>?_),λx hx y hy e=>?_⟩
  ·have:=h2 (i+1) (j+1) a b c e1 e2 m1 m2;omega
  ·subst e
   obtain⟨g',hg',hx'⟩:=wN.mp hy;obtain⟨j,hj,rfl⟩:=ze.mp hg';have:=h2 0 (j+1) g _ x rfl (zD hj) hx hx';omega
theorem GS.flat{ts:List Int}{es:List (Int×Int)}{gs:List (List Int)}{hs:List Int}(ok:Ok ts es)(h:GS ts es gs hs)(all:∀ t∈ts,∃ g∈gs,t∈g):gs.flatten.Perm ts:=by
 have nd:gs.flatten.Nodup:=q8I (λg hg=>by
  obtain⟨a,_,c⟩:=h.one hg;exact c.up.imp λ{a b} h e=>by omega) λi j g g' c e1 e2 m1 m2=>h.apart e1 e2 m1 m2
 refine(wW nd ok.nd).mpr λx=>⟨λhx=>?_,λhx=>?_⟩
 ·obtain⟨g,hg,hx⟩:=wN.mp hx
  obtain⟨a,_,c⟩:=h.one hg;exact((c.mem x).mp hx).mem ok c.inn
 ·obtain⟨g,hg,hx⟩:=all x hx
  exact wN.mpr ⟨g,hg,hx⟩
noncomputable def nmP:Nat->List (List Int)->List (Nat×List Int)
 | _,[]=>[]
 | k,g::gs=>(k,g)::nmP (k+1) gs
noncomputable def kkP(ps:List (Nat×List Int)):List Int:=ps.flatMap (·.2)
noncomputable def vvP(ps:List (Nat×List Int)):List D:=ps.flatMap λp=>p.2.map λ_=>D.int (p.1:Int)
theorem q3A:∀ (k:Nat) (gs:List (List Int)),kkP (nmP k gs)=gs.flatten
 | _,[]=>rfl
 | k,g::gs=>by show g++kkP (nmP (k+1) gs)=_;rw[q3A];rfl
theorem qaO:∀ ps:List (Nat×List Int),(kkP ps).length=(vvP ps).length
 | []=>rfl
 | p::ps=>by show (p.2++kkP ps).length=((p.2.map λ_=>D.int (p.1:Int))++vvP ps).length;rw[zC,zC,zB,qaO ps]
theorem q98{α:Type}(v:α):∀ (g:List Int) {x:Int},x∈g->Yw g (g.map λ_=>v) x=some v
 | [],_,h=>by cases h
 | y::g,x,h=>by
  show (if y=x then some v else Yw g (g.map λ_=>v) x)=some v
  by_cases z:y=x
  ·rw[if_pos z]
  ·rw[if_neg z]
   rcases zF.mp h with rfl|h
   ·exact absurd rfl z
   ·exact q98 v g h
theorem q6P{α:Type}:∀ {a:List Int} {c:List α} {b:List Int} {d:List α} {x:Int},a.length=c.length->x∈a->Yw (a++b) (c++d) x=Yw a c x
 | [],_,_,_,_,_,h=>by cases h
 | _::_,[],_,_,_,h,_=>by simp at h
 | y::a,v::c,b,d,x,hl,h=>by
  show (if y=x then some v else Yw (a++b) (c++d) x)=if y=x then some v else Yw a c x
  by_cases z:y=x
  ·rw[if_pos z,if_pos z]
  ·rw[if_neg z,if_neg z]
   rcases zF.mp h with rfl|h
   ·exact absurd rfl z
   ·exact q6P (by simpa using hl) h
theorem q6f{α:Type}:∀ {a:List Int} {c:List α} {b:List Int} {d:List α} {x:Int},a.length=c.length->x∉a->Yw (a++b) (c++d) x=Yw b d x
 | [],[],_,_,_,_,_=>rfl
 | [],_::_,_,_,_,h,_=>by simp at h
 | _::_,[],_,_,_,h,_=>by simp at h
 | y::a,v::c,b,d,x,hl,h=>by
  show (if y=x then some v else Yw (a++b) (c++d) x)=_;rw[if_neg (λz=>h (by rw[z];exact zG))];exact q6f (by simpa using hl) λz=>h (zH _ z)
theorem q7X:∀ {gs:List (List Int)} {k:Nat},gs.flatten.Nodup->∀ {j:Nat} {g:List Int} {x:Int},gs[j]?=some g->x∈g->Yw (kkP (nmP k gs)) (vvP (nmP k gs)) x=some (.int ((k+j:Nat):Int))
 | [],k,_,j,g,x,h,_=>by cases h
 | g'::gs,k,hn,j,g,x,h,hx=>by
  rw[yC,yV] at hn;show Yw (g'++kkP (nmP (k+1) gs)) ((g'.map λ_=>D.int (k:Int))++vvP (nmP (k+1) gs)) x=_;cases j with
  | zero=>cases h;rw[q6P (by rw[zB]) hx,q98 _ _ hx];rfl
  | succ j =>
   have hg:gs[j]?=some g:=h;have hf:x∈gs.flatten:=wN.mpr ⟨g,z7 hg,hx⟩;rw[q6f (by rw[zB]) (λz=>hn.2.2 x z x hf rfl),q7X hn.2.1 hg hx,show k+1+j=k+(j+1) by omega]
theorem q8Q{α:Type}{ks:List Int}{xs:List α}{k:Int}(y:α)(h:k∉ks):X3 ks k=ks++[k]/\putA ks xs k y=xs++[y]:=by
 unfold X3 putA;rw[if_neg h,if_neg h];exact⟨rfl,rfl⟩
noncomputable def nmD(p:Nat×List Int):D:=.tup [.int (p.1:Int),gD p.2]
theorem q8Y:∀ (k:Nat) (gs:List (List Int)),WQ k (gs.map gD)=(nmP k gs).map nmD
 | _,[]=>rfl
 | k,g::gs=>by show D.tup [.int (k:Int),gD g]::WQ (k+1) (gs.map gD)=_;rw[q8Y];rfl
theorem qaU(a b:List (Nat×List Int)):kkP (a++b)=kkP a++kkP b:=by unfold kkP;rw[xw]
theorem qfr(a b:List (Nat×List Int)):vvP (a++b)=vvP a++vvP b:=by unfold vvP;rw[xw]
theorem q9C{gs:List (List Int)}(nd:gs.flatten.Nodup)(fl:gs.flatten.length < 64):qE [.lst (gs.map gD)]=some (.sh (.dic (kkP (nmP 0 gs)) (vvP (nmP 0 gs)))):=by
 unfold qE q0R;simp_arith[q8Y];have nd':(kkP (nmP 0 gs)).Nodup:=by rw[q3A];exact nd
 have fl':(kkP (nmP 0 gs)).length < 64:=by rw[q3A];exact fl
 generalize nmP 0 gs=ps at nd' fl';obtain⟨ω',e,x2,x3,x4,rfl⟩:=qF (g:=gT 2 (Y0 (gN 2) (Y0 (gN 3) Xn))) (b:=q0z) nmD ps
  (λpre ω=>∃ x2 x3 x4,ω=[some (.sh (.lst (gs.map gD))),some (.od (kkP pre) (vvP pre)),x2,x3,x4])
  (λpre p post ω hd ⟨x2,x3,x4,hω⟩=>by
   subst hω;refine⟨_,rfl,?_⟩;unfold q0z;obtain⟨k,g⟩:=p;rw[hd,qaU] at nd' fl';show zAe (Wz _ _ _ [some (.sh (.lst (gs.map gD))),some (.od (kkP pre) (vvP pre)),some (.sh (.int (k:Int))),some (.sh (.lst (g.map D.int))),x4]) _;simp_arith[qI];obtain⟨ω',e,y4,rfl⟩:=qF (g:=gN 4) (b:=q0A) D.int g
    (λpre' ω=>∃ y4,ω=[some (.sh (.lst (gs.map gD))),some (.od (kkP pre++pre') (vvP pre++pre'.map λ_=>D.int (k:Int))),some (.sh (.int (k:Int))),some (.sh (.lst (g.map D.int))),y4])
    (λpre' c post' ω hd' ⟨y4,hω⟩=>by
     subst hω;refine⟨_,rfl,?_⟩;have nd2:(kkP pre++(pre'++c::post')).Nodup:=by
      have:(kkP pre++(g++kkP post)).Nodup:=nd';rw[hd',<- zK] at this;exact(yV.mp this).1
     have hnew:c∉kkP pre++pre':=λm=>by
      rw[<- zK] at nd2;exact(yV.mp nd2).2.2 c m c zG rfl
     have hlen:(kkP pre++pre').length < 1000000:=by
      have:(kkP pre++(g++kkP post)).length < 64:=fl';rw[hd'] at this;simp only[zC,zL] at this ⊢;omega
     obtain⟨p1,p2⟩:=q8Q (xs:=vvP pre++pre'.map λ_=>D.int (k:Int)) (D.int (k:Int)) hnew;unfold q0A;simp_arith[q2o hlen,p1,p2,zK];exact⟨_,by rw[zY];rfl⟩)
    (ω:=[some (.sh (.lst (gs.map gD))),some (.od (kkP pre) (vvP pre)),some (.sh (.int (k:Int))),some (.sh (.lst (g.map D.int))),x4]) ⟨x4,by rw[zr,yc,zr]⟩
   simp_arith[e];have ek:kkP (pre++[(k,g)])=kkP pre++g:=by
    rw[qaU];show kkP pre++(g++[])=_;rw[zr]
   have ev:vvP (pre++[(k,g)])=vvP pre++g.map λ_=>D.int (k:Int):=by
    rw[qfr];show vvP pre++((g.map λ_=>D.int (k:Int))++[])=_;rw[zr]
   rw[ek,ev];exact⟨_,_,_,rfl⟩)
  (ω:=[some (.sh (.lst (gs.map gD))),some (.od [] []),none,none,none]) ⟨none,none,none,rfl⟩
 simp_arith[e]
noncomputable def egD(e:Eg):D:=.tup [.int e.1,.int e.2.1,.int e.2.2]
theorem q7w(e:Eg):q1h [egD e]=some (.sh (.int (Xo e))):=rfl
theorem qbz(e:Eg):zBP q1h (egD e)=Xo e:=by unfold zBP;rw[q7w]
theorem q9o(e:Eg):keyOk q1h (egD e)=true:=by unfold keyOk;rw[q7w]
theorem qaC(es:List Eg):Yx (zBP q1h) (es.map egD)=(Yx Xo es).map egD:=by
 rw[q1k,q28 λx _=>qbz x]
noncomputable def Wk(f:Int->Int)(ks:List Int):List D:=ks.map λk=>.int (f k)
theorem q2H{f:Int->Int}:∀ {ks:List Int} {x:Int},x∈ks->Yw ks (Wk f ks) x=some (.int (f x))
 | [],_,h=>by cases h
 | k::ks,x,h=>by
  by_cases e:k=x
  ·subst e
   show (if k=k then some (D.int (f k)) else Yw ks (Wk f ks) k)=_;rw[if_pos rfl]
  ·show (if k=x then some (D.int (f k)) else Yw ks (Wk f ks) x)=_
   rw[if_neg e];exact q2H ((zF.mp h).elim (λz=>absurd z.symm e) id)
theorem qeU{f:Int->Int}{ks:List Int}{a b:Int}(hn:ks.Nodup)(hl:ks.length < 1000):qG [.dic ks (Wk f ks),.int a,.int b]=some (.sh (.dic ks (Wk (XN f a b) ks))):=by
 unfold qG q0t;obtain⟨ω',e,x4,rfl⟩:=qF (g:=gN 4) (b:=q0j) D.int ks
  (λpre ω=>∃ x4:Option W,ω=[some (.sh (.dic ks (Wk f ks))),some (.sh (.int a)),some (.sh (.int b)),some (.od pre (Wk (XN f a b) pre)),x4])
  (λpre k post ω hd ⟨x4,hω⟩=>by
   subst hω;refine⟨_,rfl,?_⟩;have hk:k∈ks:=by rw[hd];simp
   have hnk:k∉pre:=λz=>by
    rw[hd] at hn;exact(yV.mp hn).2.2 k z k (by simp) rfl
   have hp:pre.length < ks.length:=by rw[hd,zC,zL];omega
   have hv:=q2H (f:=f) hk;have hds:pre.length < 1000000:=by omega
   obtain⟨p1,p2⟩:=q8Q (xs:=Wk (XN f a b) pre) (D.int (XN f a b k)) hnk;have ev:Wk (XN f a b) (pre++[k])=Wk (XN f a b) pre++[.int (XN f a b k)]:=by unfold Wk;rw[zY];rfl
   unfold q0j
   by_cases z:f k=b
   ·have z':(f k == b)=true:=by simpa using z
    have jk:XN f a b k=a:=if_pos z;rw[jk] at p2 ev;simp_arith[hv,z',q2o hds,p1,p2];exact⟨_,by rw[ev]⟩
   ·have z':(f k == b)=false:=by simpa using z
    have jk:XN f a b k=f k:=if_neg z;rw[jk] at p2 ev;simp_arith[hv,z',q2o hds,p1,p2];exact⟨_,by rw[ev]⟩)
  (ω:=[some (.sh (.dic ks (Wk f ks))),some (.sh (.int a)),some (.sh (.int b)),some (.od [] []),none]) ⟨none,rfl⟩
 simp_arith[e]
noncomputable def zAT(ks:List Int)(vs:List D)(x:Int):Int:=match Yw ks vs x with
 | some (.int i)=>i
 | _=>0
theorem q8J:∀ {ks:List Int} {vs:List D},ks.Nodup->ks.length=vs.length->(∀ v∈vs,∃ i:Int,v=.int i)->vs=Wk (zAT ks vs) ks
 | [],[],_,_,_=>rfl
 | [],_::_,_,h,_=>by simp at h
 | _::_,[],_,h,_=>by simp at h
 | k::ks,v::vs,hn,hl,hv=>by
  obtain⟨n1,n2⟩:=yS.mp hn;obtain⟨i,rfl⟩:=hv v zG;have ih:=q8J n2 (by simpa using hl) λu hu=>hv u (zH _ hu);have e1:zAT (k::ks) (.int i::vs) k=i:=by
   unfold zAT;show (match (if k=k then some (D.int i) else Yw ks vs k) with|some (.int i)=>i|_=>0)=i;rw[if_pos rfl]
  have e2:∀ x∈ks,zAT (k::ks) (.int i::vs) x=zAT ks vs x:=λx hx=>by
   unfold zAT;have:Yw (k::ks) (D.int i::vs) x=Yw ks vs x:=if_neg (λz:k=x=>by subst z;exact n1 hx);rw[this]
  show D.int i::vs=D.int (zAT (k::ks) (.int i::vs) k)::ks.map _;rw[e1]
  congr 1
  have:ks.map (λk'=>D.int (zAT (k::ks) (.int i::vs) k'))=Wk (zAT ks vs) ks:=by
   unfold Wk;exact ya λx hx=>by rw[e2 x hx]
  rw[this];exact ih
theorem qey:∀ (ps:List (Nat×List Int)),∀ v∈vvP ps,∃ i:Int,v=.int i:=λps v hv=>by
 unfold vvP at hv;obtain⟨p,_,h⟩:=xL.mp hv;obtain⟨_,_,rfl⟩:=z8.mp h;exact⟨_,rfl⟩
theorem qbW{ts:List Int}{kn:List (Int×Int)}(ok:Ok ts kn):∃ (gs:List (List Int)) (ks:List Int) (f:Int->Int),q1d [.lst (ts.map D.int),.lst (kn.map Yi)]=some (.fr (gs.map gD))/\qE [.lst (gs.map gD)]=some (.sh (.dic ks (Wk f ks)))/\ks.Nodup/\(∀ x,x∈ks↔x∈ts)/\ks.length < 64/\Tells ts kn f:=by
 obtain⟨gs,hs,g1,g2,g3,g4⟩:=qbC ok;have pf:=g2.flat ok g3;have nd:gs.flatten.Nodup:=pf.nodup_iff.mpr ok.nd;have fl:gs.flatten.length < 64:=by rw[pf.length_eq];exact ok.l1
 have nm:=q9C nd fl;have kk:=q3A 0 gs;have lv:=q8J (ks:=kkP (nmP 0 gs)) (vs:=vvP (nmP 0 gs)) (by rw[kk];exact nd) (qaO _) (qey _);refine⟨gs,kkP (nmP 0 gs),zAT (kkP (nmP 0 gs)) (vvP (nmP 0 gs)),g1,by rw[<- lv];exact nm,by rw[kk];exact nd,λx=>by rw[kk];exact pf.mem_iff,by rw[kk];exact fl,λx hx y hy=>?_⟩;obtain⟨gx,mx,hxg⟩:=g3 x hx;obtain⟨gy,my,hyg⟩:=g3 y hy;obtain⟨i,hi⟩:=yz.mp mx;obtain⟨j,hj⟩:=yz.mp my;have vx:=q7X (k:=0) nd hi hxg;have vy:=q7X (k:=0) nd hj hyg;have fx:zAT (kkP (nmP 0 gs)) (vvP (nmP 0 gs)) x=((0+i:Nat):Int):=by unfold zAT;rw[vx]
 have fy:zAT (kkP (nmP 0 gs)) (vvP (nmP 0 gs)) y=((0+j:Nat):Int):=by unfold zAT;rw[vy]
 rw[fx,fy];obtain⟨a,_,cx⟩:=g2.one mx;obtain⟨b,_,cy⟩:=g2.one my
 constructor
 ·intro e
  have:i=j:=by omega
  subst this;rw[hi] at hj;cases hj;exact((cx.mem x).mp hxg).symm.trans ((cx.mem y).mp hyg)
 ·intro r
  have:y∈gx:=(cx.mem y).mpr (((cx.mem x).mp hxg).trans r);have:=g2.apart hi hj this hyg;rw[this]
theorem qaL{ts:List Int}{kn:List (Int×Int)}{es:List Eg}(ok:Ok ts kn)(he:∀ e∈es,e.1∈ts/\e.2.1∈ts)(hl:es.length < 64):∃ f:Int->Int,Tells ts kn f/\qW [.lst (ts.map D.int),.lst (kn.map Yi),.lst (es.map egD)]=some (.fr ((XZ f (Yx Xo es)).2.map egD)):=by
 obtain⟨gs,ks,f,g1,g2,nd,mem,lk,tl⟩:=qbW ok;refine⟨f,tl,?_⟩;unfold qW q3Z;have sk:=qgc (m:=q1h) (ds:=es.map egD) (by rw[zB];exact hl) (λd hd=>by obtain⟨e,_,rfl⟩:=z8.mp hd;exact q9o e);rw[qaC] at sk;have pm:=q0a (f:=Xo) (l:=es);have hS:∀ e∈Yx Xo es,e.1∈ts/\e.2.1∈ts:=λe h=>he e (pm.mem_iff.mp h);have lS:(Yx Xo es).length=es.length:=pm.length_eq;generalize Yx Xo es=S at sk hS lS;simp_arith[g1,g2,sk];obtain⟨ω',e,x5,x6,x7,rfl⟩:=qF (g:=gN 5) (b:=q3j) egD S
  (λpre ω=>∃ (x5 x6 x7:Option W),ω=[some (.sh (.lst (ts.map D.int))),some (.sh (.lst (kn.map Yi))),some (.sh (.lst (es.map egD))),some (.sh (.dic ks (Wk (XZ f pre).1 ks))),some (.ow ((XZ f pre).2.map egD)),x5,x6,x7])
  (λpre e post ω hd ⟨x5,x6,x7,hω⟩=>by
   subst hω;refine⟨_,rfl,?_⟩;obtain⟨m1,m2⟩:=hS e (by rw[hd];simp);have v1:=q2H (f:=(XZ f pre).1) ((mem e.1).mpr m1);have v2:=q2H (f:=(XZ f pre).1) ((mem e.2.1).mpr m2);have lp:((XZ f pre).2.map egD).length < 1000000:=by
    have:=(q42 f pre).length_le;have:pre.length <= S.length:=by rw[hd,zC];omega
    rw[zB];omega
   have tw:=qeU (f:=(XZ f pre).1) (a:=(XZ f pre).1 e.1) (b:=(XZ f pre).1 e.2.1) nd (by omega);have ed:egD e=.tup [.int e.1,.int e.2.1,.int e.2.2]:=rfl;unfold q3j;rw[q1Y];unfold zAf
   by_cases z:(XZ f pre).1 e.1=(XZ f pre).1 e.2.1
   ·have z':((XZ f pre).1 e.1 == (XZ f pre).1 e.2.1)=true:=by simpa using z
    rw[if_pos z];simp_arith[ed,v1,v2,z'];exact⟨_,_,_,rfl⟩
   ·have z':((XZ f pre).1 e.1 == (XZ f pre).1 e.2.1)=false:=by simpa using z
    rw[if_neg z];simp_arith[ed,v1,v2,z',zAz lp,tw];exact⟨_,_,_,by rw[zY];rfl⟩)
  (ω:=[some (.sh (.lst (ts.map D.int))),some (.sh (.lst (kn.map Yi))),some (.sh (.lst (es.map egD))),some (.sh (.dic ks (Wk f ks))),some (.ow []),none,none,none]) ⟨none,none,none,rfl⟩
 simp_arith[e]
theorem q9l{ts:List Int}{kn:List (Int×Int)}{f:Int->Int}(h:Tells ts kn f)(inn:∀ e∈kn,e.1∈ts/\e.2∈ts)(es:List Eg):(∀ e∈es,e.1∈ts/\e.2.1∈ts)->Tells ts (kn++(XZ f es).2.map XL) (XZ f es).1:=by
 refine q1m (P:=λes=>(∀ e∈es,e.1∈ts/\e.2.1∈ts)->Tells ts (kn++(XZ f es).2.map XL) (XZ f es).1) (λ_=>by show Tells ts (kn++[]) f;rw[zr];exact h) (λl e ih he=>?_) es;have h1:=ih λx hx=>he x (zV _ hx);obtain⟨p1,p2⟩:=he e (by simp);rw[q1Y];unfold zAf
 by_cases z:(XZ f l).1 e.1=(XZ f l).1 e.2.1
 ·rw[if_pos z];exact h1
 ·rw[if_neg z]
  show Tells ts (kn++((XZ f l).2++[e]).map XL) _;rw[zY,<- zK];exact h1.join (λx hx=>by
   rcases zN.mp hx with m|m
   ·exact inn x m
   ·obtain⟨y,hy,rfl⟩:=z8.mp m
    exact he y (zV _ ((q42 f l).subset hy))) p1 p2
theorem q4h:∀ (r:List Int) (k:Int),∀ p∈k::r,Rch (Ym (k::r)) k p
 | [],k,p,hp=>by cases zT.mp hp;exact .refl
 | k1::r,k,p,hp=>by
  rcases zF.mp hp with rfl|hp
  ·exact .refl
  ·rw[q1j]
   exact(Rch.refl.step (.inl zG)).trans ((q4h r k1 p hp).mono λe he=>zH _ he)
noncomputable def egO(q:Int×Int):Eg:=(q.1,q.2,q.2 - q.1)
theorem qdI(G:List (Int×Int)):(G.map egO).map XL=G:=by rw[yR];exact List.map_id _
theorem q2t:∀ {P:List Int},P.Pairwise (· < ·)->(Ym P).Nodup
 | [],_=>xO
 | [_],_=>xO
 | a::b::r,h=>by
  show ((a,b)::Ym (b::r)).Nodup;have hr:=zb.mp h;refine yS.mpr ⟨λm=>?_,q2t hr.2⟩;have:=hr.1 a (qN m).1;omega
structure FoA (h l:Int) (bs:List (Int×Int)) (F:List Eg):Prop where
 fo:qW [.lst ((Pz h l bs).map D.int),.lst ((Kn h l bs).map Yi),.lst (((Ym (Pz h l bs)).map egO).map egD)]=some (.fr (F.map egD))
 fs:∀ e∈F,∃ g∈Ym (Pz h l bs),e=egO g
 nd:F.Nodup
 len:F.length <= 62
 con:∀ x∈Pz h l bs,∀ y∈Pz h l bs,Rch (Kn h l bs++F.map XL) x y
theorem qgo(h l:Int)(bs:List (Int×Int)):Pz h l bs≠[]:=λz=>by
 have:h∈Pz h l bs:=(qK h).mpr (.inl rfl);rw[z] at this;cases this
theorem qch{P:List Int}:∀ p∈P,∀ q∈P,Rch (Ym P) p q:=by
 cases P with
 | nil=>intro p hp;cases hp
 | cons k r=>exact λp hp q hq=>(q4h r k p hp).symm.trans (q4h r k q hq)
theorem qgk{h l:Int}{bs:List (Int×Int)}(hb:bs.length <= 30):∃ F,FoA h l bs F:=by
 have hP:=q53 h l bs;have hl:=qax (h:=h) (l:=l) hb;have gl:=q0C (Pz h l bs);have fl:=yj (λq=>!(Yr h l bs q == 0)) (Ym (Pz h l bs));have kl:(Kn h l bs).length <= 900:=by unfold Kn;rw[zC,zC,zU];omega
 have ok:Ok (Pz h l bs) (Kn h l bs):=⟨qd2 hP,λe he=>qg3 he,hl,by omega⟩;have he:∀ e∈(Ym (Pz h l bs)).map egO,e.1∈Pz h l bs/\e.2.1∈Pz h l bs:=λe he=>by
  obtain⟨g,hg,rfl⟩:=z8.mp he;exact qN hg
 have el:((Ym (Pz h l bs)).map egO).length < 64:=by rw[zB];omega
 obtain⟨f,tl,hf⟩:=qaL ok he el;have pm:=q0a (f:=Xo) (l:=(Ym (Pz h l bs)).map egO);have heS:∀ e∈Yx Xo ((Ym (Pz h l bs)).map egO),e.1∈Pz h l bs/\e.2.1∈Pz h l bs:=λe h=>he e (pm.mem_iff.mp h);have kt:=q9T ok.nd tl ok.inn _ heS;have k2:=q9l tl ok.inn _ heS;have one:∀ x∈Pz h l bs,∀ y∈Pz h l bs,(XZ f (Yx Xo ((Ym (Pz h l bs)).map egO))).1 x=(XZ f (Yx Xo ((Ym (Pz h l bs)).map egO))).1 y:=λx hx y hy=>by
  refine(kt.1 x hx y hy).mpr ((qch x hx y hy).mono λe he=>?_);refine zQ _ ((pm.map XL).mem_iff.mpr ?_);rw[qdI];exact he
 have sub:=q42 f (Yx Xo ((Ym (Pz h l bs)).map egO));have lF:=sub.length_le;have lS:(Yx Xo ((Ym (Pz h l bs)).map egO)).length=(Ym (Pz h l bs)).length:=by rw[q5O,zB]
 refine⟨(XZ f (Yx Xo ((Ym (Pz h l bs)).map egO))).2,hf,λe he=>?_,?_,by omega,λx hx y hy=>(k2 x hx y hy).mp (one x hx y hy)⟩
 ·obtain⟨g,hg,e1⟩:=z8.mp (pm.mem_iff.mp (sub.subset he))
  exact⟨g,hg,e1.symm⟩
 ·refine List.Nodup.sublist sub (pm.nodup_iff.mpr ?_)
  unfold YY;rw[wp];exact(q2t hP).imp λ{a b} z e=>z (by
   have e1:a.1=b.1:=congrArg (λx=>x.1) e;have e2:a.2=b.2:=congrArg (λx=>x.2.1) e;exact Prod.ext e1 e2)
noncomputable def emA(h l:Int)(bs:List (Int×Int))(F:List Eg):List (Int×Int):=WE (Yr h l bs) (Ym (Pz h l bs))++twoA (F.map XL)
noncomputable def arA(h l:Int)(bs:List (Int×Int))(F:List Eg):List (Int×Int):=bs++emA h l bs F
theorem qde{h l:Int}{bs:List (Int×Int)}{F:List Eg}(A:FoA h l bs F){a:Int×Int}(m:a∈emA h l bs F):∃ g∈Ym (Pz h l bs),a=(g.1,g.2)\/a=(g.2,g.1):=by
 rcases zN.mp m with m|m
 ·exact qfJ m
 ·obtain⟨e0,he0,m⟩:=xL.mp m
  obtain⟨e,he2,rfl⟩:=z8.mp he0;obtain⟨g,hg,rfl⟩:=A.fs e he2;rcases zF.mp m with rfl|m
  ·exact⟨g,hg,.inl rfl⟩
  ·cases zT.mp m
   exact⟨g,hg,.inr rfl⟩
theorem qfF{h l:Int}{bs:List (Int×Int)}{F:List Eg}(hb:bs.length <= 30)(x:Int):flw x (arA h l bs F++[(l,h)])=0:=by
 have hP:=q53 h l bs;have hG:=q75 (h:=h) (l:=l) hb;unfold arA emA;rw[q1z,q1z,q1z,q7V,q6R,q1O];have inP:∀ b∈bs,b.1∈Pz h l bs/\b.2∈Pz h l bs:=λb hb=>⟨(qK _).mpr (.inr (.inr ⟨b,hb,.inl rfl⟩)),(qK _).mpr (.inr (.inr ⟨b,hb,.inr rfl⟩))⟩;have ih:h∈Pz h l bs:=(qK h).mpr (.inl rfl);have il:l∈Pz h l bs:=(qK l).mpr (.inr (.inl rfl));have pk:(∃ g∈Ym (Pz h l bs),g.1 < x/\x <= g.2/\∀ c:Int×Int->Int,((Ym (Pz h l bs)).map λg=>c g*(chi x g.2 - chi x g.1)).sum=c g)\/(∀ p∈Pz h l bs,∀ q∈Pz h l bs,chi x p=chi x q):=by
  have hne:=qgo h l bs;revert hP hne;generalize Pz h l bs=P;intro hP hne;cases P with
  | nil=>exact absurd rfl hne
  | cons k r=>exact q6V x r k hP
 rcases pk with⟨g,hg,g1,g2,g3⟩|h3
 ·rw[g3 (Yr h l bs)]
  obtain⟨t1,t2⟩:=qda (hG g hg) g1 g2;have hG1:Gap h l [(h,l)] g:=⟨(hG g hg).lt,(hG g hg).h,(hG g hg).l,λb hb=>by cases zT.mp hb;exact⟨(hG g hg).h,(hG g hg).l⟩⟩;obtain⟨u1,u2⟩:=qda hG1 g1 g2;simp only[zg,yc,yr,List.sum_nil,Int.add_zero] at u1 u2;have v:=qbs x h l;have fb:flw x bs=rts bs g - lfs bs g:=by
   rw[<- t1,<- t2];unfold flw;rw[ya λb _=>(qbs x b.1 b.2).symm];clear t1 t2 hb hP hG inP ih il hg g3 hG1 u1 u2
   induction bs with
   | nil=>rfl
   | cons b bs ih=>simp only[zg,yr,ih];omega
  rw[fb];have e0:flw x []=0:=rfl;rw[e0];unfold Yr;simp only;omega
 ·have e0:((Ym (Pz h l bs)).map λg=>Yr h l bs g*(chi x g.2 - chi x g.1)).sum=0:=by
   have:∀ g∈Ym (Pz h l bs),Yr h l bs g*(chi x g.2 - chi x g.1)=0:=λg hg=>by
    rw[h3 _ (qN hg).2 _ (qN hg).1,YB,Int.mul_zero]
   rw[ya this];clear this
   induction Ym (Pz h l bs) with
   | nil=>rfl
   | cons g gs ih=>rw[zg,yr,ih];rfl
  have fb:flw x bs=0:=by
   unfold flw;have:∀ b∈bs,chi x b.2 - chi x b.1=0:=λb hb=>by rw[h3 _ (inP b hb).2 _ (inP b hb).1,YB]
   rw[ya this];clear this;generalize bs=bs'
   induction bs' with
   | nil=>rfl
   | cons g gs ih=>rw[zg,yr,ih];rfl
  have:=h3 _ ih _ il;have en:flw x []=0:=rfl;rw[e0,fb,en];simp only;omega
theorem qg6{h l:Int}{bs:List (Int×Int)}{F:List Eg}(A:FoA h l bs F):∀ a∈arA h l bs F++[(l,h)],a.1∈Pz h l bs:=λa ha=>by
 rcases zN.mp ha with m|m
 ·rcases zN.mp m with m|m
  ·exact(qK _).mpr (.inr (.inr ⟨a,m,.inl rfl⟩))
  ·obtain⟨g,hg,rfl|rfl⟩:=qde A m
   ·exact(qN hg).1
   ·exact(qN hg).2
 ·cases zT.mp m
  exact(qK l).mpr (.inr (.inl rfl))
theorem qfj{h l:Int}{bs:List (Int×Int)}{F:List Eg}(A:FoA h l bs F):∀ x∈Pz h l bs,∀ y∈Pz h l bs,Rch (arA h l bs F++[(l,h)]) x y:=λx hx y hy=>by
 refine Rch.inv (λz=>Rch (arA h l bs F++[(l,h)]) x z) .refl (λb c hb hbc=>?_) (A.con x hx y hy);have key:∀ {u v:Int},(u,v)∈Kn h l bs++F.map XL->Rch (arA h l bs F++[(l,h)]) u v:=λ{u v} m=>by
  have s1:∀ {u v:Int},(u,v)∈arA h l bs F->Rch (arA h l bs F++[(l,h)]) u v:=λm=>Rch.refl.step (.inl (zV _ m));rcases zN.mp m with m|m
  ·unfold Kn at m
   rcases zN.mp m with m|m
   ·rcases zN.mp m with m|m
    ·exact s1 (zV _ m)
    ·cases zT.mp m
     exact Rch.refl.step (.inr (zQ _ (zT.mpr rfl)))
   ·obtain⟨m1,m2⟩:=yv.mp m
    have hc:Yr h l bs (u,v)≠0:=by simpa using m2
    rcases qc1 (c:=Yr h l bs) m1 hc with z|z
    ·exact s1 (zQ _ (zV _ z))
    ·exact(s1 (zQ _ (zV _ z))).symm
  ·exact s1 (zQ _ (zQ _ (xL.mpr ⟨_,m,zG⟩)))
 rcases hbc with m|m
 ·exact hb.trans (key m)
 ·exact hb.trans (key m).symm
theorem qdD{h l:Int}{bs:List (Int×Int)}{F:List Eg}(hb:bs.length <= 30):(sts (arA h l bs F++[(l,h)])).Perm (gls (arA h l bs F++[(l,h)])):=by
 rw[List.perm_iff_count];intro v;rw[<- (q4p _ v).1,<- (q4p _ v).2];exact q8d (λx=>qfF hb x) v
theorem q4d{h l:Int}{bs:List (Int×Int)}(q:Int×Int):-(bs.length:Int) - 1 <= Yr h l bs q/\Yr h l bs q <= bs.length+1:=by
 unfold Yr rts lfs;have a1:=yj (λp:Int×Int=>over p.1 p.2 q) bs;have a2:=yj (λp:Int×Int=>over p.2 p.1 q) bs;have b1:=yj (λp:Int×Int=>over p.1 p.2 q) [(h,l)];have b2:=yj (λp:Int×Int=>over p.2 p.1 q) [(h,l)];simp only[zU] at b1 b2;omega
theorem q52{c:Int×Int->Int}{n:Nat}:∀ G:List (Int×Int),(∀ g∈G,-(n:Int) <= c g/\c g <= n)->(WE c G).length <= G.length*n
 | [],_=>zz _
 | g::G,h=>by
  have ih:=q52 G λx hx=>h x (zH _ hx);have hg:=h g zG;show (repA (c g) g++WE c G).length <= _;rw[zC,zL,Nat.add_mul,Nat.one_mul];unfold repA;rw[zC,yK,yK];omega
theorem q5l:∀ F:List (Int×Int),(twoA F).length=2*F.length
 | []=>rfl
 | e::F=>by
  show ([e,(e.2,e.1)]++twoA F).length=_;rw[zC,q5l F,zL];simp only[zL,xU];omega
theorem qaX{h l:Int}{bs:List (Int×Int)}{F:List Eg}(hb:bs.length <= 30)(A:FoA h l bs F):(arA h l bs F).length <= 2500:=by
 have hl:=qax (h:=h) (l:=l) hb;have gl:=q0C (Pz h l bs);have e1:=q52 (c:=Yr h l bs) (n:=31) (Ym (Pz h l bs)) λg _=>by have:=q4d (h:=h) (l:=l) (bs:=bs) g;omega
 have:=A.len;unfold arA emA;rw[zC,zC,q5l,zB];omega
structure Rg (as:List (Int×Int)):Prop where
 pm:(sts as).Perm (gls as)
 hg:∀ p∈as,∀ q∈as,Rch as p.1 q.1
theorem qdF(as:List (Int×Int)):shp (.lst (as.map Yi))=true:=q94 2 (by decide) λd hd=>by
 obtain⟨p,_,rfl⟩:=z8.mp hd;exact⟨rfl,by show 1 <= 2;decide⟩
theorem q6s{as:List (Int×Int)}{s:Int}{row:List Int}(h:WS s as=some row):q0L [.int s,.lst (as.map Yi)]=some (.fr (row.map D.int)):=by
 show ((pairsOf (as.map Yi)).bind λas=>(WS s as).map λrow=>O.fr (row.map D.int))=_;rw[q2d,yM,h];rfl
theorem qfk{as:List (Int×Int)}{s:Int}(hl:as.length <= 9000)(hg:Rg as)(hs:∃ p∈as,p.1=s):∃ row:List Nat,q1I [.int s,.lst (as.map Yi)]=some (.sh (.lst ((cst row).map D.int)))/\row.Perm (zf as.length)/\Wlk as s row s:=by
 have hm:=qer (as:=as) hl;rw[decide_eq_true hg.pm] at hm;obtain⟨row,U,hr,R⟩:=qcM (s:=s) hl hg.pm;have hrf:=q6s hr;obtain⟨p,hp,rfl⟩:=hs;have ha:row.length=as.length:=R.full λq hq=>hg.hg p hp q hq;have e1:((((cst row).length:Nat):Int) == (as.length:Int))=true:=by
  have:(cst row).length=row.length:=by unfold cst;rw[zB]
  simp only[beq_iff_eq];omega
 have hU:U=[]:=by
  have:=R.all.length_eq;rw[zC,zo] at this;exact yi (by omega)
 refine⟨row,?_,by have:=R.all;rw[hU,yF] at this;exact this,R.walk⟩;unfold q1I q3Y;simp -implicitDefEqProofs only[q4i,q4E,q4N,q7r,q7Z,q4J,e_wd,q7B,e_wz,q4M,q81,q5d,q9z,q7Y,q7m,q9n,q9W,q9R,q73,q9N,q4Q,q5j,qal,qaq,qah,q9Y,q5h,q5k,qI,q5K,q5i,qa6,qap,q5A,q4T,e_if,q7C,q7s,q9H,q56,q5y,q7O,q5C,qag,zAz,q9F,q4o,q2S,q5g,q4R,q9u,e_fs,qar,e_ag,e_gn,e_gt,e_gc,e_g0,qaf,q5s,q4K,e_c,e_e,e_ed,e_d,q58,q5f,e_v,q50,q5u,q5z,e_op,e_o2,q6E,e_cl,q5q,q5b,e_ac,e_ca,e_an,q9q,q9B,q9X,e_bl,q9K,e_sl,e_po,e_pa,e_ap,q9j,q7l,q7h,q9M,q2T,q3i,e_t,e_tr,q85,e_ta,qam,q9P,e_to,qae,q6J,e_tn,q6W,q4U,q4e,q6I,e_va,q9U,q88,q7A,qak,q7J,Wy,q4X,q4Y,q4V,q3J,q4O,q80,q71,q5n,q7n,q89,q7L,q5c,q9I,q9Q,qac,at0,at1,at2,q3t,q3v,zBR,entry,yM,yn,zL,xU,zB,zg,yc,ZD,yF,yA,xi,wC,wD,yq,xF,Zh,Zi,Z7,Z8,Z9,Zj,Zk,Zl,Zm,Zn,Zo,Zp,Zq,ZS,↓reduceIte,ww,Zr,xj,y9,ym,ZJ,wu,YA,xy,ZX,y8,beq_self_eq_true,zy,qfh,qd1,qcu,qga,qg5,qeA,qeD,qgn,qce,qdA,e_xc,qg7,e_xi,qdJ,e_xd,qgm,qdv,qev,hm,hrf,e1]
theorem Wlk.split{as:List (Int×Int)}:∀ {r q:List Nat} {a c:Int},Wlk as a (r++q) c->∃ b,Wlk as a r b/\Wlk as b q c
 | [],_,a,_,h=>⟨a,.nil _,h⟩
 | n::r,q,a,c,h=>by
  cases h with
  | cons e t =>
   obtain⟨b,h1,h2⟩:=t.split;exact⟨b,.cons e h1,h2⟩
theorem q7d{s:Int}:∀ {P:List Int},s∈P->∃ i,zBX s P=some i/\P[i]?=some s
 | a::r,h=>by
  unfold zBX
  by_cases z:a=s
  ·exact⟨0,if_pos z,by rw[z];rfl⟩
  ·obtain⟨i,h1,h2⟩:=q7d ((zF.mp h).resolve_left λe=>z e.symm)
   exact⟨i+1,by rw[if_neg z,h1];rfl,h2⟩
theorem qfZ{f g:FD}{ω:WSt}:fIdx f g ω=(f ω).bind λd=>(g ω).bind λc=>idxD d c:=rfl
theorem qcz{α:Type}{xs:List α}{k:Int}(h:0 <= k):cutD xs none (some k)=xs.take k.toNat:=by
 unfold cutD;have e:HT.sIx xs.length xs.length (some k)=min k.toNat xs.length:=by
  have:=HT.q57 xs.length xs.length k.toNat;rw[show ((k.toNat:Nat):Int)=k by omega] at this;exact this
 rw[HT.q44,e,Nat.sub_zero,wb,List.take_eq_take_iff];omega
theorem qcw{α:Type}{xs:List α}{k:Int}(h:0 <= k):cutD xs (some k) none=xs.drop k.toNat:=by
 unfold cutD;have e:HT.sIx xs.length 0 (some k)=min k.toNat xs.length:=by
  have:=HT.q57 xs.length 0 k.toNat;rw[show ((k.toNat:Nat):Int)=k by omega] at this;exact this
 rw[HT.q44,e,yf (by rw[yE];omega)];rcases Z3 k.toNat xs.length with z|z
 ·rw[wR z]
 ·rw[Nat.min_eq_right z,wz,List.drop_of_length_le z]
theorem q5e{α:Type}(d:α):∀ n:Nat,(zh n [d]).flatten=zh n d
 | 0=>rfl
 | n+1=>by rw[yA,yC,q5e d n,yA];rfl
theorem qbO(c:Int×Int->Int)(G:List (Int×Int))(q:Int×Int):WE c (G++[q])=WE c G++repA (c q) q:=by
 unfold WE;rw[xw,ZL]
theorem qfT{h l:Int}{bs:List (Int×Int)}(hb:bs.length <= 30):q03 [.int h,.int l,.lst (bs.map Yp)]=some (.fr ((WE (Yr h l bs) (Ym (Pz h l bs))).map Yp)):=by
 unfold q03 q0Y;have hg:=q2g (h:=h) (l:=l) hb;have hk:=q3K (h:=h) (l:=l) hb;have hL:=q7c (h:=h) (l:=l) hb;rw[show Y1 (plc h l bs)=Pz h l bs from rfl] at hg hk;generalize Ym (Pz h l bs)=L at hg hk hL ⊢;simp_arith[hg,hk,q4a];obtain⟨ω',e,x4,x5,x6,rfl⟩:=qF (g:=gT 2 (Y0 (gN 4) (Y0 (gN 5) Xn))) (b:=q0T) (λq=>D.tup [Yp q,.int (Yr h l bs q)]) L
  (λpre ω=>∃ x4 x5 x6:Option W,ω=[some (.sh (.int h)),some (.sh (.int l)),some (.sh (.lst (bs.map Yp))),some (.ow ((WE (Yr h l bs) pre).map Yp)),x4,x5,x6])
  (λpre q post ω hd ⟨x4,x5,x6,hω⟩=>by
   subst hω;refine⟨_,rfl,?_⟩;have la:=q4d (h:=h) (l:=l) (bs:=bs) q;have el:=q52 (c:=Yr h l bs) (n:=31) pre λg _=>by have:=q4d (h:=h) (l:=l) (bs:=bs) g;omega
   have pl:pre.length <= L.length:=by rw[hd,zC];omega
   have ba:bAbs [.int (Yr h l bs q)]=some (.sh (.int (zBs (Yr h l bs q)))):=rfl;unfold q0T;rw[show Yp q=D.tup [.int q.1,.int q.2] from rfl];simp only[qbO];generalize Yr h l bs q=c at *;have ab:0 <= zBs c/\zBs c <= 31:=by unfold zBs;split <;> omega
   by_cases hc:0 < c
   ·have hr:=λd:D=>qat (ds:=[d]) ab.1 (by omega) (show [d].length <= 1000 by simp)
    have e1:(zBs c).toNat=c.toNat:=by unfold zBs;rw[if_neg (by omega)]
    have hl2:((WE (Yr h l bs) pre).map Yp).length+(zh c.toNat (D.tup [.int q.1,.int q.2])).length <= 1000000:=by
     rw[zB,yK];omega
    have ea:(WE (Yr h l bs) pre).map Yp++zh c.toNat (D.tup [.int q.1,.int q.2])=(WE (Yr h l bs) pre++repA c q).map Yp:=by
     unfold repA;rw[show (-c).toNat=0 by omega,xi,zr,zY,wE];rfl
    simp_arith[hc,decide_true,ba,hr,q5e,e1,q2S hl2,ea];exact⟨_,_,_,rfl⟩
   ·have hr:=λd:D=>qat (ds:=[d]) ab.1 (by omega) (show [d].length <= 1000 by simp)
    have e1:(zBs c).toNat=(-c).toNat:=by unfold zBs;split <;> omega
    have hl2:((WE (Yr h l bs) pre).map Yp).length+(zh (-c).toNat (D.tup [.int q.2,.int q.1])).length <= 1000000:=by
     rw[zB,yK];omega
    have ea:(WE (Yr h l bs) pre).map Yp++zh (-c).toNat (D.tup [.int q.2,.int q.1])=(WE (Yr h l bs) pre++repA c q).map Yp:=by
     unfold repA;rw[show c.toNat=0 by omega,xi,yF,zY,wE];rfl
    simp_arith[hc,decide_false,ba,hr,q5e,e1,q2S hl2,ea];exact⟨_,_,_,rfl⟩)
  (ω:=[some (.sh (.int h)),some (.sh (.int l)),some (.sh (.lst (bs.map Yp))),some (.ow []),none,none,none]) ⟨none,none,none,rfl⟩
 simp_arith[e]
theorem qbR(F:List (Int×Int))(e:Int×Int):twoA (F++[e])=twoA F++[e,(e.2,e.1)]:=by
 unfold twoA;rw[xw,ZL]
theorem qf9{h l:Int}{bs:List (Int×Int)}{F:List Eg}(hb:bs.length <= 30)(A:FoA h l bs F):q0b [.int h,.int l,.lst (bs.map Yp)]=some (.fr ((twoA (F.map XL)).map Yp)):=by
 unfold q0b q1p;have hK:=q7G (h:=h) (l:=l) hb;have hS:=q4f (h:=h) (l:=l) hb;have hE:=qbY (h:=h) (l:=l) hb;rw[show (Ym (Pz h l bs)).map edD=((Ym (Pz h l bs)).map egO).map egD by rw[yR];rfl] at hE;have fo:=A.fo;have fl:=A.len;have fo':qW [.lst ((Y1 (plc h l bs)).map D.int),.lst ((bs++[(h,l)]++(Ym (Y1 (plc h l bs))).filter λq=>!(Yr h l bs q == 0)).map Yp),.lst (((Ym (Pz h l bs)).map egO).map egD)]=some (.fr (F.map egD)):=fo;simp_arith[hS,hK,hE,fo'];obtain⟨ω',e,x5,rfl⟩:=qF (g:=gN 5) (b:=q18) egD F
  (λpre ω=>∃ x5:Option W,ω=[some (.sh (.int h)),some (.sh (.int l)),some (.sh (.lst (bs.map Yp))),some (.ow ((twoA (pre.map XL)).map Yp)),some (.sh (.lst ((Y1 (plc h l bs)).map D.int))),x5])
  (λpre q post ω hd ⟨x5,hω⟩=>by
   subst hω;refine⟨_,rfl,?_⟩;have pl:pre.length <= F.length:=by rw[hd,zC];omega
   have tl:=q5l (pre.map XL);rw[zB] at tl;have l1:((twoA (pre.map XL)).map Yp).length < 1000000:=by rw[zB];omega
   have l2:((twoA (pre.map XL)).map Yp++[D.tup [.int q.1,.int q.2.1]]).length < 1000000:=by rw[zC,zB,zU];omega
   have ea:(twoA (pre.map XL)).map Yp++[D.tup [.int q.1,.int q.2.1]]++[D.tup [.int q.2.1,.int q.1]]=(twoA ((pre++[q]).map XL)).map Yp:=by
    rw[zY,zg,yc,qbR,zY,zK];rfl
   unfold q18;rw[show egD q=D.tup [.int q.1,.int q.2.1,.int q.2.2] from rfl];simp_arith[zAz l1,zAz l2,ea];exact⟨_,rfl⟩)
  (ω:=[some (.sh (.int h)),some (.sh (.int l)),some (.sh (.lst (bs.map Yp))),some (.ow []),some (.sh (.lst ((Y1 (plc h l bs)).map D.int))),none]) ⟨none,rfl⟩
 simp_arith[e]
theorem qem{as x:List (Int×Int)}{n:Nat}(h:n < as.length):Y6 (as++x) n=Y6 as n/\XX (as++x) n=XX as n:=by
 unfold Y6 XX;rw[zS,zS,zc h];exact⟨rfl,rfl⟩
theorem Wlk.low{as x:List (Int×Int)}:∀ {r:List Nat} {a b:Int},Wlk (as++x) a r b->(∀ n∈r,n < as.length)->Wlk as a r b
 | [],_,_,h,_=>by cases h;exact .nil _
 | n::r,a,b,h,hl=>by
  cases h with
  | cons e t =>
   have sa:=qem (x:=x) (hl n zG);rw[sa.1] at e;rw[sa.2] at t;exact .cons e (t.low λk hk=>hl k (zH _ hk))
theorem qex{row:List Nat}{j n:Nat}(h:(cst row)[j]?=some (n:Int)):row[j]?=some n:=by
 unfold cst at h;rw[za] at h;cases e:row[j]? with
 | none=>rw[e] at h;cases h
 | some m =>
  rw[e] at h;have:(m:Int)=n:=zw h;rw[show m=n by omega]
theorem qfY{as:List (Int×Int)}{h l:Int}(hl:as.length <= 2900)(hg:Rg (as++[(l,h)])):∃ q:List Nat,qO [.int h,.int l,.lst (as.map Yi)]=some (.fr ((cst q).map D.int))/\q.Perm (zf as.length)/\Wlk as h q l:=by
 have hs:∃ p∈as++[(l,h)],p.1=h:=by
  have m:h∈gls (as++[(l,h)]):=z8.mpr ⟨(l,h),by simp,rfl⟩;obtain⟨p,hp,e⟩:=z8.mp (hg.pm.mem_iff.mpr m);exact⟨p,hp,e⟩
 have hn:(as++[(l,h)]).length=as.length+1:=by rw[zC,zU]
 obtain⟨row,hr,hp,hw⟩:=qfk (s:=h) (by omega) hg hs;rw[hn] at hp;have mn:(as.length:Int)∈cst row:=z8.mpr ⟨as.length,hp.mem_iff.mpr (yk.mpr (yY _)),rfl⟩;obtain⟨j,j1,j2⟩:=q7d mn;have j3:=qex j2;obtain⟨jl,j4⟩:=zj.mp j3;have er:row=row.take j++as.length::row.drop (j+1):=by
  rw[<- j4,List.getElem_cons_drop,z0]
 have pm:(row.drop (j+1)++row.take j).Perm (zf as.length):=by
  have p1:(as.length::(row.drop (j+1)++row.take j)).Perm row:=by
   have:(row.take j++as.length::row.drop (j+1)).Perm (as.length::(row.drop (j+1)++row.take j)):=wx.trans (List.Perm.cons _ yb);rw[<- er] at this;exact this.symm
  have p2:(zf (as.length+1)).Perm (as.length::zf as.length):=by
   rw[YQ];exact yb
  exact((p1.trans hp).trans p2).cons_inv
 have lt:∀ n∈row.drop (j+1)++row.take j,n < as.length:=λn hn=>yk.mp (pm.mem_iff.mp hn);refine⟨row.drop (j+1)++row.take j,?_,pm,?_⟩
 ·unfold qO q1q
  have ad:X4 (.lst (as.map Yi)) (.lst [.tup [.int l,.int h]])=some (.fr ((as++[(l,h)]).map Yi)):=by
   rw[q1C (by rw[zB,zU];omega),zY];rfl
  have ix:idxD (.lst ((cst row).map D.int)) (.int (as.length:Int))=some (.sh (.int (j:Int))):=by
   show (intsOf ((cst row).map D.int)).bind _=_;rw[q0o,yM,j1];rfl
  have cl:(cst row).length=as.length+1:=by unfold cst;rw[zB,hp.length_eq,zo]
  have c1:=qcw (xs:=(cst row).map D.int) (k:=(j:Int)+1) (by omega);have c2:=qcz (xs:=(cst row).map D.int) (k:=(j:Int)) (by omega);have a2:X4 (.lst (((cst row).map D.int).drop ((j:Int)+1).toNat)) (.lst (((cst row).map D.int).take (j:Int).toNat))=some (.fr ((cst (row.drop (j+1)++row.take j)).map D.int)):=by
   rw[q1C (by rw[yE,zd,zB];omega),show ((j:Int)+1).toNat=j+1 by omega,show (j:Int).toNat=j by omega];unfold cst;rw[zY,zY,wt,wt,Zd,Zd]
  simp_arith[ad,hr,qfZ,ix,qdc,c1,c2,a2]
 ·rw[er] at hw
  obtain⟨b,w1,w2⟩:=hw.split;cases w2 with
  | cons e t =>
   have s1:Y6 (as++[(l,h)]) as.length=l/\XX (as++[(l,h)]) as.length=h:=by
    unfold Y6 XX;rw[zS,zW (zJ _),wH];exact⟨rfl,rfl⟩
   rw[s1.1] at e;rw[s1.2] at t;subst e;exact(t.app w1).low lt
noncomputable def mvN(B:Nat)(as:List (Int×Int))(n:Nat):D:=if n < B then .tup [.str "box", .int (n:Int),.int (Y6 as n),.int (XX as n)] else .tup [.str "go", .int (Y6 as n),.int (XX as n)]
theorem qdo{h l:Int}{bs:List (Int×Int)}{F:List Eg}(hb:bs.length <= 30)(A:FoA h l bs F):∃ q:List Nat,q3f [.int h,.int l,.lst (bs.map Yp)]=some (.fr (q.map (mvN bs.length (arA h l bs F))))/\q.Perm (zf (arA h l bs F).length)/\Wlk (arA h l bs F) h q l:=by
 have al:=qaX hb A;have st:=qg6 A;obtain⟨q,q1,q2,q3⟩:=qfY (as:=arA h l bs F) (h:=h) (l:=l) (by omega) ⟨qdD hb,λp hp r hr=>qfj A _ (st p hp) _ (st r hr)⟩;refine⟨q,?_,q2,q3⟩;unfold q3f q7U;have h1:=qfT (h:=h) (l:=l) hb;have h2:=qf9 hb A;have e1:X4 (.lst ((WE (Yr h l bs) (Ym (Pz h l bs))).map Yp)) (.lst ((twoA (F.map XL)).map Yp))=some (.fr ((emA h l bs F).map Yp)):=by
  rw[q1C,<- zY];rfl;unfold arA emA at al;rw[zC,zC] at al;rw[zB,zB];omega
 have e2:X4 (.lst (bs.map Yp)) (.lst ((emA h l bs F).map Yp))=some (.fr ((arA h l bs F).map Yp)):=by
  rw[q1C,<- zY];rfl;unfold arA at al;rw[zC] at al;rw[zB,zB];omega
 have q1':qO [.int h,.int l,.lst ((arA h l bs F).map Yp)]=some (.fr ((cst q).map D.int)):=q1;have hq:((cst q).map D.int).length <= 1000000:=by
  unfold cst;rw[zB,zB,q2.length_eq,zo];omega
 have cm:=q0K (i:=0) (f:=q5G) (λn:Nat=>D.int (n:Int)) (mvN bs.length (arA h l bs F)) q (ω:=[none,some (.sh (.lst (bs.map Yp))),some (.sh (.lst ((arA h l bs F).map Yp)))]) (λn hn=>by
  have hlt:n < (arA h l bs F).length:=yk.mp (q2.mem_iff.mp hn);have hi:atI ((arA h l bs F).map Yp) (n:Int)=some (.tup [.int (Y6 (arA h l bs F) n),.int (XX (arA h l bs F) n)]):=by
   rw[q0k (by omega) (by rw[zB];omega)];have:(((arA h l bs F).map Yp)[((n:Int)).toNat]'(by rw[zB];omega))=Yp (arA h l bs F)[n]:=by
    rw[xK];simp
   rw[this];unfold Yp Y6 XX;rw[zS,zD hlt];rfl
  unfold q5G q0O q1U mvN
  by_cases z:n < bs.length
  ·have z':decide ((n:Int) < (bs.length:Int))=true:=by simpa using z
   simp_arith[hi,z',z]
  ·have z':decide ((n:Int) < (bs.length:Int))=false:=by simpa using z
   simp_arith[hi,z',z])
 have cq:(cst q).map D.int=q.map λn:Nat=>D.int (n:Int):=by unfold cst;rw[yR];rfl
 rw[cq] at q1' hq;simp_arith[h1,h2,e1,e2,q1',Wy hq,inW,zAm,cm]
theorem qdh{h l:Int}{bs:List (Int×Int)}(hb:bs.length <= 30){g:Int×Int}(hg:g∈Ym (Pz h l bs)):∀ x∈Pz h l bs,x <= g.1\/g.2 <= x:=λx hx=>by
 have S:=stp h l hb;obtain⟨i,hi,rfl⟩:=q6M hg;exact Stp.amid (P:=Pz h l bs) S hi hx
theorem qcI{h l:Int}{bs:List (Int×Int)}(hb:bs.length <= 30){g g':Int×Int}(hg:g∈Ym (Pz h l bs))(hg':g'∈Ym (Pz h l bs)):over g'.1 g'.2 g=decide (g'=g)/\over g'.2 g'.1 g=false:=by
 have l1:=(q75 hb g hg).lt;have l2:=(q75 hb g' hg').lt;have a1:=qdh hb hg' _ (qN hg).1;have a2:=qdh hb hg' _ (qN hg).2;unfold over
 constructor
 ·by_cases z:g'=g
  ·subst z
   simp
  ·rw[decide_eq_false z]
   by_cases y1:g'.1 <= g.1
   ·by_cases y2:g.2 <= g'.2
    ·exact absurd (Prod.ext (by omega) (by omega)) z
    ·rw[decide_eq_false y2,ym]
   ·rw[decide_eq_false y1,xj]
 ·by_cases y1:g'.2 <= g.1
  ·rw[decide_eq_false (show ¬g.2 <= g'.1 by omega),ym]
  ·rw[decide_eq_false y1,xj]
theorem q5p{p:Int×Int->Bool}(a:Int×Int)(b:Bool)(h:p a=b):∀ n:Nat,(zh n a).countP p=if b then n else 0
 | 0=>by cases b <;> rfl
 | n+1=>by
  rw[yA,xM,q5p a b h n,h];cases b <;> simp
theorem q4L{p:Int×Int->Bool}{u v:Bool}{g:Int×Int}{c:Int×Int->Int}:∀ G:List (Int×Int),G.Nodup->(∀ g'∈G,p (g'.1,g'.2)=(u && decide (g'=g))/\p (g'.2,g'.1)=(v && decide (g'=g))) ->
  (WE c G).countP p=if g∈G then (if u then (c g).toNat else 0)+(if v then (-(c g)).toNat else 0) else 0
 | [],_,_=>rfl
 | g'::G,nd,h=>by
  have nd':=yS.mp nd;have ih:=q4L (c:=c) G nd'.2 λx hx=>h x (zH _ hx);obtain⟨h1,h2⟩:=h g' zG;show (repA (c g') g'++WE c G).countP p=_;unfold repA;rw[xl,xl,q5p _ _ h1,q5p _ _ h2,ih]
  by_cases z:g'=g
  ·subst z
   rw[if_neg nd'.1,if_pos zG,decide_eq_true rfl,y9,y9,Z6]
  ·rw[decide_eq_false z,ym,ym]
   by_cases y:g∈G
   ·rw[if_pos y,if_pos (zH _ y)];simp
   ·rw[if_neg y,if_neg (λm=>(zF.mp m).elim (λe=>z e.symm) y)];rfl
theorem q55{p:Int×Int->Bool}{u v:Bool}{g:Int×Int}(huv:(u && v)=false/\(u || v)=true):∀ G:List (Int×Int),G.Nodup->(∀ g'∈G,p (g'.1,g'.2)=(u && decide (g'=g))/\p (g'.2,g'.1)=(v && decide (g'=g)))->(twoA G).countP p=if g∈G then 1 else 0
 | [],_,_=>rfl
 | g'::G,nd,h=>by
  have nd':=yS.mp nd;have ih:=q55 huv G nd'.2 λx hx=>h x (zH _ hx);obtain⟨h1,h2⟩:=h g' zG;show ([(g'.1,g'.2),(g'.2,g'.1)]++twoA G).countP p=_;rw[xl,xM,xM,List.countP_nil,h1,h2,ih]
  by_cases z:g'=g
  ·subst z
   rw[if_neg nd'.1,if_pos zG,decide_eq_true rfl,y9,y9];cases u <;> cases v <;> simp at huv ⊢
  ·rw[decide_eq_false z,ym,ym]
   by_cases y:g∈G
   ·rw[if_pos y,if_pos (zH _ y)];simp
   ·rw[if_neg y,if_neg (λm=>(zF.mp m).elim (λe=>z e.symm) y)];rfl
theorem qaF{h l:Int}{bs:List (Int×Int)}{F:List Eg}(A:FoA h l bs F):(F.map XL).Nodup:=by
 have e:(F.map XL).map egO=F:=by
  rw[yR];have:∀ x∈F,(egO ∘ XL) x=x:=λx hx=>by obtain⟨g,_,rfl⟩:=A.fs x hx;rfl
  rw[ya this,List.map_id']
 have h:=A.nd;rw[<- e] at h;unfold YY at h ⊢;rw[wp] at h;exact h.imp λz y=>z (by rw[y])
theorem q3s{h l:Int}{bs:List (Int×Int)}{F:List Eg}(A:FoA h l bs F){g:Int×Int}(hg:g∈F.map XL):g∈Ym (Pz h l bs):=by
 obtain⟨e,he,rfl⟩:=z8.mp hg;obtain⟨g,hg',rfl⟩:=A.fs e he;exact hg'
noncomputable def arcN(as:List (Int×Int))(n:Nat):Int×Int:=(Y6 as n,XX as n)
theorem q8a(bs es:List (Int×Int)):((zf (bs++es).length).filter λn=>!decide (n < bs.length)).map (arcN (bs++es))=es:=by
 rw[zC,List.range_add,wX,ZT,zY];have e1:((zf bs.length).filter λn=>!decide (n < bs.length))=[]:=by
  rw[ZK];intro n hn;have:=yk.mp hn;simp;omega
 have e2:((zf es.length).filter ((λn=>!decide (n < bs.length)) ∘ λx=>bs.length+x))=zf es.length:=by
  rw[xv];intro n hn;simp
 rw[e1,e2,yc,yF,yR];have e3:∀ k∈zf es.length,(arcN (bs++es) ∘ λx=>bs.length+x) k=es.getD k (0,0):=λk hk=>by
  show ((bs++es).getD (bs.length+k) (0,0))=_;rw[zS,zW (by omega),zS]
  congr 2;omega
 rw[ya e3];exact q3H (0,0) es
theorem qec{g:Int×Int}{L:List (Int×Int)}:zA8 (Yp g) (L.map Yp)=decide (g∈L):=by
 unfold zA8;rw[List.any_map];have eqb:∀ x:Int×Int,((λy=>eqD y (Yp g)) ∘ Yp) x=decide (x=g):=λx=>by
  have:eqD (Yp x) (Yp g)=(x.1 == g.1 && (x.2 == g.2 && true)):=rfl;show eqD (Yp x) (Yp g)=_;rw[this,y9]
  by_cases z:x=g
  ·subst z;simp
  ·rw[decide_eq_false z]
   by_cases y:x.1=g.1
   ·have:¬x.2=g.2:=λw=>z (Prod.ext y w)
    simp[y,this]
   ·simp[y]
 by_cases hm:g∈L
 ·rw[decide_eq_true hm]
  exact YL.mpr ⟨g,hm,by rw[eqb];simp⟩
 ·rw[decide_eq_false hm,wg]
  intro x hx;rw[eqb];simp;rintro rfl;exact hm hx
theorem qew{a:Int}{L:List Int}:zA8 (.int a) (L.map D.int)=decide (a∈L):=by
 unfold zA8;rw[List.any_map];have eqb:∀ x:Int,((λy=>eqD y (.int a)) ∘ D.int) x=decide (x=a):=λx=>by
  show (x == a)=_
  by_cases z:x=a
  ·subst z;simp
  ·rw[decide_eq_false z];simpa using z
 by_cases hm:a∈L
 ·rw[decide_eq_true hm]
  exact YL.mpr ⟨a,hm,by rw[eqb];simp⟩
 ·rw[decide_eq_false hm,wg]
  intro x hx;rw[eqb];simp;rintro rfl;exact hm hx
theorem q8U{a:Int}{L:List Int}(h:a∈L):zBS true (.int a) (.lst (L.map D.int))=some (.sh (.bl false)):=by
 show (if (shp (.int a) && shp (.lst (L.map D.int)))=true then some (R.sh (D.bl (!zA8 (.int a) (L.map D.int)))) else none)=_;rw[q4c,qew,decide_eq_true h];rfl
theorem qfg{g:Int×Int}{L:List (Int×Int)}:zBS false (Yp g) (.lst (L.map Yp))=some (.sh (.bl (decide (g∈L)))):=by
 show (if (shp (Yp g) && shp (.lst (L.map Yp)))=true then some (R.sh (D.bl (zA8 (Yp g) (L.map Yp)))) else none)=_;rw[show shp (.lst (L.map Yp))=true from qdF L,qec];rfl
theorem qdg:shp (.str "go")=true:=by decide +kernel
theorem qge:shp (.str "box")=true:=by decide +kernel
theorem qgi:oEq false (.str "go") (.str "go")=some (.sh (.bl true)):=qc8 qdg
theorem qeO:oEq false (.str "box") (.str "go")=some (.sh (.bl false)):=by
 unfold oEq;rw[qdg,qge,show eqD (.str "box") (.str "go")=false by decide +kernel];rfl
theorem qeJ{f:FD}{T:Int×Int->D}:∀ (L:List (Int×Int)) {ω:WSt},(∃ a b,ω=[a,b])->(∀ q∈L,f [some (.sh (.int q.1)),some (.sh (.int q.2))]=some (T q))->Xf (gT 2 (Y0 (gN 0) (Y0 (gN 1) Xn))) Xk f (L.map Yp) ω=some (L.map T):=λL ω h0 hf=>by
 have:=q2I (g:=gT 2 (Y0 (gN 0) (Y0 (gN 1) Xn))) (c:=Xk) (f:=f) (λw=>∃ a b,w=[a,b]) (λ_=>true) Yp T L (ω:=ω) h0 (λq hq w ⟨a,b,hw⟩=>by
  subst hw;exact⟨_,rfl,⟨_,_,rfl⟩,rfl,λ_=>hf q hq⟩)
 rw[xv.mpr (λ_ _=>rfl)] at this;exact this
theorem q6r{B:Nat}{as:List (Int×Int)}{n:Nat}(h:¬n < B):mvN B as n=.tup [.str "go", .int (Y6 as n),.int (XX as n)]:=if_neg h
theorem qfQ{B:Nat}{as:List (Int×Int)}{n:Nat}(h:n < B):mvN B as n=.tup [.str "box", .int (n:Int),.int (Y6 as n),.int (XX as n)]:=if_pos h
theorem qbZ(ns:List Int)(hl:ns.length <= 63):q3C [.scr ns]=some (.sh (.bl true)):=by
 obtain⟨h,l,bs,he,hb14⟩:=errand (ns:=ns) (most:=14) (by decide) (by decide);have hb:bs.length <= 30:=by omega
 obtain⟨F,A⟩:=qgk (h:=h) (l:=l) hb;obtain⟨q,q1,q2,q3⟩:=qdo hb A;have hS:=q4f (h:=h) (l:=l) hb;have hg:=q2g (h:=h) (l:=l) hb;have hK:=q7G (h:=h) (l:=l) hb;have hk:=q3K (h:=h) (l:=l) hb;have fo:qW [.lst ((Y1 (plc h l bs)).map D.int),.lst ((bs++[(h,l)]++(Ym (Y1 (plc h l bs))).filter λq=>!(Yr h l bs q == 0)).map Yp),.lst ((Ym (Y1 (plc h l bs))).map edD)]=some (.fr (F.map egD)):=by
  have:=A.fo;rw[show ((Ym (Pz h l bs)).map egO).map egD=(Ym (Pz h l bs)).map edD by rw[yR];rfl] at this;exact this
 have hgl:=q7c (h:=h) (l:=l) hb;have hl1:((Ym (Pz h l bs)).map Yp).length <= 1000000:=by rw[zB];omega
 have cE:=qeJ (f:=q6L) (T:=edD) (Ym (Pz h l bs)) (ω:=[none,none]) ⟨_,_,rfl⟩ (λg _=>by unfold q6L edD;simp_arith -implicitDefEqProofs [qI]);have hl2:(F.map egD).length <= 1000000:=by rw[zB];have:=A.len;omega
 have cM:=q0K (i:=0) (f:=q6z) egD (λe=>Yp (XL e)) F (ω:=[none]) (λe _=>by
  rw[show egD e=D.tup [.int e.1,.int e.2.1,.int e.2.2] from rfl];unfold q6z;simp_arith -implicitDefEqProofs [qI];rfl)
 have eM:(F.map λe=>Yp (XL e))=(F.map XL).map Yp:=by rw[yR];rfl
 rw[eM] at cM;have hql:q.length <= 2500:=by rw[q2.length_eq,zo];exact qaX hb A
 have hl3:(q.map (mvN bs.length (arA h l bs F))).length <= 1000000:=by rw[zB];omega
 have cT:=q1u (i:=0) (c:=q7T) (f:=q6G) (λn=>!decide (n < bs.length)) (mvN bs.length (arA h l bs F)) (mvN bs.length (arA h l bs F)) q (ω:=[none]) (λn _=>by
  unfold q7T q6G
  by_cases z:n < bs.length
  ·rw[qfQ z,decide_eq_true z]
   simp_arith -implicitDefEqProofs [qeO];exact⟨trivial,λy=>by cases y⟩
  ·rw[q6r z,decide_eq_false z]
   simp_arith -implicitDefEqProofs [qgi];exact⟨trivial,λ_=>trivial⟩)
 have pm:((q.filter λn=>!decide (n < bs.length)).map (arcN (arA h l bs F))).Perm (emA h l bs F):=by
  have:=q8a bs (emA h l bs F);rw[<- this];exact(q2.filter _).map _
 have eG:∀ n∈(q.filter λn=>!decide (n < bs.length)),¬n < bs.length:=λn hn=>by
  have:=(yv.mp hn).2;simpa using this
 have qfl:=yj (λn=>!decide (n < bs.length)) q;generalize (q.filter λn=>!decide (n < bs.length))=E at cT pm eG qfl;unfold q3C q9t;rw[show Y1 (plc h l bs)=Pz h l bs from rfl] at hS hg hK hk fo;have hl4:(E.map (mvN bs.length (arA h l bs F))).length <= 1000000:=by rw[zB];omega
 simp_arith -implicitDefEqProofs [he,hS,hg,Wy hl1,inW,zAm,cE,hK,fo,Wy hl2,cM,q1,Wy hl3,cT,hk];obtain⟨ω1,e1,x10,rfl⟩:=qF (g:=gN 10) (b:=q7j) (mvN bs.length (arA h l bs F)) E
  (λpre ω=>∃ x10:Option W,ω=[some (.sh (.scr ns)),some (.sh (.int h)),some (.sh (.int l)),some (.sh (.lst (bs.map Yp))),some (.sh (.lst ((Pz h l bs).map D.int))),some (.sh (.lst ((Ym (Pz h l bs)).map Yp))),some (.sh (.lst ((Ym (Pz h l bs)).map edD))),some (.sh (.lst ((F.map XL).map Yp))),some (.sh (.lst (E.map (mvN bs.length (arA h l bs F))))),some (.sh (.lst (((Ym (Pz h l bs)).map (Yr h l bs)).map D.int))),x10,none,none,none,none,none,none])
  (λpre n post ω hd ⟨x10,hω⟩=>by
   subst hω;refine⟨_,rfl,?_⟩;have hn:n∈E:=by rw[hd];simp
   have m:arcN (arA h l bs F) n∈emA h l bs F:=pm.mem_iff.mp (z8.mpr ⟨n,hn,rfl⟩);obtain⟨g,hg2,hor⟩:=qde A m;have en:Y6 (arA h l bs F) n∈Pz h l bs/\XX (arA h l bs F) n∈Pz h l bs:=by
    rcases hor with z|z
    ·have a1:Y6 (arA h l bs F) n=g.1:=congrArg Prod.fst z
     have a2:XX (arA h l bs F) n=g.2:=congrArg Prod.snd z;rw[a1,a2];exact qN hg2
    ·have a1:Y6 (arA h l bs F) n=g.2:=congrArg Prod.fst z
     have a2:XX (arA h l bs F) n=g.1:=congrArg Prod.snd z;rw[a1,a2];exact(qN hg2).symm
   have i1:=q8U en.1;have i2:=q8U en.2;unfold q7j;simp only[wC,wD];rw[q6r (eG n hn)];simp_arith -implicitDefEqProofs [i1,i2];exact⟨_,rfl⟩)
  (ω:=[some (.sh (.scr ns)),some (.sh (.int h)),some (.sh (.int l)),some (.sh (.lst (bs.map Yp))),some (.sh (.lst ((Pz h l bs).map D.int))),some (.sh (.lst ((Ym (Pz h l bs)).map Yp))),some (.sh (.lst ((Ym (Pz h l bs)).map edD))),some (.sh (.lst ((F.map XL).map Yp))),some (.sh (.lst (E.map (mvN bs.length (arA h l bs F))))),some (.sh (.lst (((Ym (Pz h l bs)).map (Yr h l bs)).map D.int))),none,none,none,none,none,none,none]) ⟨none,rfl⟩
 have hr:rg1I (some [.int ((Ym (Pz h l bs)).length:Int)])=some (upTo 0 (Ym (Pz h l bs)).length):=by
  rw[qdk ⟨by omega,by omega⟩,yh]
 simp_arith -implicitDefEqProofs [e1,hr];obtain⟨ω2,e2,x11,x12,x13,x14,x15,x16,rfl⟩:=qby (g:=gN 11) (b:=q6w) 0 (Ym (Pz h l bs)).length
  (λi ω=>∃ x11 x12 x13 x14 x15 x16:Option W,ω=[some (.sh (.scr ns)),some (.sh (.int h)),some (.sh (.int l)),some (.sh (.lst (bs.map Yp))),some (.sh (.lst ((Pz h l bs).map D.int))),some (.sh (.lst ((Ym (Pz h l bs)).map Yp))),some (.sh (.lst ((Ym (Pz h l bs)).map edD))),some (.sh (.lst ((F.map XL).map Yp))),some (.sh (.lst (E.map (mvN bs.length (arA h l bs F))))),some (.sh (.lst (((Ym (Pz h l bs)).map (Yr h l bs)).map D.int))),x10,x11,x12,x13,x14,x15,x16])
  (λi ω hi ⟨x11,x12,x13,x14,x15,x16,hω⟩=>by
   subst hω;refine⟨_,rfl,?_⟩;have hgi:(Ym (Pz h l bs))[i]∈Ym (Pz h l bs):=yU hi;have atA:atI ((Ym (Pz h l bs)).map Yp) (0+(i:Int))=some (.tup [.int (Ym (Pz h l bs))[i].1,.int (Ym (Pz h l bs))[i].2]):=by
    rw[YC,q0k (by omega) (by rw[zB];omega)];have:(((Ym (Pz h l bs)).map Yp)[((i:Int)).toNat]'(by rw[zB];omega))=Yp (Ym (Pz h l bs))[i]:=by
     rw[xK];simp
    rw[this];rfl
   have atB:atI (((Ym (Pz h l bs)).map (Yr h l bs)).map D.int) (0+(i:Int))=some (.int (Yr h l bs (Ym (Pz h l bs))[i])):=by
    rw[YC,q0k (by omega) (by rw[zB,zB];omega)];have:((((Ym (Pz h l bs)).map (Yr h l bs)).map D.int)[((i:Int)).toNat]'(by rw[zB,zB];omega))=.int (Yr h l bs (Ym (Pz h l bs))[i]):=by
     rw[xK,xK];simp
    rw[this]
   generalize (Ym (Pz h l bs))[i]=g at hgi atA atB;have inb:zBS false (.tup [.int g.1,.int g.2]) (.lst ((F.map XL).map Yp))=some (.sh (.bl (decide (g∈F.map XL)))):=qfg (g:=g);have c1:=q1u (i:=0) (c:=q7k) (f:=q78) (λn=>over (Y6 (arA h l bs F) n) (XX (arA h l bs F) n) g) (mvN bs.length (arA h l bs F)) (mvN bs.length (arA h l bs F)) E (ω:=[none,some (.sh (.int g.1)),some (.sh (.int g.2))]) (λn hn=>by
    unfold q7k q78 over;rw[q6r (eG n hn)];simp_arith -implicitDefEqProofs [qI];exact⟨trivial,λ_=>trivial⟩)
   have c2:=q1u (i:=0) (c:=q7x) (f:=q7f) (λn=>over (XX (arA h l bs F) n) (Y6 (arA h l bs F) n) g) (mvN bs.length (arA h l bs F)) (mvN bs.length (arA h l bs F)) E (ω:=[none,some (.sh (.int g.1)),some (.sh (.int g.2))]) (λn hn=>by
    unfold q7x q7f over;rw[q6r (eG n hn)];simp_arith -implicitDefEqProofs [qI];exact⟨trivial,λ_=>trivial⟩)
   have gn:=q2t (q53 h l bs);have tn:=qaF A;have ov:∀ g'∈Ym (Pz h l bs),over g'.1 g'.2 g=decide (g'=g)/\over g'.2 g'.1 g=false:=λg' hg'=>qcI hb hgi hg';have cr:(E.filter λn=>over (Y6 (arA h l bs F) n) (XX (arA h l bs F) n) g).length=(Yr h l bs g).toNat+if g∈F.map XL then 1 else 0:=by
    have p1:=pm.countP_eq (λa:Int×Int=>over a.1 a.2 g);rw[wA] at p1;have p2:=q4L (p:=λa:Int×Int=>over a.1 a.2 g) (u:=true) (v:=false) (g:=g) (c:=Yr h l bs) (Ym (Pz h l bs)) gn λg' hg'=>⟨by rw[(ov g' hg').1];rfl,by rw[(ov g' hg').2];rfl⟩;have p3:=q55 (p:=λa:Int×Int=>over a.1 a.2 g) (u:=true) (v:=false) (g:=g) ⟨rfl,rfl⟩ (F.map XL) tn λg' hg'=>⟨by rw[(ov g' (q3s A hg')).1];rfl,by rw[(ov g' (q3s A hg')).2];rfl⟩;unfold emA at p1;rw[xl,p2,p3,if_pos hgi] at p1;rw[<- wT];exact p1.trans (by simp)
   have cl:(E.filter λn=>over (XX (arA h l bs F) n) (Y6 (arA h l bs F) n) g).length=(-(Yr h l bs g)).toNat+if g∈F.map XL then 1 else 0:=by
    have p1:=pm.countP_eq (λa:Int×Int=>over a.2 a.1 g);rw[wA] at p1;have p2:=q4L (p:=λa:Int×Int=>over a.2 a.1 g) (u:=false) (v:=true) (g:=g) (c:=Yr h l bs) (Ym (Pz h l bs)) gn λg' hg'=>⟨by show over g'.2 g'.1 g=_;rw[(ov g' hg').2];rfl,by show over g'.1 g'.2 g=_;rw[(ov g' hg').1];rfl⟩;have p3:=q55 (p:=λa:Int×Int=>over a.2 a.1 g) (u:=false) (v:=true) (g:=g) ⟨rfl,rfl⟩ (F.map XL) tn λg' hg'=>⟨by show over g'.2 g'.1 g=_;rw[(ov g' (q3s A hg')).2];rfl,by show over g'.1 g'.2 g=_;rw[(ov g' (q3s A hg')).1];rfl⟩;unfold emA at p1;rw[xl,p2,p3,if_pos hgi] at p1;rw[<- wT];exact p1.trans (by simp)
   generalize (E.filter λn=>over (Y6 (arA h l bs F) n) (XX (arA h l bs F) n) g)=R1 at c1 cr;generalize (E.filter λn=>over (XX (arA h l bs F) n) (Y6 (arA h l bs F) n) g)=R2 at c2 cl;generalize Yr h l bs g=c at atB cr cl;have bi:∀ b:Bool,bInt [.bl b]=some (.sh (.int (if b then 1 else 0))):=λ_=>rfl;have bm:∀ i j:Int,zBb [.int i,.int j]=some (.sh (.int (if j > i then j else i))):=λ_ _=>rfl;have d1:(((R1.length:Nat):Int) == (if (0:Int) > c then 0 else c)+(if decide (g∈F.map XL)=true then 1 else 0))=true:=by
    by_cases z:g∈F.map XL
    ·rw[if_pos z] at cr
     rw[show (if decide (g∈F.map XL)=true then (1:Int) else 0)=1 from if_pos (decide_eq_true z),beq_iff_eq];split <;> omega
    ·rw[if_neg z] at cr
     rw[show (if decide (g∈F.map XL)=true then (1:Int) else 0)=0 from if_neg (by rw[decide_eq_false z];decide),beq_iff_eq];split <;> omega
   have d2:(((R2.length:Nat):Int) == (if (0:Int) > 0 - c then 0 else 0 - c)+(if decide (g∈F.map XL)=true then 1 else 0))=true:=by
    by_cases z:g∈F.map XL
    ·rw[if_pos z] at cl
     rw[show (if decide (g∈F.map XL)=true then (1:Int) else 0)=1 from if_pos (decide_eq_true z),beq_iff_eq];split <;> omega
    ·rw[if_neg z] at cl
     rw[show (if decide (g∈F.map XL)=true then (1:Int) else 0)=0 from if_neg (by rw[decide_eq_false z];decide),beq_iff_eq];split <;> omega
   unfold q6w;simp_arith -implicitDefEqProofs [atA,Wy hl4,inW,zAm,c1,c2,inb,bi,atB,bm,d1,d2];exact⟨_,_,_,_,_,_,rfl⟩)
  (ω:=[some (.sh (.scr ns)),some (.sh (.int h)),some (.sh (.int l)),some (.sh (.lst (bs.map Yp))),some (.sh (.lst ((Pz h l bs).map D.int))),some (.sh (.lst ((Ym (Pz h l bs)).map Yp))),some (.sh (.lst ((Ym (Pz h l bs)).map edD))),some (.sh (.lst ((F.map XL).map Yp))),some (.sh (.lst (E.map (mvN bs.length (arA h l bs F))))),some (.sh (.lst (((Ym (Pz h l bs)).map (Yr h l bs)).map D.int))),x10,none,none,none,none,none,none]) ⟨_,_,_,_,_,_,rfl⟩
 simp_arith -implicitDefEqProofs [e2]
theorem qfb{l:ZO}{w:World}{K:zA}{h:Heap}{mg:Str->Option Value}{fa:Addr}(X:K.In h)(G:h.Ns mainGlobals mg)(hfa:mg "law" = some (.ref fa))
  {f0:Addr}
  {f1:Addr}
  {f2:Addr}
  {f3:Addr}
  {f4:Addr}
  {f5:Addr}
  {f6:Addr}
  {f7:Addr}
  {f8:Addr}
  {f9:Addr}
  {f10:Addr}
  {f11:Addr}
  {f12:Addr}
  {f13:Addr}
  {f14:Addr}
  {f15:Addr}
  {f16:Addr}
  {f17:Addr}
  {f18:Addr}
  {f19:Addr}
  {f20:Addr}
  {f21:Addr}
  {f22:Addr}
  {f23:Addr}
  {f24:Addr}
  {f25:Addr}
  {f26:Addr}
  {f27:Addr}
  {f28:Addr}
  {f29:Addr}
  {f30:Addr}
  {f31:Addr}
  (D0:Fd K "is_whole" q2p f0)
  (D1:Fd K "is_box" q3Q f1)
  (D2:Fd K "is_errand" q29 f2)
  (D3:Fd K "check_errand" q0X f3)
  (D4:Fd K "stops" q5m f4)
  (D5:Fd K "gaps" q7F f5)
  (D6:Fd K "gap_edges" q24 f6)
  (D7:Fd K "leads_over" q1F f7)
  (D8:Fd K "crossed" q33 f8)
  (D9:Fd K "lack" q7q f9)
  (D10:Fd K "lacks" q5a f10)
  (D11:Fd K "neighbours" q1Q f11)
  (D12:Fd K "group_of" q2r f12)
  (D13:Fd K "groups" q49 f13)
  (D14:Fd K "knots" q4Z f14)
  (D15:Fd K "cost" q7a f15)
  (D16:Fd K "group_numbers" q0M f16)
  (D17:Fd K "with_two_joined" q0u f17)
  (D18:Fd K "forest" q4g f18)
  (D19:Fd K "numbers_by_start" qS f19)
  (D20:Fd K "as_many_begin_as_end" qV f20)
  (D21:Fd K "round_from" q0h f21)
  (D22:Fd K "row_of" q47 f22)
  (D23:Fd K "row_between" q1t f23)
  (D24:Fd K "lacking_arcs" q0V f24)
  (D25:Fd K "forest_arcs" q1n f25)
  (D26:Fd K "move_along" q1M f26)
  (D27:Fd K "tour" q6Q f27)
  (D28:Fd K "_law_cell_at" q1a f28)
  (D29:Fd K "_law_place" q1J f29)
  (D30:Fd K "_law_errand" q1s f30)
  (D31:Fd K "law" q3o f31)
  (z_isinstance:yO K mainGlobals "isinstance" = some none)
  (z_bool:yO K mainGlobals "bool" = some none)
  (z_int:yO K mainGlobals "int" = some none)
  (z_len:yO K mainGlobals "len" = some none)
  (z_tuple:yO K mainGlobals "tuple" = some none)
  (z_list:yO K mainGlobals "list" = some none)
  (z_all:yO K mainGlobals "all" = some none)
  (z_sorted:yO K mainGlobals "sorted" = some none)
  (z_set:yO K mainGlobals "set" = some none)
  (z_zip:yO K mainGlobals "zip" = some none)
  (z_enumerate:yO K mainGlobals "enumerate" = some none)
  (z_reversed:yO K mainGlobals "reversed" = some none)
  (z_abs:yO K mainGlobals "abs" = some none)
  (z_range:yO K mainGlobals "range" = some none)
  (z_max:yO K mainGlobals "max" = some none)
  (i_int:IsT K .int)
  (i_bool:IsT K .bl)
  (i_tuple:IsT K .tup)
  (i_list:IsT K .lst)
  : ∃ fd:FuncData,(∀ (s:Shared) (v:Value),BindsTo s fd ⟨[v],[]⟩ [("script", v)])/\∀ base:Heap,K.In base->base.Ns mainGlobals mg->FnOk l.prog w K mg base CX0 11 fa fd ["script"] (spD K 1 q3C):=by
 have e:=hfa.symm.trans (wq X G D31.1);cases e;obtain⟨d0,F0⟩:=D0.2;obtain⟨d1,F1⟩:=D1.2;obtain⟨d2,F2⟩:=D2.2;obtain⟨d3,F3⟩:=D3.2;obtain⟨d4,F4⟩:=D4.2;obtain⟨d5,F5⟩:=D5.2;obtain⟨d6,F6⟩:=D6.2;obtain⟨d7,F7⟩:=D7.2;obtain⟨d8,F8⟩:=D8.2;obtain⟨d9,F9⟩:=D9.2;obtain⟨d10,F10⟩:=D10.2;obtain⟨d11,F11⟩:=D11.2;obtain⟨d12,F12⟩:=D12.2;obtain⟨d13,F13⟩:=D13.2;obtain⟨d14,F14⟩:=D14.2;obtain⟨d15,F15⟩:=D15.2;obtain⟨d16,F16⟩:=D16.2;obtain⟨d17,F17⟩:=D17.2;obtain⟨d18,F18⟩:=D18.2;obtain⟨d19,F19⟩:=D19.2;obtain⟨d20,F20⟩:=D20.2;obtain⟨d21,F21⟩:=D21.2;obtain⟨d22,F22⟩:=D22.2;obtain⟨d23,F23⟩:=D23.2;obtain⟨d24,F24⟩:=D24.2;obtain⟨d25,F25⟩:=D25.2;obtain⟨d26,F26⟩:=D26.2;obtain⟨d27,F27⟩:=D27.2;obtain⟨d28,F28⟩:=D28.2;obtain⟨d29,F29⟩:=D29.2;obtain⟨d30,F30⟩:=D30.2;obtain⟨_,F31⟩:=D31.2;obtain⟨_,_,kV,dc,pm,an,cd,ct,_,rfl,_,_⟩:=F31.ex;have y_isinstance:=z9 X G z_isinstance;have y_bool:=z9 X G z_bool;have y_int:=z9 X G z_int;have y_len:=z9 X G z_len;have y_tuple:=z9 X G z_tuple;have y_list:=z9 X G z_list;have y_all:=z9 X G z_all;have y_sorted:=z9 X G z_sorted;have y_set:=z9 X G z_set;have y_zip:=z9 X G z_zip;have y_enumerate:=z9 X G z_enumerate;have y_reversed:=z9 X G z_reversed;have y_abs:=z9 X G z_abs;have y_range:=z9 X G z_range;have y_max:=z9 X G z_max;refine⟨xY "law" "law" (Xm q3o) (Xb q3o) (Yj q3o) .none kV dc pm an cd ct,λs v=>.of_eq rfl,λbase _ _=>?_⟩;have C0:=ql l.prog w base X G D0 F0 (q8c F0 y_isinstance y_bool y_int i_int i_bool) λ_ _ _ _ _ _ us hl=>match us,hl with|[_],_=>rfl
 have C1:=ql l.prog w base X G D1 F1 (qbp F1 C0 y_len y_isinstance y_tuple i_tuple) λ_ _ _ _ _ _ us hl=>match us,hl with|[_],_=>rfl
 have C2:=ql l.prog w base X G D2 F2 (q6B F2 C0 C1 y_isinstance y_list y_all i_list) λ_ _ _ _ _ _ us hl=>match us,hl with|[_,_,_],_=>rfl
 have C3:=ql l.prog w base X G D3 F3 (q4v F3 C2) λ_ _ _ _ _ _ us hl=>match us,hl with|[_,_,_],_=>rfl
 have C4:=ql l.prog w base X G D4 F4 (qcP F4 C3 y_sorted y_set) λ_ _ _ _ _ _ us hl=>match us,hl with|[_,_,_],_=>rfl
 have C5:=ql l.prog w base X G D5 F5 (qe8 F5 C4 y_list y_zip) λ_ _ _ _ _ _ us hl=>match us,hl with|[_,_,_],_=>rfl
 have C6:=ql l.prog w base X G D6 F6 (q84 F6 C5) λ_ _ _ _ _ _ us hl=>match us,hl with|[_,_,_],_=>rfl
 have C7:=ql l.prog w base X G D7 F7 (q6o F7) λ_ _ _ _ _ _ us hl=>match us,hl with|[_,_,_],_=>rfl
 have C8:=ql l.prog w base X G D8 F8 (q9Z F8 C7 y_len) λ_ _ _ _ _ _ us hl=>match us,hl with|[_,_],_=>rfl
 have C9:=ql l.prog w base X G D9 F9 (qeE F9 C8) λ_ _ _ _ _ _ us hl=>match us,hl with|[_,_,_,_],_=>rfl
 have C10:=ql l.prog w base X G D10 F10 (qd4 F10 C5 C9) λ_ _ _ _ _ _ us hl=>match us,hl with|[_,_,_],_=>rfl
 have C11:=ql l.prog w base X G D11 F11 (q6j F11) λ_ _ _ _ _ _ us hl=>match us,hl with|[_,_],_=>rfl
 have C12:=ql l.prog w base X G D12 F12 (q8b F12 y_sorted) λ_ _ _ _ _ _ us hl=>match us,hl with|[_,_],_=>rfl
 have C13:=ql l.prog w base X G D13 F13 (qb6 F13 C11 C12 y_sorted) λ_ _ _ _ _ _ us hl=>match us,hl with|[_,_],_=>rfl
 have C14:=ql l.prog w base X G D14 F14 (qcR F14 C10 C5 y_zip y_list) λ_ _ _ _ _ _ us hl=>match us,hl with|[_,_,_],_=>rfl
 have C15:=ql l.prog w base X G D15 F15 (qe0 F15) λ_ _ _ _ _ _ us hl=>match us,hl with|[_],_=>rfl
 have C16:=ql l.prog w base X G D16 F16 (q3N F16 y_enumerate) λ_ _ _ _ _ _ us hl=>match us,hl with|[_],_=>rfl
 have C17:=ql l.prog w base X G D17 F17 (q38 F17) λ_ _ _ _ _ _ us hl=>match us,hl with|[_,_,_],_=>rfl
 have C18:=ql l.prog w base X G D18 F18 (qaJ F18 C16 C13 C15 C17 y_sorted) λ_ _ _ _ _ _ us hl=>match us,hl with|[_,_,_],_=>rfl
 have C19:=q2O (P:=l.prog) (w:=w) (mg:=mg) (base:=base) F19 y_enumerate;have C20:=ql l.prog w base X G D20 F20 (q1W F20 y_sorted) λ_ _ _ _ _ _ us hl=>match us,hl with|[_],_=>rfl
 have C21:=ql l.prog w base X G D21 F21 (q6q F21 C19 (wq X G D19.1) F19.kp (F19.binds (ps:=["arcs"]) λ_ _ _ _ _ _ us hl=>match us,hl with|[_],_=>rfl) y_list y_reversed) λ_ _ _ _ _ _ us hl=>match us,hl with|[_,_],_=>rfl
 have C22:=ql l.prog w base X G D22 F22 (qbx F22 C20 C21 y_len) λ_ _ _ _ _ _ us hl=>match us,hl with|[_,_],_=>rfl
 have C23:=ql l.prog w base X G D23 F23 (q59 F23 C22 y_len) λ_ _ _ _ _ _ us hl=>match us,hl with|[_,_,_],_=>rfl
 have C24:=ql l.prog w base X G D24 F24 (q4w F24 C10 C5 y_zip y_abs) λ_ _ _ _ _ _ us hl=>match us,hl with|[_,_,_],_=>rfl
 have C25:=ql l.prog w base X G D25 F25 (q4W F25 C4 C18 C6 C14) λ_ _ _ _ _ _ us hl=>match us,hl with|[_,_,_],_=>rfl
 have C26:=ql l.prog w base X G D26 F26 (q6m F26 y_len) λ_ _ _ _ _ _ us hl=>match us,hl with|[_,_,_],_=>rfl
 have C27:=ql l.prog w base X G D27 F27 (qdz F27 C24 C25 C23 C26) λ_ _ _ _ _ _ us hl=>match us,hl with|[_,_,_],_=>rfl
 have C28:=ql l.prog w base X G D28 F28 (q4D F28 y_len) λ_ _ _ _ _ _ us hl=>match us,hl with|[_,_],_=>rfl
 have C29:=ql l.prog w base X G D29 F29 (q6k F29) λ_ _ _ _ _ _ us hl=>match us,hl with|[_],_=>rfl
 have C30:=ql l.prog w base X G D30 F30 (q5H F30 C28 C29 y_range y_len) λ_ _ _ _ _ _ us hl=>match us,hl with|[_,_],_=>rfl
 exact qf3 F31 C30 C4 C5 C18 C14 C27 C10 y_len y_range y_int y_max
theorem walk{l:ZO}{q:Program}{loose:List Str}{XP:(Str->Option Value)->Heap->Prop}{YP:World->Heap->Prop}{d:DefRec}{K:Params->zA}(hn:l.most=some 63)(hdf:d.params.defaults=[])
  (hY:∀ (w:World) (h:Heap),YP w h->(K w.params).In h)
  (F:∀ (w:World) (mg:Str->Option Value) (fa:Addr) (h:Heap),(K w.params).In h->h.Ns mainGlobals mg->mg d.name=some (.ref fa) ->
   ∃ fd:FuncData,(∀ (s:Shared) (u:Value),BindsTo s fd ⟨[u],[]⟩ [("script", u)])/\∀ base:Heap,(K w.params).In base->base.Ns mainGlobals mg->FnOk l.prog w (K w.params) mg base CX0 11 fa fd ["script"] (spD (K w.params) 1 q3C)) :
  YZ q loose XP YP l.row.toRowW d [] (λf vs=>PySem.call f vs) :=
 L2.q9b (n:=63) (k:=11) (x := "script") (CX:=λ_=>CX0) (sp:=λw=>spD (K w.params) 1 q3C) hn (by decide) hdf ⟨rfl,by decide,by decide⟩ hY F
  (λ_ H a ns hl _ hS=>⟨H,[.scr ns],.sh (.bl true),qbZ ns hl,rfl,Yz.refl _,⟨.ref a,[],rfl,⟨a,rfl,hS⟩,rfl⟩,λ_ _ _ _ y=>y⟩) λ_ _ _ _ _ z=>z
end Kx
namespace PySem.W.Fast
def tw6832176810502173652:=0
def tw16866868887386298098:=0
def tw13345461019729833056:=0
def tw9349664178685262737:=0
def tw2838940408173485471:=0
def tw5983959264137541198:=0
def tw15982595772606955232:=0
def tw3244323355385502050:=0
def tw7181470069058004159:=0
def tw5510945805126707775:=0
def tw6548616328949101114:=0
def tw7437366542627735756:=0
def tw3812943180574715394:=0
def tw14378449958187451086:=0
def tw14595716259466601619:=0
def tw16463165257241852516:=0
def tw15955007478571495408:=0
def tw4530730711254845630:=0
def tw15177466439226207083:=0
def tw12422176560911829046:=0
def tw6887847271649943984:=0
def tw7965798763786085551:=0
def tw4106734094572744376:=0
def tw3590419866063449178:=0
def tw6339120143015605857:=0
def tw231248343639123102:=0
def tw18424550784942142743:=0
def tw2228593668499448509:=0
def tw3486410593687942127:=0
def tw6446468304883979765:=0
def tw10393810519652132545:=0
def tw14957054099203017889:=0
def tw6542455871405660674:=0
def tw106911066897644622:=0
def tw17010837135801253073:=0
def tw3026598006953641937:=0
def tw11779420932204949659:=0
def tw7777115239973964456:=0
def tw3547934910947140801:=0
def tw13948783374313234846:=0
def tw2222584799557280521:=0
def tw12497263908975355923:=0
def tw6119924587807839139:=0
def tw11755675924309317013:=0
def tw1992187953877191949:=0
def tw12540045943393436632:=0
def tw15557538119101417479:=0
def tw7798453459701621797:=0
def tw16337809895214507364:=0
def tw14256474937989477527:=0
def tw15970156000801367509:=0
def tw11051566359116536719:=0
def tw124351159371959063:=0
def tw5105110526571564197:=0
def tw10017627475503984922:=0
def tw2919146042547392192:=0
def tw7928807191742304162:=0
def tw7382962845289741167:=0
def tw9469797020759362892:=0
def tw1055276968933828072:=0
def tw5025837663801044369:=0
def tw7788417278266599402:=0
def tw3727909869685970549:=0
def tw12384350129969400318:=0
def tw4537622435093893327:=0
def tw9858841077968224261:=0
def tw153453810097697027:=0
def tw7621596588823451671:=0
def tw8175426700294269961:=0
def tw14895767122519400992:=0
def tw17828476997021020273:=0
def tw6230682021254205535:=0
def tw3073841025522846294:=0
def tw6432696221816762761:=0
def tw8842342764149313851:=0
def tw10384839946778933726:=0
def tw10921377466969682834:=0
def tw17493549893899410007:=0
def tw1753499450259558838:=0
def tw4320708737449184166:=0
def tw8738636689608439312:=0
def tw2087310373965956611:=0
def tw15070418599565061844:=0
def tw17597523845079758255:=0
def tw2191257440556300573:=0
def tw13767140176862198568:=0
def tw14193895995294686552:=0
def tw14119990111000358950:=0
def tw14998892956654804544:=0
def tw7637205320565978709:=0
def tw18158544521621584837:=0
def tw7181736777303232413:=0
def tw18044039522133865254:=0
def tw7487074543073817636:=0
def tw2195021964789497797:=0
def tw6716085853345754317:=0
def tw8817540052609785978:=0
def tw14514976913945426832:=0
def tw8603870281427606229:=0
def tw3166591530589921110:=0
def tw9406187275815021748:=0
def tw734374951654722142:=0
def tw9707417080200920798:=0
def tw16925140707677907188:=0
def tw12615473693546452768:=0
def tw4578588671964851668:=0
def tw18145364397875387851:=0
def tw8375097549519172634:=0
def tw1980296715103728786:=0
def tw9617061418345449059:=0
def tw6889330140363794496:=0
def tw1746452289415414536:=0
def tw16806875184986073848:=0
def tw14880020847196832538:=0
def tw13562615931350523729:=0
def tw7280086898708442619:=0
def tw8015487774687496691:=0
def tw4332717245264386254:=0
def tw12022373705229520000:=0
def tw4950940280671682831:=0
def tw2335075635784882785:=0
def tw13650753893438646297:=0
def tw18231894614003009314:=0
def tw17608262673472071614:=0
def tw14432960628686289166:=0
def tw2473829757954880487:=0
def tw4014521098793675717:=0
def tw15708623968010834919:=0
def tw13419445137144805486:=0
def tw8624155364647309844:=0
def tw9386375410507816866:=0
def tw18269678352104740671:=0
def tw2209344149298704506:=0
def tw387453111654330222:=0
def tw12474199299839271815:=0
def tw11714646202707407739:=0
def tw2156336392867540893:=0
def tw7598048019215940264:=0
def tw16452478895003128906:=0
def tw14957625652473465905:=0
def tw6043395242163604859:=0
def tw6305109430007236640:=0
def tw2854084097258681604:=0
def tw5671244162636031610:=0
def tw10725871694299153054:=0
def tw15296111704134056389:=0
def tw515517840841360161:=0
def tw13543566270757365058:=0
def tw13605969116027187881:=0
def tw748136256170918996:=0
def tw13927993245740379630:=0
def tw14107585440677872207:=0
def tw17246921092443571430:=0
def tw2864343573268456327:=0
def tw429176082800265322:=0
def tw11076728832753043511:=0
def tw4814689536147150387:=0
def tw11533084897367783353:=0
def tw5585387309368862446:=0
def tw12674398772351220345:=0
def tw15845374690411519408:=0
def tw12183533444059847779:=0
def tw7140082270002546739:=0
def tw10191615145106457254:=0
def tw1685230921478752590:=0
def tw1640251856684277643:=0
def tw17898471673209422579:=0
def tw18206204343613533458:=0
def tw6058819837549904681:=0
def tw6303259525647149748:=0
def tw6717094095269602331:=0
def tw5737257805798490715:=0
def tw232300135497498793:=0
def tw3866599480783837755:=0
def tw13164797507059895818:=0
def tw12995126077757724126:=0
def tw1293259125379983320:=0
def tw9744907105235562546:=0
def tw11939289809176293408:=0
def tw16995848494018001548:=0
def tw10735941240461820856:=0
def tw2077432764328029715:=0
def tw3801026755499981449:=0
def tw9186529098055254332:=0
def tw9800026067662743094:=0
def tw14691658244704610227:=0
def tw9636123834621344969:=0
def tw7093439029184694661:=0
def tw14358346448582442136:=0
def tw1668249564699552992:=0
def tw3698864175279984175:=0
def tw10362689696874353340:=0
def tw4731575495483066838:=0
def tw2626924338183071433:=0
def tw17011318662589974012:=0
def tw10076421435192323949:=0
def tw4857765630648191464:=0
def tw7095094635300463204:=0
def tw16648179932063797745:=0
def tw4583048993075304531:=0
def tw15151984984623958273:=0
def tw13036260804236784908:=0
def tw18226757966499669369:=0
def tw8424974286828745538:=0
def tw8915396875347392586:=0
def tw16085080211651246201:=0
def tw6196614722856815861:=0
def tw9460643872429566402:=0
def tw5285334763673805812:=0
def tw1921068357491724954:=0
def tw10081679343982665074:=0
def tw16483784586435334547:=0
def tw16787732141209593720:=0
def tw14545545567084380573:=0
def tw4001973295178353216:=0
def tw7190109809246068296:=0
def tw7623358583033016255:=0
def tw5806573878170444568:=0
def tw3606346055145925717:=0
def tw15599105415356296948:=0
def tw9312683312552506677:=0
def tw2167764637069392418:=0
def tw17832417967512837741:=0
def tw14246113947951617421:=0
def tw16105372897939186422:=0
def tw7427668449158236692:=0
def tw12236772766845236383:=0
def tw11886491170917185085:=0
def tw12008180246692483889:=0
def tw1186777386319508168:=0
def tw10017510620714384536:=0
def tw12743370443226012997:=0
def tw6512007680207836993:=0
def tw2211403115909943763:=0
def tw960048543842673726:=0
def tw6634880966046874260:=0
def tw7781505206535973435:=0
def tw11331656948545089578:=0
def tw17749086663920756238:=0
end PySem.W.Fast
open PySem PySem.W PyProof.Rows
set_option maxRecDepth 100000 in
set_option maxHeartbeats 0 in
theorem PySem.Challenge.cw_hookrail_k35_empty_ways_over_each_gap_holds : PySem.Challenge.rw_hookrail_k35_empty_ways_over_each_gap.Holds := by
 w_on;o_law;k_head;(case hw=>w_witness2)
 k_fill
 refine Kx.walk (l:=PySem.Challenge.rw_hookrail_k35_empty_ways_over_each_gap) rfl rfl (λw h Y=>YS Y) ?F
 case F =>
  intro w mg fa h KX G hmg;refine' Kx.qfb KX G hmg ?D0 ?D1 ?D2 ?D3 ?D4 ?D5 ?D6 ?D7 ?D8 ?D9 ?D10 ?D11 ?D12 ?D13 ?D14 ?D15 ?D16 ?D17 ?D18 ?D19 ?D20 ?D21 ?D22 ?D23 ?D24 ?D25 ?D26 ?D27 ?D28 ?D29 ?D30 ?D31 ?z_isinstance ?z_bool ?z_int ?z_len ?z_tuple ?z_list ?z_all ?z_sorted ?z_set ?z_zip ?z_enumerate ?z_reversed ?z_abs ?z_range ?z_max ?i_int ?i_bool ?i_tuple ?i_list
  (case D0|D1|D2|D3|D4|D5|D6|D7|D8|D9|D10|D11|D12|D13|D14|D15|D16|D17|D18|D19|D20|D21|D22|D23|D24|D25|D26|D27|D28|D29|D30|D31=>(refine' Hk.qgq ?a ?l ?c ?k;(case a=>k_is);(case l=>k_is);(case c=>k_is);(case k=>k_is)))
  (case z_isinstance|z_bool|z_int|z_len|z_tuple|z_list|z_all|z_sorted|z_set|z_zip|z_enumerate|z_reversed|z_abs|z_range|z_max=>k_is)
  (case i_int=>intro t ht;cases t <;> first|(exact absurd rfl ht)|rfl|k_is)
  (case i_bool=>intro t ht;cases t <;> first|(exact absurd rfl ht)|rfl|k_is)
  (case i_tuple=>intro t ht;cases t <;> first|(exact absurd rfl ht)|rfl|k_is)
  (case i_list=>intro t ht;cases t <;> first|(exact absurd rfl ht)|rfl|k_is)
#print axioms PySem.Challenge.cw_hookrail_k35_empty_ways_over_each_gap_holds
